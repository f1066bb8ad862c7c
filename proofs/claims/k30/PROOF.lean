import PyProof.Rows.All
import OpenK.KLine
import Lean
import PyProof.EqAt
import PyProof.EqKinds
import PyProof.TupleCall
import PyProof.NsDelKeeps
import PyProof.NeKinds
import PyProof.CompFree
import PyProof.CompMap
import KE.LcSums
import PyProof.CompUse
import PyProof.Rows.RuleIs
import PyProof.Rows.RuleIs2
import PyProof.ZipIter
import PyProof.DictKinds
import PyProof.DictRoads
import PyProof.AutoRange
import PyProof.FactsAll.range_1
import KE.KTryMore
import PyProof.ListRange
import PyProof.Rows.SortWalk
import KE.KDictOf
import KE.KDictList
import KE.KFromBytes
import KE.KIsAll
import KE.KItem
import KE.KxBytes
import KE.RegKIsAll
import KE.RegKTryMore
import PySem.Challenge.RW_slipring_k30_whole_two_halls
set_option Elab.async false
set_option linter.all false
set_option maxRecDepth 100000
set_option maxHeartbeats 4000000
section
open PySem PySem.W PyProof.Rows
set_option maxRecDepth 100000
set_option maxHeartbeats 0
theorem hk2{K:Params->Frag}{as:List Addr}(n:Nat)(e:∀P,as=(K P).map (·.1))(w:World)(s:Shared)(x:((as.take n).map s.heap.get?,(as.drop n).map s.heap.get?)=(((K w.params).take n).map (λp=>some p.2),((K w.params).drop n).map λp=>some p.2)):InK K w s.heap:=InK.of e w s (by simpa only[<-List.map_append,List.take_append_drop] using congr (congrArg (·++·) (Prod.mk.inj x).1) (Prod.mk.inj x).2)
set_option hygiene false in
local macro_rules|`(tactic| refine $hd ($n1 := $v1) ($n2 := $v2) ($n3 := $v3) ($n4 := $v4) ($n5 := $_ ($_ $k $a $e)) ($n6 := $_) ($n7 := $v7) ($n8 := $v8) $x1 $_ $x3 $x4 $x5 $x6 $x7 $x8 $x9 $x10 $x11 $x12 $x13 $x14 $x15)=>`(tactic| refine $hd ($n1 := $v1) ($n2 := $v2) ($n3 := $v3) ($n4 := $v4) ($n5 := fun s=>(List.map s.heap.get? (List.take 400 $a),List.map s.heap.get? (List.drop 400 $a))) ($n6 := fun w=>(List.map (fun p=>some p.2) (List.take 400 ($k w.params)),List.map (fun p=>some p.2) (List.drop 400 ($k w.params)))) ($n7 := $v7) ($n8 := $v8) $x1 (hk2 400 $e) $x3 $x4 $x5 $x6 $x7 $x8 $x9 $x10 $x11 $x12 $x13 $x14 $x15)
namespace PySem.W.Fast
def tw10368827614151553891:=()
def tw10374632558016547081:=()
def tw10627929193734500438:=()
def tw10901664760603054254:=()
def tw11077171220434159658:=()
def tw11589282660436910429:=()
def tw12699525408987719392:=()
def tw12731152576971404446:=()
def tw12760953981754158071:=()
def tw13142723645059500955:=()
def tw13265978090383273239:=()
def tw13865323600775035743:=()
def tw14303189345993109480:=()
def tw14650627522315821163:=()
def tw14800370929953404514:=()
def tw14820581166966647791:=()
def tw149376259441140051:=()
def tw14951217236003475940:=()
def tw15833063134330565768:=()
def tw164352185463013549:=()
def tw16506471722634982818:=()
def tw17171480963821208739:=()
def tw17689344090056996911:=()
def tw18249006988402537711:=()
def tw18254533201907969574:=()
def tw2195466600730450949:=()
def tw2197298608192791410:=()
def tw2875624504187281209:=()
def tw324991125379446337:=()
def tw3361968632180701959:=()
def tw3541781463879696891:=()
def tw363063605047721889:=()
def tw3945831679567021610:=()
def tw3965791119470065270:=()
def tw457078660713073659:=()
def tw5407970635648715744:=()
def tw5554126860467624031:=()
def tw6164711210335018796:=()
def tw6594970650091316094:=()
def tw6602405832144512284:=()
def tw6621635546502472408:=()
def tw6729993140109937563:=()
def tw6737491936526625402:=()
def tw7478123994339007903:=()
def tw750218472590112377:=()
def tw7774113678449685934:=()
def tw8140301515706720401:=()
def tw8297687530711312936:=()
def tw861502493610598483:=()
def tw8854275682344465072:=()
def tw8997383693586321770:=()
def tw9084383144594877151:=()
def tw9229122167030761583:=()
def tw9283766315261842419:=()
def tw9363214764283991203:=()
def tw9385439782273163706:=()
def tw938635154573522699:=()
def tw9557541446872002656:=()
def tw9615284947313788211:=()
def tw9723594395974361472:=()
def tw994629486567451560:=()
def tw7777280633956137809:=()
def tw12151077715039277381:=()
def tw12182174808115992843:=()
def tw5086489192560080304:=()
def tw2213964242967304950:=()
def tw13601115934706021691:=()
def tw9381626543082597023:=()
def tw10576836333797772347:=()
def tw6327569006664949090:=()
def tw4903002758410956813:=()
def tw13343918040275786880:=()
def tw5467331546851215429:=()
def tw10312438410070409164:=()
def tw4859391219904099992:=()
def tw7867829370405329436:=()
def tw11907897558876765624:=()
def tw1494636809467739440:=()
def tw4683681711962371626:=()
def tw7765643250661916132:=()
def tw5489724910278218894:=()
def tw16567430530900736849:=()
def tw16653001231794029247:=()
def tw9900248900824953880:=()
def tw1177135801721737414:=()
def tw12483548606279900826:=()
def tw862068910833498541:=()
def tw6128106870883400570:=()
def tw6306950242917791374:=()
def tw11063759124802658401:=()
def tw2285686636504529566:=()
def tw17880270911999261196:=()
def tw18275455617680221203:=()
def tw10158677189637292467:=()
def tw9003107776662980439:=()
def tw3394231194617021968:=()
def tw5306753302271460952:=()
def tw15572387867429868682:=()
def tw9553971096990549364:=()
def tw3603697650439363286:=()
def tw15743010393045028110:=()
def tw7873748247521183178:=()
def tw16607193741793207195:=()
def tw3665444673518743966:=()
def tw4290864757253303354:=()
def tw12058884036946728934:=()
def tw8908233856664302321:=()
def tw12858089460409395330:=()
def tw7164969610272591079:=()
def tw256182404569192445:=()
def tw14849461344987154502:=()
def tw12250869413391326473:=()
def tw12330612334027959195:=()
def tw14647417624928369756:=()
def tw17319301010117859952:=()
def tw9320515035125037321:=()
def tw6607644564249050058:=()
def tw5342471268416680606:=()
def tw1207101557538958131:=()
def tw16140922888777852060:=()
def tw17894200724404610344:=()
def tw2576523973992343609:=()
def tw13053394406489344094:=()
def tw5516177513244990836:=()
def tw7007286002206832825:=()
def tw463774138113389760:=()
def tw5000232492035539693:=()
def tw3817596123196066256:=()
def tw8297923619242306668:=()
def tw6973427100653255629:=()
def tw14671739901194505220:=()
def tw9399754086935153974:=()
def tw12542895121996172375:=()
def tw4524658085876675188:=()
def tw12681666616541194006:=()
def tw14454166528178196959:=()
def tw2132029292895624192:=()
def tw180266875558373844:=()
def tw10282777137419654623:=()
def tw16493865465440409018:=()
def tw5711038861398032994:=()
def tw646091604453992162:=()
def tw593343749668468936:=()
def tw4490611911172417597:=()
def tw9786136246686688387:=()
def tw11524815483048965402:=()
def tw866652123128751154:=()
def tw4449297822257671152:=()
def tw2867421004237479119:=()
def tw5395340147747708899:=()
def tw16412085850373738351:=()
def tw17499849576073844966:=()
def tw7538781388859322016:=()
def tw5277677811754103808:=()
def tw15752536640612570366:=()
def tw4841648585890091472:=()
def tw10244483600429949813:=()
def tw17963105932079019327:=()
def tw15763482434359817770:=()
def tw8916268530333523031:=()
def tw14736888041290939073:=()
def tw6915737295544688043:=()
def tw2773992215795510196:=()
def tw4884199854448574:=()
def tw3475869608268796686:=()
def tw15418378422589880096:=()
def tw8414355815457870901:=()
def tw539538531456391632:=()
def tw17852080271459398996:=()
def tw12884060626414724322:=()
def tw14404928986312190071:=()
def tw15060872555676474952:=()
def tw17188069144378779261:=()
def tw11962351593759143498:=()
def tw14372219517969529114:=()
def tw2781441929908095834:=()
def tw13547939009206843870:=()
def tw3303267245142563540:=()
def tw17694573340227235524:=()
def tw17817366049700826239:=()
def tw8752102160057688731:=()
def tw12020253756985099128:=()
def tw16765560720781731146:=()
def tw10295913840692754127:=()
def tw16103829930404553856:=()
def tw13813618637161013713:=()
def tw18293242582946804979:=()
def tw17339309145561079191:=()
def tw6329614223026926184:=()
def tw6420159726195949164:=()
def tw4341293187932698999:=()
def tw3328811466098603303:=()
def tw16925712312323332580:=()
def tw8737599933303070863:=()
def tw9592521066531166775:=()
def tw17980500129456985241:=()
def tw615563214671542189:=()
def tw14607143338591219252:=()
def tw12528221419883600679:=()
def tw11212356425047092601:=()
def tw6105849179199505303:=()
def tw3099597729799864441:=()
def tw7374399212775623666:=()
def tw15504105790966721872:=()
def tw5037459499596335280:=()
def tw14520296925931582552:=()
def tw991626836265849350:=()
def tw10551173667578312727:=()
def tw3456351732281881909:=()
def tw1293241653719404408:=()
def tw6575520176995025181:=()
def tw14553807712399142462:=()
def tw6822071536725586909:=()
def tw3233987462203235646:=()
def tw10741264400317747893:=()
def tw4015202173357781934:=()
def tw15235614512728720:=()
def tw6056707288978253535:=()
def tw8865387616306378214:=()
def tw8996207646774452837:=()
def tw8232614014015475128:=()
def tw5458571740234265576:=()
def tw9646623106273453227:=()
def tw622995879521568732:=()
def tw5269183497594736927:=()
def tw9847850075989111346:=()
def tw4189273013823423559:=()
def tw14329579894275425762:=()
def tw2333105410213810865:=()
def tw5890639436620234070:=()
def tw13034982811429478159:=()
def tw11859619671507778021:=()
def tw10151330197121100416:=()
def tw8331849164307833061:=()
def tw9433028549170029634:=()
def tw12903330217458380548:=()
def tw2983494736656345032:=()
def tw16902085369446701243:=()
def tw16864618592142003386:=()
def tw16797375974695604193:=()
def tw14963028359598502718:=()
def tw12435058653956393420:=()
def tw18094105663378112561:=()
def tw3075201292733833056:=()
def tw599730875272715187:=()
def tw2570914705882880060:=()
def tw2080317491765294665:=()
def tw9947508896943372755:=()
def tw9007994994280594889:=()
def tw4757880891971583632:=()
def tw18328257000508772394:=()
def tw908480701973217441:=()
def tw8833496514701923757:=()
def tw5634867526602368427:=()
def tw3270257207059953099:=()
def tw1941844328875101383:=()
def tw18060790324241045014:=()
def tw1642651162322924780:=()
def tw18060508904421208200:=()
def tw15702583709834301711:=()
def tw9592300441314626372:=()
def tw5816495043963226922:=()
def tw15627779663793561183:=()
def tw15138174406397646402:=()
def tw9113380124883318265:=()
def tw13055953723892786844:=()
def tw2641800013201688601:=()
def tw9879335643197240621:=()
def tw6798380500665416597:=()
def tw14594842627406614536:=()
def tw10888863842102328177:=()
def tw1070438729232803039:=()
def tw16203965252921439515:=()
def tw15240619367488684849:=()
def tw10713865542653931438:=()
def tw14061609134260724683:=()
def tw17731313482808627303:=()
def tw1010972086116683374:=()
def tw15475723433398761304:=()
def tw726351398001015727:=()
def tw10052031235695348791:=()
def tw5371794888043636658:=()
def tw11024694936033576346:=()
def tw14689541978594310382:=()
def tw5992840812097835891:=()
def tw11078473246598507814:=()
def tw13937768818610491111:=()
def tw17410218998227585676:=()
def tw2314633323536394700:=()
def tw2172276787581067923:=()
def tw10186303709888756887:=()
def tw10164718903369591474:=()
def tw9162645422354645296:=()
def tw14904287247971174143:=()
def tw18004296560267143027:=()
def tw7307589515853891572:=()
def tw7933485763601977624:=()
def tw17483705464198625004:=()
def tw15150329256914348856:=()
def tw6046103115902281144:=()
def tw7480016910919988345:=()
def tw7592715696027808041:=()
def tw9744259246892133002:=()
def tw8166255043249204926:=()
def tw8909772338491405060:=()
def tw4734895289157585001:=()
def tw6278996535519779258:=()
def tw11272164335830466941:=()
def tw5661595848482461739:=()
def tw2041926188850086339:=()
def tw3308634892276815127:=()
def tw11180800956215176064:=()
def tw12669407529647801677:=()
def tw16522183678017940807:=()
def tw11401859456886640639:=()
def tw13861322856664149509:=()
def tw1266446861824636:=()
def tw7942791058656714990:=()
def tw514280064592716601:=()
def tw6162269159774324313:=()
def tw7181997581385953548:=()
def tw685176793378778422:=()
def tw14710976976299594304:=()
def tw13345342141187717317:=()
def tw6216382948874008006:=()
def tw9878177214627512989:=()
def tw13539809779269347639:=()
def tw8140498317509980888:=()
def tw5388589039460942527:=()
def tw17558320327384617127:=()
def tw1000662321505670351:=()
def tw819570635367399668:=()
def tw2754868194923854518:=()
def tw2546767868308347339:=()
def tw10293081186089767411:=()
def tw13996866031312336078:=()
def tw7231845647793152400:=()
def tw5537553045615171315:=()
def tw4480162626587320490:=()
def tw855453113358079251:=()
def tw7837367980739423823:=()
def tw6058616519681280931:=()
def tw14651306747883248417:=()
def tw5285915839522022235:=()
def tw15895094517606616290:=()
def tw10956520680868813917:=()
def tw8186657734068701312:=()
def tw6248682570935725439:=()
def tw8047209995159408440:=()
def tw8646635810480103244:=()
def tw354308444213283272:=()
def tw2629151800749243262:=()
def tw18101783494082082527:=()
def tw17267597263503486738:=()
def tw8535803893964050539:=()
def tw12820068929977667819:=()
def tw12132732476715806282:=()
def tw17508347553164502932:=()
def tw6060609690816243450:=()
def tw5323657890516693427:=()
def tw4835942615686071818:=()
def tw15415318616479256277:=()
def tw8150244357695641675:=()
def tw3831019782443316194:=()
def tw10161179621583223854:=()
def tw6188973233030003785:=()
def tw7039168609848515032:=()
def tw2781137557867543911:=()
def tw4991487270385306882:=()
def tw9525436842865473142:=()
def tw7403982271040965895:=()
def tw9768259533172459722:=()
def tw15125770126966510544:=()
def tw7985883749528016586:=()
def tw14201004317487731011:=()
def tw7501186508268903616:=()
def tw3801850119919557013:=()
def tw2870957612703475602:=()
def tw3335794202401238526:=()
def tw7766106395892283477:=()
def tw3851428956369438258:=()
def tw11402884983299125971:=()
def tw11267315532378154396:=()
def tw8521684928402303493:=()
def tw14811107726043686439:=()
def tw13439652990877377571:=()
def tw3438699932752214802:=()
def tw14715273107921467267:=()
def tw609457278022895560:=()
def tw5493063752884776336:=()
def tw2386784164831690217:=()
def tw18124618509676941091:=()
def tw6876597610515428209:=()
def tw1848955828906020544:=()
def tw13124451607818894078:=()
def tw14617222483516278133:=()
def tw6921103065077540406:=()
def tw3981977580325598530:=()
def tw17346623794827051843:=()
def tw8622715204490130888:=()
def tw13291605708682370213:=()
def tw9739999909748841315:=()
def tw5376530373609499990:=()
def tw376983999666122830:=()
def tw1804834754348979943:=()
def tw12041797014711123256:=()
def tw4091352561680426876:=()
def tw6208910965292489261:=()
def tw15883763524195236716:=()
def tw14938211915633500526:=()
def tw7770478706760583155:=()
def tw6942634455013318504:=()
def tw11564986514327137767:=()
def tw12091442091272426231:=()
def tw5338801713223979382:=()
def tw9584292182412213727:=()
def tw1783128247137549839:=()
def tw15888466755372326495:=()
def tw13710940844802916613:=()
def tw17427164358705649990:=()
def tw6331431999304432861:=()
def tw9197174079833555027:=()
def tw15254633091992210921:=()
def tw6084841979344569690:=()
def tw8219003486749837733:=()
def tw2392593158011319353:=()
def tw16409965706819354750:=()
def tw12477129341811645039:=()
def tw4906484309439969231:=()
def tw13366278800048369731:=()
def tw16721508838639397229:=()
end PySem.W.Fast
open_top hd for PySem.Challenge.rw_slipring_k30_whole_two_halls
end
open PySem.W (Frag findIn nsIn mg_of mroIn keepIn kia_one excIn clsIn isFn mg_none_of plainGet hasDictIn makesIn codeIn exmAny plainOver callWith_K kitOne specialIn exmOne)
set_option hygiene false
local macro_rules
| `(↑1)=>`(⟨rfl,rfl,rfl,by decide +kernel,rfl,by decide +kernel,by decide +kernel⟩)
| `(↑2)=>`((λf cdv A' outer s H vs Q E hr h=>?_))
| `(↑3)=>`((by lia))
| `(↑4)=>`((a0c (K:=K) (pv 0)))
| `(↑5)=>`((λvs H Q E h=>?_))
| `(↑6)=>`((by decide))
| `(↑7)=>`(LH cl H A L.n L.c L.os L.bk L.gseen L.tseen ps Gq Tq tl lt)
| `(↑8)=>`((λf cdv A outer s H vs Q E hr h=>?_))
local macro_rules
| `(tactic|fail "a")=>`(tactic|(
  obtain⟨many,last,hB,hLast⟩:=hL.brd;obtain⟨⟨dxb,eb⟩,el,hlen,n2,n8⟩:=id hB;have p0:=Int.emod_nonneg t (show(n:Int)≠0 by lia)
  have p1:=Int.emod_lt_of_pos t (show(0:Int)<n by lia)
  have o0:=Int.emod_nonneg (t + -1) (show(2*(n:Int))≠0 by lia)
  have o1:=Int.emod_lt_of_pos (t + -1) (show 0<(2*(n:Int)) by lia)
  have q0:0<=ahd n t:=Int.emod_nonneg ((t + -1) % (2*(n:Int))) (show(n:Int)≠0 by lia)
  have q1:ahd n t<n:=Int.emod_lt_of_pos ((t + -1) % (2*(n:Int))) (show 0<(n:Int) by lia)))
| `(tactic|fail "b")=>`(tactic|(
  have hn:0<L.n:=ok.hn;have g0:gi L=L.g:=d8m e ↑6;have he0:Gq.he=.int ((L.g % (2*L.n):Nat):Int):=by rw[<- g0];exact hg.he (by rw[e];decide)
  have tn:=a4h (i:=L.g) hn;have nu0:Gq.nu=a0a L.os L.g:=by rw[<- g0];exact hg.nu (by rw[e];decide) (by rw[e];decide)
  have le0:Gq.le=a0g L.os L.g:=by rw[<- g0];exact hg.le (by rw[e];decide) (by rw[e];decide) (by rw[e];decide)))
| `(tactic|fail "c")=>`(tactic|(
  obtain⟨many,last,hB,hLast⟩:=hL.brd;obtain⟨⟨dxb,eb⟩,el,hlen,n2,n8⟩:=id hB))
| `(tactic|fail "d")=>`(tactic|(
  have hn:0<L.n:=ok.hn;have he0:Tq.he=.int ((L.t % (2*L.n):Nat):Int):=ht.he (by rw[e];rfl)
  have tn:=a4h (i:=L.t) hn;have nf0:Tq.nf=.int ((L.f % (2*L.n):Nat):Int):=by have:=ht.nf (by rw[e];rfl);rw[e] at this;exact this
  have pa0:ps=a1c L.os L.f (L.t-L.f):=by rw[ht.pa];exact if_neg (by rw[e];decide)))
| `(tactic|fail "e")=>`(tactic|(
  walk_at "go";refine c4j ?_;walk_at "go"))
| `(tactic|fail "f")=>`(tactic|(
  have nla:la≠x:=λz=>by rw[<- z,ela] at hx;cases hx
  have ela2:=kp _ _ (sm _ _ ela) (by simpa using nla)
  have nDx:D≠x:=λz=>by rw[z,d7] at hD;cases hD
  have nmx:m≠x:=λz=>by rw[z,d7] at hm;cases hm
  have hD0:=v2 sm hD;have hm0:=v2 sm hm;have nDl:D≠la:=λz=>by rw[z,ela] at hD0;cases hD0
  have nml:m≠la:=λz=>by rw[z,ela] at hm0;cases hm0))
| `(tactic|fail "g")=>`(tactic|(
  refine⟨_,rfl,?_⟩;walk_at "go";refine⟨A.bd,A.l,n,_,many,last,_,rfl,hB,?_⟩;rw[if_pos ⟨by lia,by rw[hlen];lia⟩]
  intro tt H' ht kp ett hB'))
set_option hygiene true
namespace L2
open PySem PySem.Spec PyProof.Rows
abbrev Key:=Sum Int Str
def d3b:Key->Value->Bool
 | .inl k,v=>Value.isInt k v
 | .inr x,v=>Value.isStrOf x v
def e9i(w:World):Key->Int
 | .inl k=>hashInt k
 | .inr x=>hashStr w x
theorem a0k:∀{k:Key}{v:Value},d3b k v=true->(∃i t,k=Sum.inl i/\v=Value.int i t)\/(∃x t,k=Sum.inr x/\v=Value.str x t)
 | .inl i,v,h=>by
  obtain⟨t,e⟩:=Value.isInt_shape (k:=i) (v:=v) h;exact .inl ⟨i,t,rfl,e⟩
 | .inr x,v,h=>by
  obtain⟨t,e⟩:=Value.isStrOf_shape (x:=x) (v:=v) h;exact .inr ⟨x,t,rfl,e⟩
theorem d5e(i:Int)(t:Tok):d3b (.inl i) (.int i t)=true:=by simp[d3b,Value.isInt]
theorem d5d(x:Str)(t:Tok):d3b (.inr x) (.str x t)=true:=by simp[d3b,Value.isStrOf]
theorem e4n(a b:Int):decide ((Sum.inl a:Key)=Sum.inl b)=(a == b):=by
 by_cases e:a=b
 ·subst e;simp
 ·have h:¬ (Sum.inl a:Key)=Sum.inl b:=λq=>e (Sum.inl.inj q)
  rw[decide_eq_false h];exact(beq_eq_false_iff_ne.mpr e).symm
theorem e4k(a b:Str):decide ((Sum.inr a:Key)=Sum.inr b)=decide (a=b):=by
 by_cases e:a=b
 ·subst e;simp
 ·have h:¬ (Sum.inr a:Key)=Sum.inr b:=λq=>e (Sum.inr.inj q)
  rw[decide_eq_false h,decide_eq_false e]
theorem e4m(a:Int)(b:Str):decide ((Sum.inl a:Key)=Sum.inr b)=false:=decide_eq_false (λq=>nomatch q)
theorem e4l(a:Str)(b:Int):decide ((Sum.inr a:Key)=Sum.inl b)=false:=decide_eq_false (λq=>nomatch q)
def a0v(prog:Program)(w:World):PySem.KeyKind prog w Key where
 is:=d3b
 hash:=e9i w
 inj:=λv a b ha hb=>by
  rcases a0k ha with ⟨i,t,rfl,rfl⟩|⟨x,t,rfl,rfl⟩
  ·rcases a0k hb with ⟨j,u,rfl,e⟩|⟨y,u,rfl,e⟩
   ·injection e with e1 _;rw[e1]
   ·exact nomatch e
  ·rcases a0k hb with ⟨j,u,rfl,e⟩|⟨y,u,rfl,e⟩
   ·exact nomatch e
   ·injection e with e1 _;rw[e1]
 byValue:=λk v h=>by
  rcases a0k h with ⟨i,t,rfl,rfl⟩|⟨x,t,rfl,rfl⟩ <;> rfl
 pyHash:=λhv h=>by
  rcases a0k hv with ⟨i,t,rfl,rfl⟩|⟨x,t,rfl,rfl⟩
  ·exact wpAny_pyHash_int h
  ·exact wpAny_pyHash_str h
 eqBool:=λhu hv h=>by
  rcases a0k hu with ⟨i,t,rfl,rfl⟩|⟨x,t,rfl,rfl⟩
  ·rcases a0k hv with ⟨j,u,rfl,rfl⟩|⟨y,u,rfl,rfl⟩
   ·rw[e4n] at h;exact wpAny_eqBool_int h
   ·rw[e4m] at h;exact SeqAt.EqAt.int_str i t y u _ _ _ _ h
  ·rcases a0k hv with ⟨j,u,rfl,rfl⟩|⟨y,u,rfl,rfl⟩
   ·rw[e4l] at h;exact SeqAt.EqAt.str_int x t j u _ _ _ _ h
   ·rw[e4k] at h;exact wpAny_eqBool_str h
 «strs»:=λk x t v h=>by
  rcases a0k h with ⟨i,u,rfl,e⟩|⟨y,u,rfl,e⟩
  ·exact nomatch e
  ·injection e with e1 _
   subst e1;cases v <;> rfl
theorem c9l(prog:Program)(w:World)(i:Int)(t:Tok):(a0v prog w).is (.inl i) (.int i t)=true:=d5e i t
theorem c9k(prog:Program)(w:World)(x:Str)(t:Tok):(a0v prog w).is (.inr x) (.str x t)=true:=d5d x t
inductive V where
 | non|bl (b:Bool)|int (i:Int)|str (x:Str)|byt (b:Array UInt8)|flt (b:UInt64)|ref (a:Addr)|ty (n:String)
 deriving DecidableEq
def RelV:V->Value->Prop
 | .non,u=>u=Value.none
 | .bl b,u=>u=Value.bool b
 | .int i,u=>∃t,u=Value.int i t
 | .str x,u=>∃t,u=Value.str x t
 | .byt b,u=>∃t,u=Value.bytes b t
 | .flt b,u=>∃t,u=Value.float b t
 | .ref a,u=>u=Value.ref a
 | .ty n,u=>u=Value.type n
abbrev Vals:List V->List Value->Prop:=Paired RelV
theorem Vals.length{xs:List V}{us:List Value}(r:Vals xs us):xs.length=us.length:=Paired.length r
theorem Vals.get:∀{xs:List V}{us:List Value}{i:Nat}{x:V},Vals xs us->xs[i]?=some x->∃u,us[i]?=some u/\RelV x u
 | _,_,_,_,.nil,e=>by simp at e
 | _,_,0,_,.cons r _,e=>by simp at e;subst e;exact⟨_,rfl,r⟩
 | _,_,i+1,x,.cons _ t,e=>by
  obtain⟨u,h1,h2⟩:=Vals.get (i:=i) (x:=x) t (by simpa using e)
  exact⟨u,by simpa using h1,h2⟩
theorem Vals.set{x:V}{u:Value}(r:RelV x u):∀{xs:List V}{us:List Value}(i:Nat),Vals xs us->Vals (xs.set i x) (us.set i u)
 | _,_,_,.nil=>.nil
 | _,_,0,.cons _ t=>.cons r t
 | _,_,i+1,.cons q t=>.cons q (Vals.set r i t)
theorem Vals.append{xs ys:List V}{us ws:List Value}(h:Vals xs us)(s:Vals ys ws):Vals (xs++ys) (us++ws):=by
 induction h with
 | nil=>exact s
 | cons r t ih=>exact .cons r ih
theorem Vals.take:∀{xs:List V}{us:List Value}(n:Nat),Vals xs us->Vals (xs.take n) (us.take n)
 | _,_,0,_=>.nil
 | _,_,_+1,.nil=>.nil
 | _,_,n+1,.cons r t=>.cons r (Vals.take n t)
theorem Vals.drop:∀{xs:List V}{us:List Value}(n:Nat),Vals xs us->Vals (xs.drop n) (us.drop n)
 | _,_,0,r=>r
 | _,_,_+1,.nil=>.nil
 | _,_,n+1,.cons _ t=>Vals.drop n t
def RelO:Option V->Option Value->Prop
 | some v,some u=>RelV v u
 | none,none=>True
 | _,_=>False
def KV{κ:Type}:List (κ×V)->List (κ×Value)->Prop:=Paired λ(p:κ×V) (q:κ×Value)=>p.1=q.1/\RelV p.2 q.2
def kV:Key->V
 | .inl i=>.int i
 | .inr x=>.str x
inductive HO where
 | lst (xs:List V)
 | tup (xs:List V)
 | dK (kvs:List (Key×V))|dT (kvs:List (List Key×V))
 | set (S:Int->Bool) (n:Nat)
 | ins (C dx:Addr) (fs:List (Str×V))
 | own (x:Addr)
 | xd (fs:List (Str×V))
 | met (f x:Addr)
 | rng (lo hi:Int)
 | frz (o:Obj) (u:HO)
 | tbl (ps:Array Value)
 | ext (φ:Heap->Prop)
abbrev Hp:=Addr->Option HO
def upd(H:Hp)(a:Addr)(o:HO):Hp:=λb=>if b=a then some o else H b
theorem d7{H:Hp}{a:Addr}{o:HO}:upd H a o a=some o:=by unfold upd;rw[if_pos rfl]
theorem c7{H:Hp}{a b:Addr}{o:HO}(h:b≠a):upd H a o b=H b:=by unfold upd;rw[if_neg h]
theorem d3l{H:Hp}{a:Addr}{o u:HO}:upd (upd H a o) a u=upd H a u:=by
 funext b;unfold upd;split <;> rfl
theorem a7b{H:Hp}{a b:Addr}{o u:HO}(h:H a=some o)(h':H b=some u)(d:o≠u):a≠b:=by
 intro e;subst e;rw[h] at h';exact d (Option.some.inj h')
theorem g9{H:Hp}{a b:Addr}{o:HO}(h:H a=some o)(h':H b=none):a≠b:=by
 intro e;subst e;rw[h] at h';cases h'
section
variable(P:Program)(w:World)
def ObjOk(H:Hp)(h:Heap)(a:Addr):HO->Prop
 | .lst xs=>xs.length<=sizeLine/\∃(its:List Value)(n:Nat),Vals xs its/\h.get? a=some { cls:=.type "list",data:=.seq its.toArray n }
 | .tup xs=>xs.length<=sizeLine/\∃its:List Value,Vals xs its/\IsTup h a its.toArray
 | .dK kvs=>kvs.length<=sizeLine/\(a == sysModules)=false/\∃vs,KV kvs vs/\h.DictOf (a0v P w) a vs
 | .dT kvs=>kvs.length<=sizeLine/\(a == sysModules)=false/\∃xs:List (List Key×Addr×Value),
   Paired (λ(p:List Key×V) (q:List Key×Addr×Value)=>p.1=q.1/\H q.2.1=some (.tup (p.1.map kV))/\RelV p.2 q.2.2) kvs xs /\
   ∃o es ep,h.get? a=some o/\o.ExactDict/\o.data=.dict es ep/\es.toList=xs.map (entryOfKey (tupleKind (a0v P w)))/\(xs.map (·.1)).Nodup
 | .set S n=>h.SetOf (intKind P w) a S n
 | .ins C dx fs=>H dx=some (.own a)/\fs.length<=1000/\dx≠a/\h.get? a=some (PySem.W.instObj C dx) /\
   ∃mA,h.Ns1 dx mA/\(∀f,RelO (fs.lookup f) (mA f))/\PySem.Within mA (fs.map (·.1))
 | .own _=>∃o,h.get? a=some o
 | .xd fs=>∃mA,h.Ns1 a mA/\∀f,RelO (fs.lookup f) (mA f)
 | .rng lo hi=>∃t u v,h.get? a=some { cls:=.type "range",data:=.fields #[.int lo t,.int hi u,.int 1 v] }
 | .frz o u=>h.get? a=some o/\ObjOk H h a u
 | .tbl ps=>h.get? a=some { cls:=.none,data:=.fields ps }
 | .met f x=>h.get? a=some (PySem.W.methodObj (.ref f) (.ref x))
 | .ext φ=>φ h/\(∃o,h.get? a=some o)/\∀h1 h2:Heap,φ h1->(∀o,h1.get? a=some o->h2.get? a=some o)->φ h2
def HOk(H:Hp)(h:Heap):Prop:=∀a o,H a=some o->ObjOk P w H h a o
end
section
variable{P:Program}{w:World}{H H':Hp}{h h':Heap}{a:Addr}{o:HO}
theorem ObjOk.lt(x:ObjOk P w H h a o):a<h.objs.size:=by
 cases o with
 | lst xs=>obtain⟨_,_,_,_,e⟩:=x;exact Heap.lt_size e
 | tup xs=>obtain⟨_,_,_,p⟩:=x;exact p.lt
 | dK kvs=>obtain⟨_,_,_,_,o,_,_,e,_⟩:=x;exact Heap.lt_size e
 | dT kvs=>obtain⟨_,_,_,_,o,_,_,e,_⟩:=x;exact Heap.lt_size e
 | set S n=>obtain⟨o,_,_,_,e,_⟩:=x;exact Heap.lt_size e
 | ins C dx fs=>obtain⟨_,_,_,e,_⟩:=x;exact Heap.lt_size e
 | own y=>obtain⟨_,e⟩:=x;exact Heap.lt_size e
 | xd fs=>obtain⟨_,⟨_,_,_,e,_⟩,_⟩:=x;exact Heap.lt_size e
 | rng lo hi=>obtain⟨_,_,_,e⟩:=x;exact Heap.lt_size e
 | frz ob u=>obtain⟨e,_⟩:=x;exact Heap.lt_size e
 | tbl ps=>exact Heap.lt_size (show h.get? a=some _ from x)
 | met f y=>exact Heap.lt_size (show h.get? a=some _ from x)
 | ext φ=>obtain⟨_,⟨_,e⟩,_⟩:=x;exact Heap.lt_size e
theorem Paired.mapP{α β:Type}{F G:α->β->Prop}{l₁:List α}{l₂:List β}(h:Paired F l₁ l₂)(f:∀a b,F a b->G a b):Paired G l₁ l₂:=by
 induction h with
 | nil=>exact .nil
 | cons r t ih=>exact .cons (f _ _ r) ih
theorem ObjOk.stay(x:ObjOk P w H h a o)(k:∀b u,(b=a\/H b=some (.own a))->h.get? b=some u->h'.get? b=some u)(ho:∀b,H b=some (.own a)->H' b=some (.own a))(ht:∀b xs,H b=some (.tup xs)->H' b=some (.tup xs)):ObjOk P w H' h' a o:=by
 induction o with
 | lst xs=>obtain⟨z,its,n,r,e⟩:=x;exact⟨z,its,n,r,k _ _ (.inl rfl) e⟩
 | tup xs=>obtain⟨z,its,r,ob,e,c⟩:=x;exact⟨z,its,r,ob,k _ _ (.inl rfl) e,c⟩
 | dK kvs=>obtain⟨z,y,vs,r,ob,es,ep,e,c⟩:=x;exact⟨z,y,vs,r,ob,es,ep,k _ _ (.inl rfl) e,c⟩
 | dT kvs=>
  obtain⟨z,y,xs,r,ob,es,ep,e,c⟩:=x;exact⟨z,y,xs,Paired.mapP r λp q z=>⟨z.1,ht _ _ z.2.1,z.2.2⟩,ob,es,ep,k _ _ (.inl rfl) e,c⟩
 | set S n=>obtain⟨ob,es,ep,t,e,c⟩:=x;exact⟨ob,es,ep,t,k _ _ (.inl rfl) e,c⟩
 | ins C dx fs=>
  obtain⟨d,z,ne,e,mA,⟨od,es,ep,e2,c⟩,r⟩:=x;exact⟨ho _ d,z,ne,k _ _ (.inl rfl) e,mA,⟨od,es,ep,k _ _ (.inr d) e2,c⟩,r⟩
 | own y=>obtain⟨ob,e⟩:=x;exact⟨ob,k _ _ (.inl rfl) e⟩
 | xd fs=>obtain⟨mA,⟨od,es,ep,e,c⟩,r⟩:=x;exact⟨mA,⟨od,es,ep,k _ _ (.inl rfl) e,c⟩,r⟩
 | rng lo hi=>obtain⟨t,u,v,e⟩:=x;exact⟨t,u,v,k _ _ (.inl rfl) e⟩
 | frz ob u ih=>obtain⟨e,q⟩:=x;exact⟨k _ _ (.inl rfl) e,ih q⟩
 | tbl ps=>
  have e:h.get? a=some { cls:=.none,data:=.fields ps }:=x;show h'.get? a=some { cls:=.none,data:=.fields ps };exact k a _ (.inl rfl) e
 | met f y=>
  have e:h.get? a=some (PySem.W.methodObj (.ref f) (.ref y)):=x;show h'.get? a=some (PySem.W.methodObj (.ref f) (.ref y));exact k a _ (.inl rfl) e
 | ext φ=>obtain⟨p,⟨o,e⟩,st⟩:=x;exact⟨st _ _ p λo q=>k _ _ (.inl rfl) q,⟨o,k _ _ (.inl rfl) e⟩,st⟩
theorem HOk.lt(x:HOk P w H h)(e:H a=some o):a<h.objs.size:=(x a o e).lt
theorem HOk.fresh(x:HOk P w H h)(e:h.objs.size<=a):H a=none:=by
 cases q:H a with
 | none=>rfl
 | some u=>exact absurd (Nat.lt_of_lt_of_le (x.lt q) e) (Nat.lt_irrefl _)
theorem HOk.kept(x:HOk P w H h)(k:∀b u,h.get? b=some u->h'.get? b=some u):HOk P w H h':=λa o e=>
 (x a o e).stay (λb u _ q=>k b u q) (λ_ q=>q) λ_ _ q=>q
theorem HOk.laid(x:HOk P w H h)(k:∀b u,h.get? b=some u->h'.get? b=some u)(hp:h.objs.size<=a)(new:ObjOk P w (upd H a o) h' a o):HOk P w (upd H a o) h':=λb u e=>by
 have hn:=x.fresh hp;by_cases hb:b=a
 ·subst hb;rw[d7] at e;cases e;exact new
 ·rw[c7 hb] at e
  exact(x b u e).stay (λc v _ q=>k c v q) (λc q=>by rw[c7 (g9 q hn)];exact q) λc xs q=>by rw[c7 (g9 q hn)];exact q
end
def Rd(H:Hp)(a:Addr)(u:HO):Prop:=H a=some u \/ ∃o,H a=some (.frz o u)
theorem Rd.ok{P:Program}{w:World}{H:Hp}{h:Heap}{a:Addr}{u:HO}(r:Rd H a u)(x:HOk P w H h):ObjOk P w H h a u:=by
 rcases r with r|⟨o,r⟩
 ·exact x a u r
 ·obtain⟨_,q⟩:=x a _ r
  exact q
def Mut:Option HO->Prop
 | some (.lst _)=>True
 | some (.dK _)=>True
 | some (.dT _)=>True
 | some (.set _ _)=>True
 | some (.ins _ _ _)=>True
 | some (.ext _)=>True
 | _=>False
section
variable{P:Program}{w:World}{H:Hp}{h h':Heap}{x e:Addr}{o':HO}
theorem HOk.write(ok:HOk P w H h)(mu:Mut (H x))(he:e=x\/H e=some (.own x))(k:∀b u,b≠e->h.get? b=some u->h'.get? b=some u)(heo:∃u,h'.get? e=some u)(new:ObjOk P w (upd H x o') h' x o'):HOk P w (upd H x o') h':=λb u q=>by
 have nown:∀c y,H c=some (.own y)->c≠x:=λc y r z=>by subst z;rw[r] at mu;exact mu
 have ntup:∀c xs,H c=some (.tup xs)->c≠x:=λc xs r z=>by subst z;rw[r] at mu;exact mu
 by_cases hb:b=x
 ·subst hb;rw[d7] at q;cases q;exact new
 ·rw[c7 hb] at q
  by_cases hbe:b=e
  ·have q':H b=some (.own x):=by
    rcases he with z|z
    ·exact absurd (hbe.trans z) hb
    ·rw[hbe];exact z
   rw[q] at q';cases q';obtain⟨v,hv⟩:=heo;exact⟨v,by rw[hbe];exact hv⟩
  ·refine (ok b u q).stay (λc v hc r=>k c v ?_ r) (λc r=>by rw[c7 (nown c b r)];exact r) λc xs r=>by rw[c7 (ntup c xs r)];exact r
   rcases hc with rfl|hc
   ·exact hbe
   ·rintro rfl
    rcases he with z|z
    ·exact nown c b hc z
    ·rw[hc] at z;cases z;exact hb rfl
end
structure Un(fs ex:List Addr)(H H':Hp)(h h':Heap):Prop where
 keep:∀b o,h.get? b=some o->H b=none->b ∉ fs->b ∉ ex->h'.get? b=some o
 slot:∀b o,h.get? b=some o->H b=none->b∈fs->b ∉ ex->∃sl,h'.get? b=some { o with slots:=sl }
 free:∀b o,h.get? b=some o->H b=none->b ∉ ex->H' b=none
 there:∀b o,h.get? b=some o->b ∉ ex->∃o',h'.get? b=some o'
 tups:∀b xs,H b=some (.tup xs)->H' b=some (.tup xs)
 frzs:∀b o u,H b=some (.frz o u)->H' b=some (.frz o u)
 tbls:∀b ps,H b=some (.tbl ps)->∃more,H' b=some (.tbl (ps++more))
section
variable{fs fs' ex ex':List Addr}{H H1 H2:Hp}{h h1 h2 h':Heap}{a x e:Addr}{o:HO}
theorem Un.any(u:Un fs ex H H1 h h1){b:Addr}{ob:Obj}(q:h.get? b=some ob)(n:H b=none)(hx:b ∉ ex):∃sl,h1.get? b=some { ob with slots:=sl }:=by
 by_cases hb:b∈fs
 ·exact u.slot b ob q n hb hx
 ·exact⟨ob.slots,u.keep b ob q n hb hx⟩
theorem Un.kept(k:∀b u,h.get? b=some u->h'.get? b=some u):Un fs ex H H h h' :=
 ⟨λb ob q _ _ _=>k b ob q,λb ob q _ _ _=>⟨ob.slots,k b ob q⟩,λ_ _ _ n _=>n,λb ob q _=>⟨ob,k b ob q⟩,λ_ _ q=>q,λ_ _ _ q=>q,λ_ ps q=>⟨#[],by rw[q];simp⟩⟩
theorem Un.refl:Un fs ex H H h h:=Un.kept λ_ _ q=>q
theorem Un.laid(k:∀b u,h.get? b=some u->h'.get? b=some u)(hp:h.objs.size<=a)(hn:H a=none):Un fs ex H (upd H a o) h h' where
 keep:=λb u q _ _ _=>k b u q
 slot:=λb u q _ _ _=>⟨u.slots,k b u q⟩
 free:=λb u q n _=>by rw[c7 (Nat.ne_of_lt (Nat.lt_of_lt_of_le (Heap.lt_size q) hp))];exact n
 there:=λb u q _=>⟨u,k b u q⟩
 tups:=λb xs q=>by rw[c7 (g9 q hn)];exact q
 frzs:=λb u xs q=>by rw[c7 (g9 q hn)];exact q
 tbls:=λb ps q=>⟨#[],by rw[c7 (g9 q hn),q];simp⟩
theorem Un.write(mu:Mut (H x))(he:e=x\/H e=some (.own x))(k:∀b u,b≠e->h.get? b=some u->h'.get? b=some u)(heo:∃u,h'.get? e=some u):Un fs ex H (upd H x o) h h':=by
 have hx:∀b,H b=none->b≠x:=λb n z=>by subst z;rw[n] at mu;exact mu
 have hb:∀b,H b=none->b≠e:=λb n z=>by
  subst z;rcases he with r|r
  ·exact hx b n r
  ·rw[n] at r;cases r
 have hm:∀b u,H b=some u->¬ Mut (some u)->b≠x:=λb u q nm z=>by subst z;rw[q] at mu;exact nm mu
 refine⟨λb u q n _ _=>k b u (hb b n) q,λb u q n _ _=>⟨u.slots,k b u (hb b n) q⟩,λb u q n _=>by rw[c7 (hx b n)];exact n,λb u q _=>?_,
  λb xs q=>by rw[c7 (hm b _ q λz=>z)];exact q,λb u xs q=>by rw[c7 (hm b _ q λz=>z)];exact q,λb ps q=>⟨#[],by rw[c7 (hm b _ q λz=>z),q];simp⟩⟩
 by_cases hbe:b=e
 ·subst hbe;exact heo
 ·exact⟨u,k b u hbe q⟩
end
def trk(h:Heap)(H:Hp):List Addr:=(List.range h.objs.size).filter λa=>(H a).isSome
def d8l(h:Heap)(H:Hp):Heap:=PySem.W.hideAll h (trk h H)
theorem d5k(h:Heap)(H:Hp):(d8l h H).objs.size=h.objs.size:=PySem.W.hideAll_size _ _
theorem d8k{h:Heap}{H:Hp}{b:Addr}{o:Obj}(e:h.get? b=some o)(n:H b=none):(d8l h H).get? b=some o :=
 PySem.W.hideAll_get _ e λhm=>by
  have q:(H b).isSome=true:=(List.mem_filter.mp hm).2;rw[n] at q;simp at q
theorem e1j{h:Heap}{H:Hp}{b:Addr}{o:Obj}(e:(d8l h H).get? b=some o):h.get? b=some o/\H b=none:=by
 have e':h.get? b=some o:=PySem.W.of_hideAll (trk h H) e;refine⟨e',?_⟩;cases q:H b with
 | none=>rfl
 | some x=>
  have hm:b∈trk h H:=List.mem_filter.mpr ⟨List.mem_range.mpr (Heap.lt_size e'),by simp[q]⟩
  have z:(d8l h H).get? b=none:=PySem.W.hideAll_none (trk h H) hm;rw[z] at e;cases e
structure Mod(K:Frag)(mg:Str->Option Value)(qb:Heap):Prop where
 kin:K.In qb
 glob:qb.Ns mainGlobals mg
 blt:∃mb,qb.Ns builtinsNs mb/\∀x:Str,x≠"__name__"->mb x=bootBuiltins x
 nolimit:qb.NoLimit
structure Cx where
 prog:Program
 w:World
 K:Frag
 mg:Str->Option Value
 qb:Heap
 A:Around
 N:List Str
 s₀:Shared
 H₀:Hp
 env:Env
 outer:List Env
 stack:List Env
 ex:List Addr
 fn:Str->Bool
 calm:Bool
 pn:List (Addr×Obj)
 xe:Value->Shared->Prop
def frs(l:List Env):List Addr:=l.filterMap (·.frame)
abbrev Cx.fs(X:Cx):List Addr:=frs X.outer
def Vis(sc:Scope)(x:Str):Prop:=sc.names.lookup x=some .local\/sc.names.lookup x=some .cell\/sc.names.lookup x=some .free
def Loc(sc:Scope)(x:Str):Prop:=sc.names.lookup x=some .local\/sc.names.lookup x=some .cell
def e9x(env:Env)(h:Heap)(m:Str->Option Value)(x:Str)(u:Value):Prop :=
 (env.kindOf x=some .local/\m x=some u)\/((env.kindOf x=some .cell\/env.kindOf x=some .free)/\∃c,env.cells.lookup x=some c/\h.IsCell c (some u))
structure Cx.Ok(X:Cx):Prop where
 mod:Mod X.K X.mg X.qb
 kind:X.env.scope.kind=.function
 glob:X.env.globals=mainGlobals
 blt:X.env.builtins=builtinsNs
 above:X.s₀.heap.objs.size<=X.env.locals
 inj:∀x y c,X.env.cells.lookup x=some c->X.env.cells.lookup y=some c->x=y
 has:∀x,(X.env.kindOf x=some .cell\/X.env.kindOf x=some .free)->∃c,X.env.cells.lookup x=some c
 cab:∀x c,X.fn x=true->X.env.cells.lookup x=some c->X.s₀.heap.objs.size<=c
 hd:X.calm=true->X.A.handled=none
 frames:X.A.frames=some X.stack
 stk:X.stack=X.outer\/(X.stack=X.env::X.outer/\X.env.frame=some X.env.locals)
 exf:∀b∈X.ex,b≠X.env.locals/\∀x c,X.env.cells.lookup x=some c->c≠b
 bs:∀b o,X.qb.get? b=some o->X.s₀.heap.get? b=some o/\X.H₀ b=none
 bsz:X.qb.objs.size<=X.s₀.heap.objs.size
 noex:∀b o,X.qb.get? b=some o->b ∉ X.ex
 exfs:∀b∈X.ex,b ∉ X.fs
 funs:X.s₀.heap.FunFrames X.qb X.outer
 frf:∀b∈X.fs,X.H₀ b=none
structure Inv(X:Cx)(qa:List (Addr×Obj))(σ:List (Option V))(H:Hp)(s:Shared):Prop where
 ok:X.Ok
 os:s.os=X.s₀.os
 bare:AllBare s.gens
 qb:Un X.fs X.ex X.H₀ H X.s₀.heap s.heap
 loc:∃m,s.heap.Ns X.env.locals m/\∀(i:Nat)(x:Str)(v:V),X.N[i]?=some x->σ[i]?=some (some v)->Vis X.env.scope x->∃u,RelV v u/\e9x X.env s.heap m x u
 cell:∀x c,X.env.cells.lookup x=some c->∃v,s.heap.IsCell c v
 free:H X.env.locals=none
 freeC:∀x c,X.env.cells.lookup x=some c->H c=none
 pin:∀p∈X.pn++qa,s.heap.get? p.1=some p.2/\H p.1=none/\p.1≠X.env.locals/\p.1 ∉ X.fs/\∀v,p.2.data≠.cell v
 hok:HOk X.prog X.w H s.heap
 len:σ.length=X.N.length
section
variable{X:Cx}{qa:List (Addr×Obj)}{σ:List (Option V)}{H H':Hp}{s:Shared}{h':Heap}
theorem Cx.Ok.nofr(ok:X.Ok){b:Addr}{o:Obj}(e:X.qb.get? b=some o):b ∉ X.fs:=λhb=>by
 have:=(ok.funs.mem hb).1;rw[e] at this;cases this
theorem Inv.bs(I:Inv X qa σ H s):∀b o,X.qb.get? b=some o->s.heap.get? b=some o/\H b=none:=λb o e=>
 ⟨I.qb.keep b o (I.ok.bs b o e).1 (I.ok.bs b o e).2 (I.ok.nofr e) (I.ok.noex b o e),I.qb.free b o (I.ok.bs b o e).1 (I.ok.bs b o e).2 (I.ok.noex b o e)⟩
theorem Inv.bk(I:Inv X qa σ H s):∀b o,X.qb.get? b=some o->s.heap.get? b=some o:=λb o e=>(I.bs b o e).1
theorem Inv.mod(I:Inv X qa σ H s):Mod X.K X.mg X.qb:=I.ok.mod
theorem Inv.kIn(I:Inv X qa σ H s):X.K.In s.heap:=I.ok.mod.kin.keeps I.bk
theorem Inv.lt(I:Inv X qa σ H s):X.env.locals<s.heap.objs.size:=by obtain⟨_,hn,_⟩:=I.loc;exact hn.lt
theorem Inv.sz(I:Inv X qa σ H s):X.s₀.heap.objs.size<=s.heap.objs.size:=Nat.le_trans I.ok.above (Nat.le_of_lt I.lt)
theorem Inv.nofs(I:Inv X qa σ H s){a:Addr}(h:s.heap.objs.size<=a):a ∉ X.fs:=λhb=>by
 obtain⟨_,o,ho,_⟩:=I.ok.funs.mem hb;exact absurd (Nat.lt_of_lt_of_le (Heap.lt_size ho) (Nat.le_trans I.sz h)) (Nat.lt_irrefl _)
theorem Inv.cne(I:Inv X qa σ H s):∀x c,X.env.cells.lookup x=some c->c≠X.env.locals:=λx c e z=>by
 obtain⟨v,o,ho,hd⟩:=I.cell x c e;obtain⟨m,⟨o',es,ep,ho',hd',_⟩,_⟩:=I.loc;rw[z,ho'] at ho;cases ho;rw[hd'] at hd;cases hd
theorem Inv.funs(I:Inv X qa σ H s):s.heap.FunFrames X.qb X.outer:=by
 have all:∀(l:List Env),(∀b∈frs l,b∈X.fs)->X.s₀.heap.FunFrames X.qb l->s.heap.FunFrames X.qb l:=by
  intro l
  induction l with
  | nil=>intro _ _;trivial
  | cons env r ih=>
   intro hs hl;obtain⟨hk,⟨L,o,hf,hn,ho,hd⟩,hr⟩:=hl;have hL:L∈X.fs:=hs L (by unfold frs;rw[List.filterMap_cons,hf];exact List.mem_cons_self)
   obtain⟨sl,e⟩:=I.qb.slot L o ho (I.ok.frf L hL) hL λz=>I.ok.exfs L z hL;exact⟨hk,⟨L,_,hf,hn,e,hd⟩,ih (λb hb=>hs b (by unfold frs;rw[List.filterMap_cons,hf];exact List.mem_cons_of_mem _ hb)) hr⟩
 exact all X.outer (λ_ hb=>hb) I.ok.funs
theorem Inv.stack(I:Inv X qa σ H s):s.heap.FunFrames X.qb X.stack:=by
 rcases I.ok.stk with e|⟨e,hf⟩
 ·rw[e];exact I.funs
 ·rw[e]
  obtain⟨m,hn,_⟩:=I.loc;refine .cons (by rw[I.ok.kind];decide) hf hn ?_ I.funs
  exact Heap.get?_none_of_le (Nat.le_trans I.ok.bsz I.ok.above)
theorem Inv.stkSub(I:Inv X qa σ H s):∀b∈frs X.stack,b∈X.env.locals::X.fs:=λb hb=>by
 rcases I.ok.stk with e|⟨e,hf⟩
 ·rw[e] at hb;exact List.mem_cons_of_mem _ hb
 ·rw[e] at hb
  unfold frs at hb;rw[List.filterMap_cons,hf] at hb;exact hb
theorem Inv.stkFree(I:Inv X qa σ H s):∀b∈frs X.stack,H b=none:=λb hb=>by
 rcases List.mem_cons.mp (I.stkSub b hb) with e|hb
 ·rw[e];exact I.free
 ·obtain⟨_,o,ho,_⟩:=I.ok.funs.mem hb
  exact I.qb.free b o ho (I.ok.frf b hb) λz=>I.ok.exfs b z hb
theorem Inv.step{g':Array GenState}{t':Nat}{d':Drawn}{ch:List Addr}(I:Inv X qa σ H s)(hch:∀b∈ch,(b∈X.ex\/X.s₀.heap.objs.size<=b)/\b≠X.env.locals/\(∀x c,X.env.cells.lookup x=some c->c≠b)/\∀p∈X.pn++qa,p.1≠b)(keep:∀b o,b≠X.env.locals->b ∉ X.fs->b ∉ ch->s.heap.get? b=some o->H b=none->h'.get? b=some o)(slot:∀b o,b≠X.env.locals->b∈X.fs->b ∉ ch->s.heap.get? b=some o->H b=none->∃sl,h'.get? b=some { o with slots:=sl })(free:∀b o,b ∉ ch->s.heap.get? b=some o->H b=none->H' b=none)(there:∀b o,b ∉ ch->s.heap.get? b=some o->∃o',h'.get? b=some o')(tups:∀b xs,H b=some (.tup xs)->H' b=some (.tup xs))(frzs:∀b o u,H b=some (.frz o u)->H' b=some (.frz o u))(tbls:∀b ps,H b=some (.tbl ps)->∃more,H' b=some (.tbl (ps++more)))(ns:∀m,s.heap.Ns X.env.locals m->h'.Ns X.env.locals m)(hok:HOk X.prog X.w H' h')(hg:AllBare g'):
  Inv X qa σ H' { s with heap:=h',gens:=g',drawn:=d',toks:=t' }:=by
 have neL:∀b o,X.s₀.heap.get? b=some o->b≠X.env.locals:=λb o e=>Nat.ne_of_lt (Nat.lt_of_lt_of_le (Heap.lt_size e) I.ok.above);have neC:∀b o,X.s₀.heap.get? b=some o->b ∉ X.ex->b ∉ ch:=λb o e hx hb=>by
  rcases (hch b hb).1 with z|z
  ·exact hx z
  ·exact absurd (Nat.lt_of_lt_of_le (Heap.lt_size e) z) (Nat.lt_irrefl _)
 have cellK:∀x c,X.env.cells.lookup x=some c->∀v,s.heap.IsCell c v->h'.IsCell c v:=λx c e v zb_=>by
  obtain⟨o,ho,hd⟩:=zb_;have nch:c ∉ ch:=λz=>(hch c z).2.2.1 x c e rfl;by_cases hc:c∈X.fs
  ·obtain⟨sl,q⟩:=slot c o (I.cne x c e) hc nch ho (I.freeC x c e)
   exact⟨_,q,hd⟩
  ·exact⟨o,keep c o (I.cne x c e) hc nch ho (I.freeC x c e),hd⟩
 refine⟨I.ok,I.os,hg,⟨λb o e n hb hx=>?_,λb o e n hb hx=>?_,λb o e n hx=>?_,λb o e hx=>?_,λb xs e=>tups b xs (I.qb.tups b xs e),λb o xs e=>frzs b o xs (I.qb.frzs b o xs e),λb ps e=>?_⟩,?_,λx c e=>?_,?_,λx c e=>?_,λp hp=>?_,hok,I.len⟩
 ·exact keep b o (neL b o e) hb (neC b o e hx) (I.qb.keep b o e n hb hx) (I.qb.free b o e n hx)
 ·obtain⟨sl,e1⟩:=I.qb.slot b o e n hb hx
  obtain⟨sl',e2⟩:=slot b _ (neL b o e) hb (neC b o e hx) e1 (I.qb.free b o e n hx);exact⟨sl',e2⟩
 ·obtain⟨o',e1⟩:=I.qb.there b o e hx
  exact free b o' (neC b o e hx) e1 (I.qb.free b o e n hx)
 ·obtain⟨o',e1⟩:=I.qb.there b o e hx
  exact there b o' (neC b o e hx) e1
 ·obtain⟨m1,e1⟩:=I.qb.tbls b ps e
  obtain⟨m2,e2⟩:=tbls b _ e1;exact⟨m1++m2,by rw[e2,Array.append_assoc]⟩
 ·obtain⟨m,hn,hl⟩:=I.loc
  refine⟨m,ns m hn,λi x v e1 e2 e3=>?_⟩;obtain⟨u,r,l⟩:=hl i x v e1 e2 e3;refine⟨u,r,?_⟩;rcases l with l|⟨k,c,e,z⟩
  ·exact .inl l
  ·exact .inr ⟨k,c,e,cellK x c e _ z⟩
 ·obtain⟨v,z⟩:=I.cell x c e
  exact⟨v,cellK x c e v z⟩
 ·obtain⟨m,⟨o,_,_,ho,_⟩,_⟩:=I.loc
  exact free _ o (λz=>(hch _ z).2.1 rfl) ho I.free
 ·obtain⟨v,o,ho,hd⟩:=I.cell x c e
  exact free c o (λz=>(hch c z).2.2.1 x c e rfl) ho (I.freeC x c e)
 ·obtain⟨e,n,ne,nf,d⟩:=I.pin p hp
  have nch:p.1 ∉ ch:=λz=>(hch p.1 z).2.2.2 p hp rfl;exact⟨keep p.1 p.2 ne nf nch e n,free p.1 p.2 nch e n,ne,nf,d⟩
theorem Inv.un{t':Nat}(I:Inv X qa σ H s)(u:Un X.fs [] H H' s.heap h')(hok:HOk X.prog X.w H' h'):Inv X qa σ H' { s with heap:=h',toks:=t' }:=by
 obtain⟨m,⟨o,es,ep,ho,r⟩,_⟩:=id I.loc;obtain⟨sl,hL⟩:=u.any ho I.free (by simp)
 exact I.step (g':=s.gens) (d':=s.drawn) (ch:=[]) (λ_ z=>nomatch z) (λb o _ hb _ e n=>u.keep b o e n hb (by simp)) (λb o _ hb _ e n=>u.slot b o e n hb (by simp)) (λb o _ e n=>u.free b o e n (by simp)) (λb o _ e=>u.there b o e (by simp)) u.tups u.frzs u.tbls (λm' hm=>by
  obtain⟨o',es',ep',ho',r'⟩:=hm;rw[ho] at ho';cases ho';exact⟨_,es',ep',hL,r'⟩) hok I.bare
theorem Inv.call{g':Array GenState}{t':Nat}{d':Drawn}{ch:List Addr}(I:Inv X qa σ H s)(u:Un (frs X.stack) ch H H' s.heap h')(hok:HOk X.prog X.w H' h')(hg:AllBare g')(hch:∀b∈ch,(b∈X.ex\/X.s₀.heap.objs.size<=b)/\b≠X.env.locals/\(∀x c,X.env.cells.lookup x=some c->c≠b)/\∀p∈X.pn++qa,p.1≠b):
  Inv X qa σ H' { s with heap:=h',gens:=g',drawn:=d',toks:=t' }:=by
 obtain⟨m,⟨o,es,ep,ho,r⟩,_⟩:=id I.loc;obtain⟨sl,hL⟩:=u.any ho I.free λz=>(hch _ z).2.1 rfl;exact I.step (ch:=ch) hch (λb o hL hb hc e n=>u.keep b o e n (λz=>(List.mem_cons.mp (I.stkSub b z)).elim hL hb) hc) (λb o _ _ hc e n=>u.any e n hc) (λb o hc e n=>u.free b o e n hc) (λb o hc e=>u.there b o e hc) u.tups u.frzs u.tbls (λm' hm=>by
  obtain⟨o',es',ep',ho',r'⟩:=hm;rw[ho] at ho';cases ho';exact⟨_,es',ep',hL,r'⟩) hok hg
theorem Inv.turned{t':Nat}{it:Addr}(I:Inv X qa σ H s)(k:∀b o,b≠it->s.heap.get? b=some o->h'.get? b=some o)(hn:H it=none)(hL:it≠X.env.locals)(h1:it∈X.ex\/X.s₀.heap.objs.size<=it)(h2:∀x c,X.env.cells.lookup x=some c->c≠it)(h3:∀p∈X.pn++qa,p.1≠it):Inv X qa σ H { s with heap:=h',toks:=t' }:=by
 have nit:∀b u,H b=some u->b≠it:=λb u e z=>by rw[z,hn] at e;cases e
 refine I.step (g':=s.gens) (d':=s.drawn) (ch:=[it]) (λb hb=>?_) (λb o _ _ hc e _=>k b o (λz=>hc (by simp[z])) e) (λb o _ _ hc e _=>⟨o.slots,k b o (λz=>hc (by simp[z])) e⟩) (λ_ _ _ _ n=>n)
  (λb o hc e=>⟨o,k b o (λz=>hc (by simp[z])) e⟩) (λ_ _ e=>e) (λ_ _ _ e=>e) (λb ps e=>⟨#[],by rw[e];simp⟩) (λm hm=>?_) (λb u e=>?_) I.bare
 ·have e:b=it:=by simpa using hb
  subst e;exact⟨h1,hL,h2,h3⟩
 ·obtain⟨o,es,ep,ho,r⟩:=hm
  exact⟨o,es,ep,k _ o (Ne.symm hL) ho,r⟩
 ·refine (I.hok b u e).stay (λc v hc q=>k c v ?_ q) (λ_ q=>q) λ_ _ q=>q
  rcases hc with z|z
  ·rw[z];exact nit b u e
  ·exact nit c _ z
theorem Inv.tok(I:Inv X qa σ H s)(t:Nat):Inv X qa σ H { s with toks:=t }:=I.un (h':=s.heap) (t':=t) Un.refl I.hok
theorem Inv.kept{t':Nat}(I:Inv X qa σ H s)(k:∀b u,s.heap.get? b=some u->h'.get? b=some u):Inv X qa σ H { s with heap:=h',toks:=t' }:=I.un (Un.kept k) (I.hok.kept k)
theorem Inv.laid{a:Addr}{o:HO}{t':Nat}(I:Inv X qa σ H s)(k:∀b u,s.heap.get? b=some u->h'.get? b=some u)(hp:s.heap.objs.size<=a)(new:ObjOk X.prog X.w (upd H a o) h' a o):
  Inv X qa σ (upd H a o) { s with heap:=h',toks:=t' }:=I.un (Un.laid k hp (I.hok.fresh hp)) (I.hok.laid k hp new)
theorem Inv.write{x e:Addr}{o:HO}{t':Nat}(I:Inv X qa σ H s)(mu:Mut (H x))(he:e=x\/H e=some (.own x))(k:∀b u,b≠e->s.heap.get? b=some u->h'.get? b=some u)(heo:∃u,h'.get? e=some u)(new:ObjOk X.prog X.w (upd H x o) h' x o):Inv X qa σ (upd H x o) { s with heap:=h',toks:=t' }:=I.un (Un.write mu he k heo) (I.hok.write mu he k heo new)
theorem Inv.weak{σ':List (Option V)}(I:Inv X qa σ H s)(hl:σ'.length=σ.length)(w:∀(i:Nat) v,σ'[i]?=some (some v)->σ[i]?=some (some v)):Inv X qa σ' H s :=
 ⟨I.ok,I.os,I.bare,I.qb,let ⟨m,hn,hl'⟩:=I.loc;⟨m,hn,λi x v e1 e2 e3=>hl' i x v e1 (w i v e2) e3⟩,I.cell,I.free,I.freeC,I.pin,I.hok,hl.trans I.len⟩
theorem Inv.pins_of{pins':List (Addr×Obj)}(I:Inv X qa σ H s)(h:∀p∈pins',s.heap.get? p.1=some p.2/\H p.1=none/\p.1≠X.env.locals/\p.1 ∉ X.fs/\∀v,p.2.data≠.cell v):Inv X pins' σ H s :=
 ⟨I.ok,I.os,I.bare,I.qb,I.loc,I.cell,I.free,I.freeC,λp hp=>(List.mem_append.mp hp).elim (λz=>I.pin p (List.mem_append_left _ z)) (h p),I.hok,I.len⟩
theorem d0u{N:List Str}(hN:N.Nodup){i j:Nat}{x:Str}(a:N[i]?=some x)(b:N[j]?=some x):i=j:=by
 obtain⟨h1,e1⟩:=List.getElem?_eq_some_iff.mp a;obtain⟨h2,e2⟩:=List.getElem?_eq_some_iff.mp b;exact(List.getElem_inj hN).mp (e1.trans e2.symm)
theorem c4w{M:Model}{A:Around}{E:Value->Shared->Prop}{i:Nat}{x:Str}{v:V}{u:Value}{Q:Unit->Shared->Prop}(I:Inv X qa σ H s)(hN:X.N.Nodup)(hi:X.N[i]?=some x)(hx:Loc X.env.scope x)(r:RelV v u)(h:∀s',Inv X qa (σ.set i (some v)) H s'->(∃a,Heap.SameBut a s.heap s'.heap/\(a=X.env.locals\/X.env.cells.lookup x=some a))->Q () s')(hf:X.fn x=true\/X.env.scope.names.lookup x=some .local:=by first|exact .inl rfl|exact .inr rfl|assumption):wpAny M A (storeName X.env x u) Q E s:=by
 obtain⟨m,hn,hl⟩:=id I.loc;have hcls:(X.env.scope.kind == .class || (X.env.scope.kind == .module && X.env.locals != X.env.globals))=false:=by rw[I.ok.kind];rfl
 have hiσ:i<σ.length:=by rw[I.len];exact(List.getElem?_eq_some_iff.mp hi).1
 have cne:=I.cne;have tracked:∀{a:Addr}{h':Heap},(∃o,s.heap.get? a=some o/\H a=none)->Heap.SameBut a s.heap h'->HOk X.prog X.w H h':=λ{a h'} ha hs b ob e=>by
  obtain⟨_,_,hfree⟩:=ha;refine (I.hok b ob e).stay (λc w' hc q=>(hs.2 c ?_).trans q) (λ_ q=>q) λ_ _ q=>q;rintro rfl;rcases hc with rfl|hc
  ·rw[hfree] at e;cases e
  ·rw[hfree] at hc;cases hc
 rcases hx with hk|hk
 ·refine wpAny_storeName_local hk hn (λh' hn' hs=>?_) hcls
  obtain⟨oL,_,_,hoL,_⟩:=id hn;refine h _ ⟨I.ok,I.os,I.bare,⟨λb o e n hb hx=>?_,λb o e n hb hx=>?_,I.qb.free,λb o e hx=>?_,I.qb.tups,I.qb.frzs,I.qb.tbls⟩,⟨_,hn',λj y v' e1 e2 e3=>?_⟩,λy c e=>?_,I.free,I.freeC,λp hp=>?_,tracked ⟨oL,hoL,I.free⟩ hs,by simpa using I.len⟩ ⟨_,hs,.inl rfl⟩
  ·exact(hs.2 b (Nat.ne_of_lt (Nat.lt_of_lt_of_le (Heap.lt_size e) I.ok.above))).trans (I.qb.keep b o e n hb hx)
  ·obtain⟨sl,e1⟩:=I.qb.slot b o e n hb hx
   exact⟨sl,(hs.2 b (Nat.ne_of_lt (Nat.lt_of_lt_of_le (Heap.lt_size e) I.ok.above))).trans e1⟩
  ·obtain⟨o',e1⟩:=I.qb.there b o e hx
   exact⟨o',(hs.2 b (Nat.ne_of_lt (Nat.lt_of_lt_of_le (Heap.lt_size e) I.ok.above))).trans e1⟩
  ·by_cases hj:j=i
   ·subst hj
    rw[hi] at e1;cases e1;rw[List.getElem?_set_self hiσ] at e2;cases e2;exact⟨u,r,.inl ⟨hk,by simp⟩⟩
   ·rw[List.getElem?_set_ne (Ne.symm hj)] at e2
    obtain⟨u',r',q⟩:=hl j y v' e1 e2 e3;refine⟨u',r',?_⟩;rcases q with ⟨k,e⟩|⟨k,c,e,z⟩
    ·refine .inl ⟨k,?_⟩
     have:y≠x:=λe=>hj (d0u hN e1 (e ▸ hi));simp[this,e]
    ·exact .inr ⟨k,c,e,z.sameBut hs (cne y c e)⟩
  ·obtain⟨w',z⟩:=I.cell y c e
   exact⟨w',z.sameBut hs (cne y c e)⟩
  ·obtain⟨e,n,ne,nf,d⟩:=I.pin p hp
   exact⟨(hs.2 p.1 ne).trans e,n,ne,nf,d⟩
 ·have hfn:X.fn x=true:=by
   rcases hf with z|z
   ·exact z
   ·rw[z] at hk;cases hk
  obtain⟨c,hc⟩:=I.ok.has x (.inl hk);obtain⟨w',z⟩:=I.cell x c hc;refine wpAny_storeName_cell I.ok.kind hk hc z (λh' hc' hs=>?_);obtain⟨oc,hoc,hocd⟩:=id z;refine h { s with heap:=h' } ⟨I.ok,I.os,I.bare,⟨λb o e n hb hx=>?_,λb o e n hb hx=>?_,I.qb.free,λb o e hx=>?_,I.qb.tups,I.qb.frzs,I.qb.tbls⟩,⟨m,hn.sameBut hs (Ne.symm (cne x c hc)),λj y v' e1 e2 e3=>?_⟩,λy c' e=>?_,I.free,I.freeC,λp hp=>?_,tracked ⟨oc,hoc,I.freeC x c hc⟩ hs,by simpa using I.len⟩ ⟨c,hs,.inr hc⟩
  ·exact(hs.2 b (Nat.ne_of_lt (Nat.lt_of_lt_of_le (Heap.lt_size e) (I.ok.cab x c hfn hc)))).trans (I.qb.keep b o e n hb hx)
  ·obtain⟨sl,e1⟩:=I.qb.slot b o e n hb hx
   exact⟨sl,(hs.2 b (Nat.ne_of_lt (Nat.lt_of_lt_of_le (Heap.lt_size e) (I.ok.cab x c hfn hc)))).trans e1⟩
  ·obtain⟨o',e1⟩:=I.qb.there b o e hx
   exact⟨o',(hs.2 b (Nat.ne_of_lt (Nat.lt_of_lt_of_le (Heap.lt_size e) (I.ok.cab x c hfn hc)))).trans e1⟩
  ·by_cases hj:j=i
   ·subst hj
    rw[hi] at e1;cases e1;rw[List.getElem?_set_self hiσ] at e2;cases e2;exact⟨u,r,.inr ⟨.inl hk,c,hc,hc'⟩⟩
   ·rw[List.getElem?_set_ne (Ne.symm hj)] at e2
    obtain⟨u',r',q⟩:=hl j y v' e1 e2 e3;refine⟨u',r',?_⟩;rcases q with q|⟨k,c',e,z'⟩
    ·exact .inl q
    ·refine .inr ⟨k,c',e,z'.sameBut hs ?_⟩
     rintro rfl;exact hj (d0u hN e1 (I.ok.inj _ _ _ e hc ▸ hi))
  ·by_cases hcc:c'=c
   ·subst hcc;exact⟨_,hc'⟩
   ·obtain⟨w2,z2⟩:=I.cell y c' e
    exact⟨w2,z2.sameBut hs hcc⟩
  ·obtain⟨e,n,ne,nf,d⟩:=I.pin p hp
   refine⟨(hs.2 p.1 ?_).trans e,n,ne,nf,d⟩;intro q;rw[q,hoc] at e;have q':oc=p.2:=Option.some.inj e;exact d w' (by rw[<- q'];exact hocd)
theorem c1n{M:Model}{A:Around}{E:Value->Shared->Prop}{i:Nat}{x:Str}{v:V}{u:Value}{Q:Unit->Shared->Prop}(I:Inv X qa σ H s)(hN:X.N.Nodup)(hi:X.N[i]?=some x)(hx:Loc X.env.scope x)(r:RelV v u)(h:∀s',Inv X qa (σ.set i (some v)) H s'->Q () s')(hf:X.fn x=true\/X.env.scope.names.lookup x=some .local:=by first|exact .inl rfl|exact .inr rfl|assumption):wpAny M A (storeName X.env x u) Q E s :=
 c4w I hN hi hx r (λs' I' _=>h s' I') hf
theorem Inv.call'{s':Shared}{ch:List Addr}(I:Inv X qa σ H s)(ho:s'.os=s.os)(u:Un (frs X.stack) ch H H' s.heap s'.heap)(hok:HOk X.prog X.w H' s'.heap)(hg:AllBare s'.gens)(hch:∀b∈ch,(b∈X.ex\/X.s₀.heap.objs.size<=b)/\b≠X.env.locals/\(∀x c,X.env.cells.lookup x=some c->c≠b)/\∀p∈X.pn++qa,p.1≠b):Inv X qa σ H' s':=by
 obtain⟨h',g',d',t',o'⟩:=s';have e:o'=s.os:=ho;subst e;exact I.call (g':=g') (t':=t') (d':=d') u hok hg hch
end
abbrev XK:=Value->Option Addr->Hp->Prop
abbrev St:=List (Option V)
abbrev VK:=V->Hp->Prop
abbrev TE:=St->Hp->VK->Prop
abbrev TT:=St->Hp->(Bool->Hp->Prop)->Prop
abbrev TA:=St->Hp->(List V->Hp->Prop)->Prop
structure d6x where
 nx:St->Hp->Prop
 rt:VK
 bk:St->Hp->Prop:=λ_ _=>False
 ct:St->Hp->Prop:=λ_ _=>False
abbrev TS:=d6x->St->Hp->Prop
def EP(X:Cx)(qa:List (Addr×Obj))(σ:St)(Q:VK)(u:Value)(s':Shared):Prop:=∃v H',Inv X qa σ H' s'/\RelV v u/\Q v H'
def TP(X:Cx)(qa:List (Addr×Obj))(σ:St)(Q:Bool->Hp->Prop)(b:Bool)(s':Shared):Prop:=∃H',Inv X qa σ H' s'/\Q b H'
def AP(X:Cx)(qa:List (Addr×Obj))(σ:St)(Q:List V->Hp->Prop)(us:List Value)(s':Shared):Prop:=∃vs H',Inv X qa σ H' s'/\Vals vs us/\Q vs H'
def SP(X:Cx)(qa:List (Addr×Obj))(D:d6x)(f:Flow)(s':Shared):Prop :=
 match f with
 | .next=>∃σ' H',Inv X qa σ' H' s'/\D.nx σ' H'
 | .brk=>∃σ' H',Inv X qa σ' H' s'/\D.bk σ' H'
 | .cont=>∃σ' H',Inv X qa σ' H' s'/\D.ct σ' H'
 | .ret u=>∃v σ' H',Inv X qa σ' H' s'/\RelV v u/\D.rt v H'
def PE(X:Cx)(e:Expr)(t:TE):Prop :=
 ∀(qa:List (Addr×Obj))(s:Shared)(σ:St)(H:Hp)(Q:VK),Inv X qa σ H s->t σ H Q->wpAny (model X.prog X.w) X.A (eval e X.env) (EP X qa σ Q) X.xe s
def PT(X:Cx)(e:Expr)(t:TT):Prop :=
 ∀(qa:List (Addr×Obj))(s:Shared)(σ:St)(H:Hp)(Q:Bool->Hp->Prop),Inv X qa σ H s->t σ H Q->wpAny (model X.prog X.w) X.A (isTrue e X.env (eval e X.env)) (TP X qa σ Q) X.xe s
def PW(X:Cx)(e:Expr)(t:TT):Prop :=
 ∀(whole:Sem Value)(qa:List (Addr×Obj))(s:Shared)(σ:St)(H:Hp)(Q:Bool->Hp->Prop),Inv X qa σ H s->t σ H Q->wpAny (model X.prog X.w) X.A (isTrue e X.env whole) (TP X qa σ Q) X.xe s
theorem PW.pt{X:Cx}{e:Expr}{t:TT}(h:PW X e t):PT X e t:=h _
def PA(X:Cx)(es:List Expr)(t:TA):Prop :=
 ∀(pos:Pos)(qa:List (Addr×Obj))(s:Shared)(σ:St)(H:Hp)(Q:List V->Hp->Prop),Inv X qa σ H s->t σ H Q->wpAny (model X.prog X.w) X.A (spliced (backTo pos (starEach es X.env))) (AP X qa σ Q) X.xe s
def PS(X:Cx)(st:Stmt)(t:TS):Prop :=
 ∀(qa:List (Addr×Obj))(s:Shared)(σ:St)(H:Hp)(D:d6x),Inv X qa σ H s->t D σ H->wpAny (model X.prog X.w) X.A (exec st X.env) (SP X qa D) X.xe s
def PSs(X:Cx)(st:List Stmt)(t:TS):Prop :=
 ∀(qa:List (Addr×Obj))(s:Shared)(σ:St)(H:Hp)(D:d6x),Inv X qa σ H s->t D σ H->wpAny (model X.prog X.w) X.A (execs st X.env) (SP X qa D) X.xe s
theorem thn{α:Type}{t:Sem α}{Q Q':α->Shared->Prop}{M:Model}{A:Around}{E:Value->Shared->Prop}{s:Shared}(h:wpAny M A t Q E s)(hQ:∀a s,Q a s->Q' a s):wpAny M A t Q' E s:=wpAny_mono h hQ λ_ _ x=>x
section
variable{X:Cx}
def e2z(i:Nat):TE:=λσ H Q=>∃v,σ[i]?=some (some v)/\Q v H
def tC(v:V):TE:=λ_ H Q=>Q v H
theorem d9k{i:Nat}{x:Str}{pos:Pos}(hN:X.N[i]?=some x)(hv:Vis X.env.scope x)(hd:(x == ("__debug__":Str))=false:=by decide)(hcd:(x == ("__classdict__":Str))=false:=by decide):PE X (.Name x pos) (e2z i):=by
 intro qa s σ H Q I h;obtain⟨v,e,h⟩:=h;obtain⟨m,hn,hl⟩:=I.loc;obtain⟨u,r,l⟩:=hl i x v hN e hv;have fin:EP X qa σ Q u s:=⟨v,H,I,r,h⟩;rcases l with ⟨hk,hm⟩|⟨hk,c,hc,hcell⟩
 ·exact wpAny_Name (wpAny_loadName_local I.ok.kind hk hn hm fin) hd
 ·rcases hk with hk|hk
  ·exact wpAny_Name (wpAny_loadName_cell I.ok.kind hk hc hcell fin) hd
  ·exact wpAny_Name (wpAny_loadName_free I.ok.kind hk hc hcell fin hcd) hd
theorem i8{i j pos}:PE X (.Constant (.int i) j pos) (tC (.int i)):=λ_ _ _ H _ I h=>wpAny_Constant_int ⟨.int i,H,I.tok _,⟨_,rfl⟩,h⟩
theorem a9s{b j pos}:PE X (.Constant (.bool b) j pos) (tC (.bl b)):=λ_ _ _ H _ I h=>Constant_bool ⟨.bl b,H,I,rfl,h⟩
theorem d4k{j pos}:PE X (.Constant .none j pos) (tC .non):=λ_ _ _ H _ I h=>Constant_none ⟨.non,H,I,rfl,h⟩
theorem k0{x j pos}:PE X (.Constant (.str x) j pos) (tC (.str x)):=λ_ _ _ H _ I h=>Calls.Constant_str ⟨.str x,H,I.tok _,⟨_,rfl⟩,h⟩
def Gl(X:Cx)(x:Str):Prop:=X.env.kindOf x=some .globalImplicit
theorem c4d{E:Value->Shared->Prop}{qa:List (Addr×Obj)}{s:Shared}{σ:St}{H:Hp}{x:Str}{u:Value}{pos:Pos}{Q:Value->Shared->Prop}(I:Inv X qa σ H s)(hg:Gl X x)(hm:X.mg x=some u)(h:Q u s)(hd:(x == ("__debug__":Str))=false:=by decide):wpAny (model X.prog X.w) X.A (eval (.Name x pos) X.env) Q E s :=
 Calls.Name_function_global I.ok.kind hg (Calls.loadGlobal_global (by rw[I.ok.glob];exact I.mod.glob.keeps I.bk) hm h) hd
theorem b9l{E:Value->Shared->Prop}{qa:List (Addr×Obj)}{s:Shared}{σ:St}{H:Hp}{x:Str}{u:Value}{pos:Pos}{Q:Value->Shared->Prop}(I:Inv X qa σ H s)(hg:Gl X x)(hm:X.mg x=none)(hv:bootBuiltins x=some u)(h:Q u s)(hn:x≠"__name__":=by decide)(hd:(x == ("__debug__":Str))=false:=by decide):wpAny (model X.prog X.w) X.A (eval (.Name x pos) X.env) Q E s:=by
 obtain⟨mb,h1,h2⟩:=I.mod.blt;exact Calls.Name_function_global I.ok.kind hg (Calls.loadGlobal_builtin (by rw[I.ok.glob];exact I.mod.glob.keeps I.bk) hm (by rw[I.ok.blt];exact h1.keeps I.bk) ((h2 x hn).trans hv) h) hd
theorem c8u{x:Str}{v:V}{u:Value}{pos:Pos}(hg:Gl X x)(hm:X.mg x=some u)(r:RelV v u)(hd:(x == ("__debug__":Str))=false:=by decide):PE X (.Name x pos) (tC v) :=
 λ_ _ _ H _ I h=>c4d I hg hm ⟨v,H,I,r,h⟩ hd
theorem e1f{x:Str}{v:V}{u:Value}{pos:Pos}(hg:Gl X x)(hm:X.mg x=none)(hv:bootBuiltins x=some u)(r:RelV v u)(hn:x≠"__name__":=by decide)(hd:(x == ("__debug__":Str))=false:=by decide):PE X (.Name x pos) (tC v) :=
 λ_ _ _ H _ I h=>b9l I hg hm hv ⟨v,H,I,r,h⟩ hn hd
variable{a b:Expr}{ta tb:TE}{pos:Pos}
def PC(X:Cx)(op:CmpOp)(a b:Expr)(t:TE):Prop :=
 ∀(qa:List (Addr×Obj))(s:Shared)(σ:St)(H:Hp)(Q:VK),Inv X qa σ H s->t σ H Q ->
  wpAny (model X.prog X.w) X.A (eval a X.env) (λv s₁=>wpAny (model X.prog X.w) X.A (eval b X.env) (λu s₂=>wpAny (model X.prog X.w) X.A (compareOp op v u) (EP X qa σ Q) X.xe s₂) X.xe s₁) X.xe s
def tB(t:TE):TT:=λσ H Q=>t σ H λx H1=>∃c,x=.bl c/\Q c H1
theorem e3u{op:CmpOp}{t:TE}(h:PC X op a b t)(h1:behindInMarks op b=false:=by first|exact nobehind _ ↑6 ↑6|rfl):PT X (.Compare a [op] [b] pos) (tB t):=by
 intro qa s σ H Q I hw;refine wpAny_isTrue_Compare1 (thn (h qa s σ H _ I hw) λv s1 h1=>thn h1 λu s2 h2=>thn h2 λc s3 z0_=>?_) h1;obtain⟨x,H1,I1,r1,q1⟩:=z0_;obtain⟨d,rfl,q⟩:=q1;cases r1;exact wpAny_truthy_bool ⟨H1,I1,q⟩
theorem a8c{e:Expr}{t:TE}(h:PE X e t)(he:∀whole,isTrue e X.env whole=(do let v <- whole;standAt e.pos;holding [v] (truthy v)):=by intro _;rfl):PT X e (tB t):=by
 intro qa s σ H Q I hw;refine isTrue_plain (thn (h qa s σ H _ I hw) λv s1 z0_=>?_) (he _);obtain⟨x,H1,I1,r1,q1⟩:=z0_;obtain⟨d,rfl,q⟩:=q1;cases r1;exact wpAny_truthy_bool ⟨H1,I1,q⟩
variable{tA tB':TT}{rest:List Expr}
def e8l(t u:TT):TT:=λσ H Q=>t σ H λc H1=>if c=true then u σ H1 Q else Q false H1
def tOr(t u:TT):TT:=λσ H Q=>t σ H λc H1=>if c=true then Q true H1 else u σ H1 Q
def e8i(t:TT):TT:=λσ H Q=>t σ H λc H1=>Q (!c) H1
theorem c2v(ha:PT X a tA):PW X (.BoolOp .And [a] pos) tA:=by
 intro wh qa s σ H Q I h;refine isTrue_and (thn (ha qa s σ H Q I h) λc s1 e=>?_);cases c with
 | true=>exact isTrue_and_nil e
 | false=>exact e
theorem a8b(ha:PT X a tA):PW X (.BoolOp .Or [a] pos) tA:=by
 intro wh qa s σ H Q I h;refine isTrue_or (thn (ha qa s σ H Q I h) λc s1 e=>?_);cases c with
 | false=>exact isTrue_or_nil e
 | true=>exact e
theorem d0n(ha:PT X a tA)(hb:PW X (.BoolOp .And (b::rest) pos) tB'):PW X (.BoolOp .And (a::b::rest) pos) (e8l tA tB'):=by
 intro wh qa s σ H Q I h;refine isTrue_and (thn (ha qa s σ H _ I h) λc s1 z0_=>?_);obtain⟨H1,I1,q1⟩:=z0_;cases c with
 | true=>exact hb wh qa s1 σ H1 Q I1 q1
 | false=>exact⟨H1,I1,q1⟩
theorem b4h(ha:PT X a tA)(hb:PW X (.BoolOp .Or (b::rest) pos) tB'):PW X (.BoolOp .Or (a::b::rest) pos) (tOr tA tB'):=by
 intro wh qa s σ H Q I h;refine isTrue_or (thn (ha qa s σ H _ I h) λc s1 z0_=>?_);obtain⟨H1,I1,q1⟩:=z0_;cases c with
 | true=>exact⟨H1,I1,q1⟩
 | false=>exact hb wh qa s1 σ H1 Q I1 q1
theorem c0y(ha:PT X a tA):PT X (.UnaryOp .Not a pos) (e8i tA):=by
 intro qa s σ H Q I h;exact isTrue_not (ha qa s σ H (λc H1=>Q (!c) H1) I h)
def e3n(ta tb:TE):TE:=λσ H Q=>ta σ H λx H1=>∃c,x=.bl c/\if c=true then tb σ H1 Q else Q (.bl false) H1
def e8h(ta tb:TE):TE:=λσ H Q=>ta σ H λx H1=>∃c,x=.bl c/\if c=true then Q (.bl true) H1 else tb σ H1 Q
def e3c(ta:TE):TE:=λσ H Q=>ta σ H λx H1=>∃c,x=.bl c/\Q (.bl (!c)) H1
theorem b4k{op}{t:TE}(h:PE X a t):PE X (.BoolOp op [a] pos) t:=λqa s σ H Q I hw=>BoolOp_one (h qa s σ H Q I hw)
theorem b9a(ha:PE X a ta)(hb:PE X (.BoolOp .And (b::rest) pos) tb):PE X (.BoolOp .And (a::b::rest) pos) (e3n ta tb):=by
 intro qa s σ H Q I h;refine BoolOp_and (thn (ha qa s σ H _ I h) λv s1 z0_=>?_);obtain⟨x,H1,I1,r1,q1⟩:=z0_;obtain⟨c,rfl,q1⟩:=q1;cases r1;refine wpAny_truthy_bool ?_;cases c with
 | true=>exact hb qa s1 σ H1 Q I1 q1
 | false=>exact⟨.bl false,H1,I1,rfl,q1⟩
theorem e1a(ha:PE X a ta)(hb:PE X (.BoolOp .Or (b::rest) pos) tb):PE X (.BoolOp .Or (a::b::rest) pos) (e8h ta tb):=by
 intro qa s σ H Q I h;refine BoolOp_or (thn (ha qa s σ H _ I h) λv s1 z0_=>?_);obtain⟨x,H1,I1,r1,q1⟩:=z0_;obtain⟨c,rfl,q1⟩:=q1;cases r1;refine wpAny_truthy_bool ?_;cases c with
 | false=>exact hb qa s1 σ H1 Q I1 q1
 | true=>exact⟨.bl true,H1,I1,rfl,q1⟩
theorem e4a(ha:PE X a ta):PE X (.UnaryOp .Not a pos) (e3c ta):=by
 intro qa s σ H Q I h;refine UnaryOp_ (thn (ha qa s σ H _ I h) λv s1 z0_=>?_);obtain⟨x,H1,I1,r1,q1⟩:=z0_;obtain⟨c,rfl,q1⟩:=q1;cases r1;exact not_of (wpAny_truthy_bool ⟨.bl (!c),H1,I1,rfl,q1⟩)
def tIf(t:TT)(ta tb:TE):TE:=λσ H Q=>t σ H λc H1=>if c=true then ta σ H1 Q else tb σ H1 Q
theorem a6b{c:Expr}(hc:PT X c tA)(ha:PE X a ta)(hb:PE X b tb):PE X (.IfExp c a b pos) (tIf tA ta tb):=by
 intro qa s σ H Q I h;refine wpAny_IfExp (thn (hc qa s σ H _ I h) λd s1 z0_=>?_);obtain⟨H1,I1,q1⟩:=z0_;cases d with
 | true=>exact ha qa s1 σ H1 Q I1 q1
 | false=>exact hb qa s1 σ H1 Q I1 q1
end
def SqL(K:Frag)(H:Hp)(a:Addr)(xs:List V):Prop :=
 Rd H a (.lst xs) \/
  ∃(o:Obj)(its:Array Value)(n:Nat),K.lookup a=some o/\o.cls=.type "list"/\o.dict=none/\o.data=.seq its n/\its.size<=sizeLine/\Vals xs its.toList
def SqT(K:Frag)(H:Hp)(a:Addr)(xs:List V):Prop :=
 Rd H a (.tup xs) \/
  ∃(o:Obj)(its:Array Value)(n:Nat),K.lookup a=some o/\o.cls=.type "tuple"/\o.data=.seq its n/\its.size<=sizeLine/\Vals xs its.toList
def e9w:Value->Option V
 | .none=>some .non
 | .bool b=>some (.bl b)
 | .int i _=>some (.int i)
 | .str x _=>some (.str x)
 | .bytes b _=>some (.byt b)
 | .float b _=>some (.flt b)
 | .ref a=>some (.ref a)
 | .type n=>some (.ty n)
 | _=>none
theorem RelV.abs{x:V}{u:Value}(r:RelV x u):e9w u=some x:=by
 cases x with
 | non=>cases r;rfl
 | bl _=>cases r;rfl
 | int _=>obtain⟨t,rfl⟩:=r;rfl
 | str _=>obtain⟨t,rfl⟩:=r;rfl
 | byt _=>obtain⟨t,rfl⟩:=r;rfl
 | flt _=>obtain⟨t,rfl⟩:=r;rfl
 | ref _=>cases r;rfl
 | ty _=>cases r;rfl
theorem RelV.inj{x y:V}{u:Value}(r:RelV x u)(q:RelV y u):x=y:=Option.some.inj (r.abs.symm.trans q.abs)
theorem Vals.inj{xs ys:List V}{us:List Value}(h:Vals xs us)(h':Vals ys us):xs=ys:=by
 induction h generalizing ys with
 | nil=>cases h';rfl
 | cons r t ih=>cases h' with|cons r' t'=>rw[r.inj r',ih t']
section
variable{X:Cx}{qa:List (Addr×Obj)}{σ:St}{H:Hp}{s:Shared}{a:Addr}{xs ys:List V}
theorem SqL.of{K:Frag}(h:H a=some (.lst xs)):SqL K H a xs:=.inl (.inl h)
theorem SqT.of{K:Frag}(h:H a=some (.tup xs)):SqT K H a xs:=.inl (.inl h)
theorem Inv.list(I:Inv X qa σ H s)(h:SqL X.K H a xs):∃its:List Value,Vals xs its/\PlainL s.heap a its.toArray/\xs.length<=sizeLine:=by
 rcases h with h|⟨o,its,n,hk,hc,hd,hs,hz,r⟩
 ·obtain⟨z,its,n,r,e⟩:=h.ok I.hok
  exact⟨its,r,⟨_,n,e,rfl,rfl,rfl⟩,z⟩
 ·refine⟨its.toList,r,⟨o,n,I.kIn a o hk,hc,hd,by simpa using hs⟩,?_⟩
  have e:=r.length;simp only[Array.length_toList] at e;lia
theorem Inv.tuple(I:Inv X qa σ H s)(h:SqT X.K H a xs):∃its:List Value,Vals xs its/\IsTup s.heap a its.toArray/\xs.length<=sizeLine:=by
 rcases h with h|⟨o,its,n,hk,hc,hs,hz,r⟩
 ·obtain⟨z,its,r,p⟩:=h.ok I.hok
  exact⟨its,r,p,z⟩
 ·refine⟨its.toList,r,⟨o,I.kIn a o hk,hc,n,by simpa using hs⟩,?_⟩
  have e:=r.length;simp only[Array.length_toList] at e;lia
theorem Inv.list_inj(I:Inv X qa σ H s)(h:SqL X.K H a xs)(h':SqL X.K H a ys):xs=ys:=by
 obtain⟨its,r,⟨o,n,e,_,_,d⟩,_⟩:=I.list h;obtain⟨its',r',⟨o',n',e',_,_,d'⟩,_⟩:=I.list h';rw[e] at e';cases e';rw[d] at d';injection d' with d1 _
 have:its=its':=by simpa using congrArg Array.toList d1
 subst this;exact r.inj r'
theorem Inv.tuple_inj(I:Inv X qa σ H s)(h:SqT X.K H a xs)(h':SqT X.K H a ys):xs=ys:=by
 obtain⟨its,r,⟨o,e,_,n,d⟩,_⟩:=I.tuple h;obtain⟨its',r',⟨o',e',_,n',d'⟩,_⟩:=I.tuple h';rw[e] at e';cases e';rw[d] at d';injection d' with d1 _
 have:its=its':=by simpa using congrArg Array.toList d1
 subst this;exact r.inj r'
end
section
variable{X:Cx}{st:Stmt}{rest:List Stmt}{t u:TS}{e:Expr}{te:TE}{pos:Pos}
def e0n:TS:=λD σ H=>D.nx σ H
def e3a(t u:TS):TS:=λD σ H=>t { D with nx:=u D } σ H
theorem v3:PSs X [] e0n:=λ_ _ σ H _ I h=>wpAny_execs_nil ⟨σ,H,I,h⟩
theorem d5(h1:PS X st t)(h2:PSs X rest u):PSs X (st::rest) (e3a t u):=by
 intro qa s σ H D I h;refine wpAny_execs_cons (thn (h1 qa s σ H { D with nx:=u D } I h) λf s1 q=>?_)
 cases f with
 | next=>
  obtain⟨σ',H',I',q⟩:=q;exact h2 qa s1 σ' H' D I' q
 | ret v=>exact q
 | brk=>exact q
 | cont=>exact q
theorem d9(h1:PS X st t):PSs X [st] t:=by
 intro qa s σ H D I h;refine wpAny_execs_cons (thn (h1 qa s σ H D I h) λf s1 q=>?_);cases f with
 | next=>exact wpAny_execs_nil q
 | ret v=>exact q
 | brk=>exact q
 | cont=>exact q
theorem Inv.quiet{qa:List (Addr×Obj)}{σ:St}{H:Hp}{s:Shared}(I:Inv X qa σ H s):interactive X.env=false:=by simp[interactive,I.ok.kind]
def e3f(te:TE):TS:=λD σ H=>te σ H λ_ H1=>D.nx σ H1
theorem j9(he:PE X e te)(hs:swapsWith e none pos.line X.env=pure false:=by rfl):PS X (.Expr e pos) (e3f te):=by
 intro qa s σ H D I h;exact wpAny_Expr_any (thn (he qa s σ H _ I h) λv s1 z0_=>by obtain⟨x,H1,I1,r1,q1⟩:=z0_;exact⟨σ,H1,I1,q1⟩) I.quiet hs
def e8g(te:TE):TS:=λD σ H=>te σ H D.rt
theorem j1(he:PE X e te):PS X (.Return (some e) pos) (e8g te):=by
 intro qa s σ H D I h;exact wpAny_Return_some (thn (he qa s σ H _ I h) λv s1 z0_=>by obtain⟨x,H1,I1,r1,q1⟩:=z0_;exact⟨x,σ,H1,I1,r1,q1⟩)
def e6m(c:TT)(t u:TS):TS:=λD σ H=>c σ H λb H1=>if b=true then t D σ H1 else u D σ H1
theorem a0s{c:Expr}{a b:List Stmt}{tc:TT}(hc:PT X c tc)(ha:PSs X a t)(hb:PSs X b u):PS X (.If c a b pos) (e6m tc t u):=by
 intro qa s σ H D I h;refine wpAny_If (thn (hc qa s σ H _ I h) λd s1 z0_=>?_);obtain⟨H1,I1,q1⟩:=z0_;cases d with
 | true=>exact ha qa s1 σ H1 D I1 q1
 | false=>exact hb qa s1 σ H1 D I1 q1
def e3d:TS:=λ_ _ _=>False
theorem a2x:PS X st e3d:=λ_ _ _ _ _ _ h=>h.elim
end
abbrev TG:=V->St->Hp->(St->Hp->Prop)->Prop
abbrev TGs:=List V->St->Hp->(St->Hp->Prop)->Prop
def PG(X:Cx)(target:Expr)(t:TG):Prop :=
 ∀(qa:List (Addr×Obj))(s:Shared)(σ:St)(H:Hp)(v:V)(u:Value)(Q:St->Hp->Prop),Inv X qa σ H s->RelV v u->t v σ H Q ->
  wpAny (model X.prog X.w) X.A (assign target X.env u) (λ_ s'=>∃σ' H',Inv X qa σ' H' s'/\Q σ' H') X.xe s
def PGs(X:Cx)(ts:List Expr)(t:TGs):Prop :=
 ∀(qa:List (Addr×Obj))(s:Shared)(σ:St)(H:Hp)(vs:List V)(us:List Value)(Q:St->Hp->Prop),Inv X qa σ H s->Vals vs us->t vs σ H Q ->
  wpAny (model X.prog X.w) X.A (assignInOrder ((assignEach ts X.env).map (·.2)) us) (λ_ s'=>∃σ' H',Inv X qa σ' H' s'/\Q σ' H') X.xe s
abbrev e2q:=V->V->V->Hp->(Hp->Prop)->Prop
def e7z(X:Cx)(t:e2q):Prop :=
 ∀(qa:List (Addr×Obj))(s:Shared)(σ:St)(H:Hp)(o i v:V)(ov iv u:Value)(Q:Hp->Prop),Inv X qa σ H s->RelV o ov->RelV i iv->RelV v u->t o i v H Q ->
  wpAny (model X.prog X.w) X.A (setItem ov iv u) (λ_ s'=>∃H',Inv X qa σ H' s'/\Q H') X.xe s
abbrev TIp:=V->V->Hp->VK->Prop
def PIp(X:Cx)(op:Operator)(t:TIp):Prop :=
 ∀(qa:List (Addr×Obj))(s:Shared)(σ:St)(H:Hp)(x y:V)(v u:Value)(Q:VK),Inv X qa σ H s->RelV x v->RelV y u->t x y H Q ->
  wpAny (model X.prog X.w) X.A (inplaceOp op v u) (EP X qa σ Q) X.xe s
section
variable{X:Cx}{pos:Pos}
def c7k(i:Nat):TG:=λv σ H Q=>Q (σ.set i (some v)) H
theorem y7{i:Nat}{x:Str}(hN:X.N.Nodup)(hi:X.N[i]?=some x)(hx:Loc X.env.scope x)(hf:X.fn x=true\/X.env.scope.names.lookup x=some .local:=by first|exact .inl rfl|exact .inr rfl|assumption):PG X (.Name x pos) (c7k i):=by
 intro qa s σ H v u Q I r h;exact wpAny_assign_Name (c1n I hN hi hx r (λs' I'=>⟨_,H,I',h⟩) hf)
def e8w:TGs:=λvs σ H Q=>vs=[]/\Q σ H
def e2g(t:TG)(u:TGs):TGs:=λvs σ H Q=>∃v r,vs=v::r/\t v σ H λσ' H'=>u r σ' H' Q
theorem c2z:PGs X [] e8w:=by
 intro qa s σ H vs us Q I r h;obtain⟨e,h⟩:=h;subst e;cases r;exact assignInOrder_nil ⟨σ,H,I,h⟩
theorem a6a{e:Expr}{es:List Expr}{t:TG}{u:TGs}(h1:PG X e t)(h2:PGs X es u)(hs:(assignEach (e::es) X.env).map (·.2)=assign e X.env::(assignEach es X.env).map (·.2):=by rfl):PGs X (e::es) (e2g t u):=by
 intro qa s σ H vs us Q I r h;obtain⟨v,vr,e1,h⟩:=h;subst e1;cases r with
 | cons r rr=>
  rw[hs];refine assignInOrder_cons (thn (h1 qa s σ H _ _ _ I r h) λ_ s1 z0_=>?_);obtain⟨σ1,H1,I1,q1⟩:=z0_;exact h2 qa s1 σ1 H1 _ _ Q I1 rr q1
def e7v(K:Frag)(n:Nat)(t:TGs):TG:=λv σ H Q=>∃a xs,v=.ref a/\SqT K H a xs/\xs.length=n/\t xs σ H Q
theorem e3z{es:List Expr}{k:Nat}{t:TGs}{n:Nat}(hc:X.calm=true)(h:PGs X es t)(hn:(assignEach es X.env).length=n:=by rfl)(hst:(assignEach es X.env).findIdx? (·.1)=none:=by rfl):PG X (.Tuple es k pos) (e7v X.K n t):=by
 intro qa s σ H v u Q I r hw;obtain⟨a,xs,e1,hq,hl,hw⟩:=hw;subst e1;cases r;obtain⟨its,rv,ht,hz⟩:=I.tuple hq;refine assign_Tuple_tuple (I.ok.hd hc) ht (by simp[hn,<- hl,rv.length]) hst λh' hx=>?_
 have I1:Inv X qa σ H { s with heap:=h' }:=I.kept (t':=s.toks) λb o e=>hx b o (Nat.ne_of_lt (Heap.lt_size e)) e
 exact h qa _ σ H xs _ Q I1 (by simpa using rv) hw
def e8v(to ti:TE)(t:e2q):TG:=λv σ H Q=>to σ H λo H1=>ti σ H1 λi H2=>t o i v H2 λH3=>Q σ H3
theorem d0o{o i:Expr}{to ti:TE}{t:e2q}(ho:PE X o to)(hi:PE X i ti)(hs:e7z X t)(ha:∀v,assign (.Subscript o i pos) X.env v=(do
   let ov <- holding [v] (eval o X.env)
   let iv <- holding [v,ov] (eval i X.env)
   standAt pos
   holding [v,ov,iv] (setItem ov iv v)
   release [v,ov,iv] []):=by intro _;rfl):PG X (.Subscript o i pos) (e8v to ti t):=by
 intro qa s σ H v u Q I r h;rw[ha];refine wpAny_bind (wpAny_holding (thn (ho qa s σ H _ I h) λov s1 z0_=>?_));obtain⟨x,H1,I1,r1,q1⟩:=z0_;refine wpAny_bind (wpAny_holding (thn (hi qa s1 σ H1 _ I1 q1) λiv s2 z0_=>?_));obtain⟨y,H2,I2,r2,q2⟩:=z0_;refine wpAny_bind (wpAny_standAt (wpAny_bind (wpAny_holding (thn (hs qa s2 σ H2 x y v ov iv u _ I2 r1 r2 r q2) λ_ s3 z0_=>?_))));obtain⟨H3,I3,q3⟩:=z0_;exact wpAny_release ⟨σ,H3,I3,q3⟩
def e3m(te:TE)(g:TG):TS:=λD σ H=>te σ H λx H1=>g x σ H1 D.nx
theorem b7a{tg e:Expr}{te:TE}{g:TG}(he:PE X e te)(hg:PG X tg g)(hs:swapsWithSole [tg] e pos.line X.env=pure false:=by rfl)(hw:swappedStores [tg] e X.env=pure none:=by rfl)(h1:(assignEach [tg] X.env).map (·.2)=[assign tg X.env]:=by rfl):PS X (.Assign [tg] e pos) (e3m te g):=by
 intro qa s σ H D I h;refine wpAny_Assign_stores (thn (he qa s σ H _ I h) λv s1 z0_=>?_) hs hw;obtain⟨x,H1,I1,r1,q1⟩:=z0_;rw[h1];exact thn (hg qa s1 σ H1 x v _ I1 r1 q1) λ_ s2 q=>q
theorem n6{i:Nat}{x:Str}{e:Expr}{te:TE}{pos':Pos}(hN:X.N.Nodup)(hi:X.N[i]?=some x)(hx:Loc X.env.scope x)(he:PE X e te)(hs:swapsWith e (some (.Name x pos')) pos.line X.env=pure false:=by rfl)(hf:X.fn x=true\/X.env.scope.names.lookup x=some .local:=by first|exact .inl rfl|exact .inr rfl|assumption):
  PS X (.Assign [.Name x pos'] e pos) (e3m te (c7k i)):=by
 intro qa s σ H D I h;refine wpAny_Assign_Name (thn (he qa s σ H _ I h) λv s1 z0_=>?_) hs;obtain⟨y,H1,I1,r1,q1⟩:=z0_;exact c1n I1 hN hi hx r1 (λs2 I2=>⟨_,H1,I2,q1⟩) hf
def e9d(i:Nat)(te:TE)(ti:TIp):TS:=λD σ H=>∃x,σ[i]?=some (some x)/\te σ H λy H1=>ti x y H1 λz H2=>D.nx (σ.set i (some z)) H2
theorem e3w{i:Nat}{x:Str}{e:Expr}{te:TE}{op:Operator}{ti:TIp}{pos':Pos}(hN:X.N.Nodup)(hi:X.N[i]?=some x)(hx:Loc X.env.scope x)(he:PE X e te)(ho:PIp X op ti)(hf:X.fn x=true\/X.env.scope.names.lookup x=some .local:=by first|exact .inl rfl|exact .inr rfl|assumption):
  PS X (.AugAssign (.Name x pos') op e pos) (e9d i te ti):=by
 intro qa s σ H D I h;obtain⟨v,e1,h⟩:=h;obtain⟨m,hn,hl⟩:=I.loc;have vis:Vis X.env.scope x:=by rcases hx with k|k;exact .inl k;exact .inr (.inl k)
 obtain⟨u,r,l⟩:=hl i x v hi e1 vis;refine wpAny_AugAssign_Name ?_;have go:wpAny (model X.prog X.w) X.A (eval e X.env) (λw s₂=>wpAny (model X.prog X.w) X.A (inplaceOp op u w) (λr s₃=>wpAny (model X.prog X.w) X.A (storeName X.env x r) (λ_=>SP X qa D .next) X.xe s₃) X.xe s₂) X.xe s:=by
  refine thn (he qa s σ H _ I h) λw s1 z0_=>?_;obtain⟨y,H1,I1,r1,q1⟩:=z0_;refine thn (ho qa s1 σ H1 v y u w _ I1 r r1 q1) λz s2 z0_=>?_;obtain⟨zv,H2,I2,r2,q2⟩:=z0_;exact c1n I2 hN hi hx r2 (λs3 I3=>⟨_,H2,I3,q2⟩) hf
 rcases l with ⟨hk,hm⟩|⟨hk,c,hc,hcell⟩
 ·exact wpAny_loadName_local I.ok.kind hk hn hm go
 ·rcases hk with hk|hk
  ·exact wpAny_loadName_cell I.ok.kind hk hc hcell go
  ·rcases hx with k|k
   ·have:X.env.scope.names.lookup x=some .free:=hk
    rw[k] at this;cases this
   ·have:X.env.scope.names.lookup x=some .free:=hk
    rw[k] at this;cases this
def e3l(to ti te:TE)(tget:V->V->Hp->VK->Prop)(tip:TIp)(tset:e2q):TS:=λD σ H=>to σ H λo H1=>ti σ H1 λi H2=>tget o i H2 λx H3=>te σ H3 λy H4=>tip x y H4 λz H5=>tset o i z H5 λH6=>D.nx σ H6
def e8z(X:Cx)(t:V->V->Hp->VK->Prop):Prop :=
 ∀(qa:List (Addr×Obj))(s:Shared)(σ:St)(H:Hp)(o i:V)(ov iv:Value)(Q:VK),Inv X qa σ H s->RelV o ov->RelV i iv->t o i H Q ->
  wpAny (model X.prog X.w) X.A (getItem ov iv) (EP X qa σ Q) X.xe s
theorem e0v{o i e:Expr}{to ti te:TE}{tget:V->V->Hp->VK->Prop}{tip:TIp}{tset:e2q}{op:Operator}{tpos:Pos}(ho:PE X o to)(hi:PE X i ti)(hg:e8z X tget)(he:PE X e te)(hp:PIp X op tip)(hs:e7z X tset)(ha:∀ov iv new,augStore i ov iv new=(do holding [new,ov,iv] (setItem ov iv new);release [new,ov,iv] [];pure .next):=by intros;rfl):PS X (.AugAssign (.Subscript o i tpos) op e pos) (e3l to ti te tget tip tset):=by
 intro qa s σ H D I h;refine wpAny_AugAssign_SubscriptAny (thn (ho qa s σ H _ I h) λov s1 z0_=>?_) ha;obtain⟨x1,H1,I1,r1,q1⟩:=z0_;refine thn (hi qa s1 σ H1 _ I1 q1) λiv s2 z0_=>?_;obtain⟨x2,H2,I2,r2,q2⟩:=z0_;refine thn (hg qa s2 σ H2 x1 x2 ov iv _ I2 r1 r2 q2) λold s3 z0_=>?_;obtain⟨x3,H3,I3,r3,q3⟩:=z0_;refine thn (he qa s3 σ H3 _ I3 q3) λv s4 z0_=>?_;obtain⟨x4,H4,I4,r4,q4⟩:=z0_;refine thn (hp qa s4 σ H4 x3 x4 old v _ I4 r3 r4 q4) λnew s5 z0_=>?_;obtain⟨x5,H5,I5,r5,q5⟩:=z0_;exact thn (hs qa s5 σ H5 x1 x2 x5 ov iv new _ I5 r1 r2 r5 q5) λ_ s6 z0_=>by obtain⟨H6,I6,q6⟩:=z0_;exact⟨σ,H6,I6,q6⟩
def ipI(f:Int->Int->Int):TIp:=λx y H Q=>∃i j,x=.int i/\y=.int j/\Q (.int (f i j)) H
theorem d9m:PIp X .Add (ipI λi j=>i+j):=by
 intro qa s σ H x y v u Q I r1 r2 h;obtain⟨i,j,e1,e2,q⟩:=h;subst e1;subst e2;obtain⟨t,rfl⟩:=r1;obtain⟨t',rfl⟩:=r2;exact iadd_int ⟨.int _,H,I.tok _,⟨_,rfl⟩,q⟩
def e2y(c:TT)(tb:TS):TS:=λD σ H=>∃W:Nat->St->Hp->Prop,(∃m,W m σ H)/\∀m σ H,W m σ H ->
 c σ H λb H1=>if b=true then ∃N:St->Hp->Prop,(∀σ' H',N σ' H'->∃m',m'<m/\W m' σ' H')/\tb { D with nx:=N,ct:=N,bk:=D.nx } σ H1 else D.nx σ H1
theorem d7u{c:Expr}{body:List Stmt}{tc:TT}{tb:TS}(hp:PassesOwn (model X.prog X.w) X.A X.env X.xe)(hc:PT X c tc)(hb:PSs X body tb):PS X (.While c body [] pos) (e2y tc tb):=by
 intro qa s σ H D I h;obtain⟨W,⟨m0,w0⟩,turn⟩:=h;refine wpAny_While (codeAny_whileLoop (λn s'=>∃σ' H',Inv X qa σ' H' s'/\W n σ' H') ?_ m0 ⟨σ,H,I,w0⟩);rintro n s1 ⟨σ1,H1,I1,w1⟩;refine wpAny_passesOwn hp (thn (hc qa s1 σ1 H1 _ I1 (turn n σ1 H1 w1)) λb s2 z0_=>?_);obtain⟨H2,I2,q2⟩:=z0_;cases b with
 | true=>
  obtain⟨N,hN,q2⟩:=q2;rw[if_pos rfl];refine wpAny_passesOwn hp (thn (hb qa s2 σ1 H2 _ I2 q2) λf s3 q3=>?_);cases f with
  | next=>
   obtain⟨σ3,H3,I3,n3⟩:=q3;obtain⟨m',hm,w3⟩:=hN σ3 H3 n3;exact⟨m',hm,σ3,H3,I3,w3⟩
  | cont=>
   obtain⟨σ3,H3,I3,n3⟩:=q3;obtain⟨m',hm,w3⟩:=hN σ3 H3 n3;exact⟨m',hm,σ3,H3,I3,w3⟩
  | brk=>exact q3
  | ret v=>exact q3
 | false=>
  rw[if_neg Bool.false_ne_true];exact wpAny_execs_nil ⟨σ1,H2,I2,q2⟩
end
structure It where
 go:Nat->Hp->Prop
 yld:Nat->Hp->V->Hp->Prop
 stop:Nat->Hp->Prop
def d6u(X:Cx)(qa:List (Addr×Obj))(H:Hp)(b:Addr):Prop :=
 H b=none/\b≠X.env.locals/\b ∉ X.fs/\(b∈X.ex\/X.s₀.heap.objs.size<=b)/\(∀x c,X.env.cells.lookup x=some c->c≠b)/\∀p∈X.pn++qa,p.1≠b
theorem Inv.fpOk{X:Cx}{qa:List (Addr×Obj)}{σ:St}{H H':Hp}{s:Shared}{b:Addr}(I:Inv X qa σ H s)(hb:s.heap.objs.size<=b)(hn:H' b=none):d6u X qa H' b:=by
 refine⟨hn,Nat.ne_of_gt (Nat.lt_of_lt_of_le I.lt hb),I.nofs hb,.inr (Nat.le_trans I.sz hb),λx c e z=>?_,λp hp z=>?_⟩
 ·obtain⟨v,q⟩:=I.cell x c e
  exact absurd (Nat.lt_of_lt_of_le q.lt (by rw[z];exact hb)) (Nat.lt_irrefl _)
 ·exact absurd (Nat.lt_of_lt_of_le (Heap.lt_size (I.pin p hp).1) (by rw[z];exact hb)) (Nat.lt_irrefl _)
structure e6h(P:Program)(w:World)(K:Frag)(tg:Expr)(J:It)(fp:List Addr)(it:Addr)(tn:Nat->Heap->Prop):Prop where
 mem:it∈fp
 obj:∀i h,tn i h->∀b∈fp,∃o,h.get? b=some o/\∀v,o.data≠.cell v
 keep:∀i h h',tn i h->(∀b∈fp,∀o,h.get? b=some o->h'.get? b=some o)->tn i h'
 item:∀(X:Cx),X.prog=P->X.w=w->X.K=K->X.calm=true->∀(i:Nat)(qa:List (Addr×Obj))(s:Shared)(σ:St)(H:Hp)(E:Value->Shared->Prop),Inv X qa σ H s->(∀b∈fp,d6u X qa H b)->tn i s.heap->J.go i H ->
  wpAny (model P w) X.A (pyNext (.ref it)) (λr s1=>∃u,r=some u /\
   wpAny (model P w) X.A (letOwnedTupleGo tg (.ref it) u) (λ_ s2=>∃x H',Inv X qa σ H' s2/\RelV x u/\J.yld i H x H'/\tn (i+1) s2.heap/\∀b∈fp,H' b=none) E s1) E s
 done:∀(X:Cx),X.prog=P->X.w=w->X.K=K->X.calm=true->∀(i:Nat)(qa:List (Addr×Obj))(s:Shared)(σ:St)(H:Hp)(E:Value->Shared->Prop),Inv X qa σ H s->(∀b∈fp,d6u X qa H b)->tn i s.heap->J.stop i H ->
  wpAny (model P w) X.A (pyNext (.ref it)) (λr s1=>r=none/\Inv X qa σ H s1) E s
 self:∀(A:Around)(i:Nat)(s:Shared)(Q:Value->Shared->Prop)(E:Value->Shared->Prop),tn i s.heap->Q (.ref it) s->wpAny (model P w) A (pyIter (.ref it)) Q E s
abbrev TI:=St->Hp->(It->Hp->Prop)->Prop
def PIE(X:Cx)(qa:List (Addr×Obj))(σ:St)(tg:Expr)(R:It->Hp->Prop)(itv:Value)(s2:Shared):Prop :=
 ∃(it:Addr)(fp:List Addr)(tn:Nat->Heap->Prop)(J:It)(H':Hp),itv=.ref it/\Inv X qa σ H' s2/\e6h X.prog X.w X.K tg J fp it tn/\tn 0 s2.heap/\(∀b∈fp,d6u X qa H' b)/\R J H'
def PI(X:Cx)(tg iter:Expr)(wi:TI):Prop :=
 ∀(qa:List (Addr×Obj))(s:Shared)(σ:St)(H:Hp)(R:It->Hp->Prop),Inv X qa σ H s->wi σ H R ->
  wpAny (model X.prog X.w) X.A (eval iter X.env) (λv s1=>wpAny (model X.prog X.w) X.A (pyIter v) (PIE X qa σ tg R) X.xe s1) X.xe s
theorem e1r{M:Model}{A:Around}{E:Value->Shared->Prop}{s:Shared}{tg:Expr}{it:Addr}{u:Value}{o:Obj}{n:String}{vs:Array Value}{Q:Unit->Shared->Prop}(ho:s.heap.get? it=some o)(hc:o.cls=.type n)(hd:o.data=.fields vs)(hn:["enumerate","zip","dict_itemiterator","dict_reverseitemiterator","odict_iterator","itertools.zip_longest","itertools.pairwise"].contains n=false)(hQ:Q () s):wpAny M A (letOwnedTupleGo tg (.ref it) u) Q E s:=by
 unfold letOwnedTupleGo;cases tg <;> first
  | exact wpAny_pure hQ
  | (cases u <;> first
    | exact wpAny_pure hQ
    | (
      refine wpAny_bind (wpAny_load ho ?_);rw[hc,hd];show wpAny M A (if (["enumerate","zip","dict_itemiterator","dict_reverseitemiterator","odict_iterator","itertools.zip_longest","itertools.pairwise"].contains n && vs[0]? == some (rawInt _))=true then _ else _) Q E s;rw[if_neg (by intro h;rw[hn,Bool.false_and] at h;cases h)]
      exact wpAny_pure hQ))
def Itl(K:Frag)(a:Addr):It :=
 ⟨λi H=>∃xs x,SqL K H a xs/\xs[i]?=some x,λi H x H'=>H'=H/\∀xs,SqL K H a xs->xs[i]?=some x,λi H=>∃xs,SqL K H a xs/\xs.length<=i⟩
def Itt(K:Frag)(a:Addr):It :=
 ⟨λi H=>∃xs x,SqT K H a xs/\xs[i]?=some x,λi H x H'=>H'=H/\∀xs,SqT K H a xs->xs[i]?=some x,λi H=>∃xs,SqT K H a xs/\xs.length<=i⟩
def Itr(lo:Int)(n:Nat):It:=⟨λi _=>i<n,λi H x H'=>H'=H/\x=.int (lo+i),λi _=>n<=i⟩
theorem d3n{P:Program}{w:World}{K:Frag}{tg:Expr}(a it:Addr):e6h P w K tg (Itl K a) [it] it (λi h=>h.IsListIter it a i) where
 mem:=by simp
 obj:=λi h st b hb=>by
  have e:b=it:=by simpa using hb
  subst e;obtain⟨o,e,c,d⟩:=st;exact⟨o,e,λv z=>by rw[d] at z;cases z⟩
 keep:=λi h h' st k=>st.at λo e=>k it (by simp) o e
 item:=by
  intro X hP hw hK hc i qa s σ H E I hf st hg;subst hP hw hK;obtain⟨xs,x,hq,hx⟩:=hg;obtain⟨its,rv,p,hz⟩:=I.list hq;obtain⟨u,hu,ru⟩:=rv.get hx;obtain⟨f0,f1,f2,f3,f4,f5⟩:=hf it (by simp)
  refine wpAny_pyNext_list_item st p.isList (x:=u) (by simpa using hu) λh' st' sb=>?_
  have I1:Inv X qa σ H { s with heap:=h' }:=I.turned (t':=s.toks) (λb o hb e=>(sb.2 b hb).trans e) f0 f1 f3 f4 f5
  obtain⟨o,e,c,d⟩:=id st';exact⟨u,rfl,e1r (s:={ s with heap:=h' }) e c d (by decide) ⟨x,H,I1,ru,⟨rfl,λys hy=>by rw[I.list_inj hy hq];exact hx⟩,st',λb hb=>(hf b hb).1⟩⟩
 done:=by
  intro X hP hw hK hc i qa s σ H E I hf st hg;subst hP hw hK;obtain⟨xs,hq,hx⟩:=hg;obtain⟨its,rv,p,hz⟩:=I.list hq;obtain⟨f0,f1,f2,f3,f4,f5⟩:=hf it (by simp)
  have hl:=rv.length;exact wpAny_pyNext_list_end (I.ok.hd hc) st p.isList (by simp;lia) λh' eb=>⟨rfl,I.turned (t':=s.toks) (λb o hb e=>eb b o hb e) f0 f1 f3 f4 f5⟩
 self:=λ_ _ _ _ _ st h=>wpAny_pyIter_listiter st h
theorem d1s{P:Program}{w:World}{K:Frag}{tg:Expr}(a it:Addr):e6h P w K tg (Itt K a) [it] it (λi h=>h.IsTupleIter it a i) where
 mem:=by simp
 obj:=λi h st b hb=>by
  have e:b=it:=by simpa using hb
  subst e;obtain⟨o,e,c,d⟩:=st;exact⟨o,e,λv z=>by rw[d] at z;cases z⟩
 keep:=λi h h' st k=>st.at λo e=>k it (by simp) o e
 item:=by
  intro X hP hw hK hc i qa s σ H E I hf st hg;subst hP hw hK;obtain⟨xs,x,hq,hx⟩:=hg;obtain⟨its,rv,p,hz⟩:=I.tuple hq;obtain⟨u,hu,ru⟩:=rv.get hx;obtain⟨f0,f1,f2,f3,f4,f5⟩:=hf it (by simp)
  refine wpAny_pyNext_tuple_item st (show s.heap.IsTuple a its.toArray from p) (x:=u) (by simpa using hu) λh' st' sb=>?_
  have I1:Inv X qa σ H { s with heap:=h' }:=I.turned (t':=s.toks) (λb o hb e=>(sb.2 b hb).trans e) f0 f1 f3 f4 f5
  obtain⟨o,e,c,d⟩:=id st';exact⟨u,rfl,e1r (s:={ s with heap:=h' }) e c d (by decide) ⟨x,H,I1,ru,⟨rfl,λys hy=>by rw[I.tuple_inj hy hq];exact hx⟩,st',λb hb=>(hf b hb).1⟩⟩
 done:=by
  intro X hP hw hK hc i qa s σ H E I hf st hg;subst hP hw hK;obtain⟨xs,hq,hx⟩:=hg;obtain⟨its,rv,p,hz⟩:=I.tuple hq;obtain⟨f0,f1,f2,f3,f4,f5⟩:=hf it (by simp)
  have hl:=rv.length;exact wpAny_pyNext_tuple_end (I.ok.hd hc) st (show s.heap.IsTuple a its.toArray from p) (by simp;lia) λh' eb=>⟨rfl,I.turned (t':=s.toks) (λb o hb e=>eb b o hb e) f0 f1 f3 f4 f5⟩
 self:=λ_ _ _ _ _ st h=>wpAny_pyIter_tupleiter st h
theorem d1t{P:Program}{w:World}{K:Frag}{tg:Expr}(it:Addr)(lo:Int)(n:Nat):e6h P w K tg (Itr lo n) [it] it (λi h=>IsRangeIter h it (lo+(i:Nat)*1) ((n:Int)-(i:Nat)) 1) where
 mem:=by simp
 obj:=λi h st b hb=>by
  have e:b=it:=by simpa using hb
  subst e;exact⟨_,st,λv z=>by
   have z':Data.fields _=Data.cell v:=z;cases z'⟩
 keep:=λi h h' st k=>k it (by simp) _ st
 item:=by
  intro X hP hw hK hc i qa s σ H E I hf st hg;subst hP hw hK;obtain⟨f0,f1,f2,f3,f4,f5⟩:=hf it (by simp)
  have W:=Walks.range (prog:=X.prog) (w:=X.w) (I.ok.hd hc) it lo 1 n;refine W.item i s _ _ hg st λv h' tk hv st' kk=>?_;obtain⟨t,rfl⟩:=hv;have I1:Inv X qa σ H { s with heap:=h',toks:=tk }:=I.turned (λb o hb e=>kk b o (by simpa using hb) e) f0 f1 f3 f4 f5
  refine⟨_,rfl,e1r (s:={ s with heap:=h',toks:=tk }) (n:="range_iterator") st' rfl rfl (by decide) ⟨.int (lo+i),H,I1,⟨t,?_⟩,⟨rfl,rfl⟩,st',λb hb=>(hf b hb).1⟩⟩
  rw[Int.mul_one]
 done:=by
  intro X hP hw hK hc i qa s σ H E I hf st hg;subst hP hw hK;obtain⟨f0,f1,f2,f3,f4,f5⟩:=hf it (by simp)
  exact wpAny_pyNext_range_end (I.ok.hd hc) st (by have:n<=i:=hg;lia) λh' eb=>⟨rfl,I.turned (t':=s.toks) (λb o hb e=>eb b o hb e) f0 f1 f3 f4 f5⟩
 self:=λ_ _ _ _ _ st h=>wpAny_pyIter_rangeiter st h
section
variable{X:Cx}{tg:Expr}
def e1p(K:Frag)(tl:TE):TI:=λσ H R=>tl σ H λx H1=>∃a,x=.ref a/\(∃xs,SqL K H1 a xs)/\R (Itl K a) H1
def e7b(K:Frag)(tl:TE):TI:=λσ H R=>tl σ H λx H1=>∃a,x=.ref a/\(∃xs,SqT K H1 a xs)/\R (Itt K a) H1
theorem e0z{l:Expr}{tl:TE}(hl:PE X l tl):PI X tg l (e1p X.K tl):=by
 intro qa s σ H R I h;refine thn (hl qa s σ H _ I h) λv s1 z0_=>?_;obtain⟨x,H1,I1,r1,q1⟩:=z0_;obtain⟨a,e,⟨xs,hq⟩,q⟩:=q1;subst e;cases r1;obtain⟨its,rv,p,hz⟩:=I1.list hq;refine wpAny_pyIter_list p.isList ?_;refine⟨s1.heap.objs.size,[s1.heap.objs.size],_,_,H1,rfl,I1.kept (t':=s1.toks) λb o e=>Heap.get?_push_of_some _ e,d3n a _,⟨_,Heap.get?_push_size _ rfl,rfl,rfl⟩,λb hb=>?_,q⟩;have e:b=s1.heap.objs.size:=by simpa using hb
 subst e;exact I1.fpOk (Nat.le_refl _) (I1.hok.fresh (Nat.le_refl _))
theorem e3y{l:Expr}{tl:TE}(hl:PE X l tl):PI X tg l (e7b X.K tl):=by
 intro qa s σ H R I h;refine thn (hl qa s σ H _ I h) λv s1 z0_=>?_;obtain⟨x,H1,I1,r1,q1⟩:=z0_;obtain⟨a,e,⟨xs,hq⟩,q⟩:=q1;subst e;cases r1;obtain⟨its,rv,p,hz⟩:=I1.tuple hq;refine wpAny_pyIter_tuple (show s1.heap.IsTuple a its.toArray from p) ?_;refine⟨s1.heap.objs.size,[s1.heap.objs.size],_,_,H1,rfl,I1.kept (t':=s1.toks) λb o e=>Heap.get?_push_of_some _ e,d1s a _,⟨_,Heap.get?_push_size _ rfl,rfl,rfl⟩,λb hb=>?_,q⟩;have e:b=s1.heap.objs.size:=by simpa using hb
 subst e;exact I1.fpOk (Nat.le_refl _) (I1.hok.fresh (Nat.le_refl _))
theorem d0m{qa:List (Addr×Obj)}{σ:St}{H:Hp}{s:Shared}{R:It->Hp->Prop}{E:Value->Shared->Prop}{lo hi:Int}{t u v:Tok}{tk:Nat}(I:Inv X qa σ H s)(h1:-(2 ^ 62)<=lo)(h2:lo<2 ^ 62)(h3:-(2 ^ 62)<=hi)(h4:hi<2 ^ 62)(q:R (Itr lo (hi-lo).toNat) H):wpAny (model X.prog X.w) X.A (pyIter (.ref s.heap.objs.size)) (PIE X qa σ tg R) E { s with heap:=s.heap.push { cls:=.type "range",data:=.fields #[.int lo t,.int hi u,.int 1 v] },toks:=tk }:=by
 refine wpAny_pyIter_range (IsRange.new ..) (small_one h1 h2 h3 h4) ?_;have I1:Inv X qa σ H { s with heap:=s.heap.push { cls:=.type "range",data:=.fields #[.int lo t,.int hi u,.int 1 v] },toks:=tk }:=I.kept λb o e=>Heap.get?_push_of_some _ e
 refine⟨(s.heap.push { cls:=.type "range",data:=.fields #[.int lo t,.int hi u,.int 1 v] }).objs.size,[(s.heap.push { cls:=.type "range",data:=.fields #[.int lo t,.int hi u,.int 1 v] }).objs.size],_,_,H,rfl,
  I1.kept (t':=tk) λb o e=>Heap.get?_push_of_some _ e,d1t _ lo (hi-lo).toNat,?_,λb hb=>?_,q⟩
 ·have e1:lo+((0:Nat):Int)*1=lo:=by simp
  have e2:(((hi-lo).toNat:Nat):Int)-((0:Nat):Int)=Builtin.Range.rangeSize lo hi 1:=by rw[rangeSize_one];split <;> lia
  show IsRangeIter _ _ (lo+((0:Nat):Int)*1) ((((hi-lo).toNat:Nat):Int)-((0:Nat):Int)) 1;rw[e1,e2];exact Heap.get?_push_size _ rfl
 ·have e:b=(s.heap.push { cls:=.type "range",data:=.fields #[.int lo t,.int hi u,.int 1 v] }).objs.size:=by simpa using hb
  subst e;exact I1.fpOk (Nat.le_refl _) (I1.hok.fresh (Nat.le_refl _))
def e4s(ta:TA):TI:=λσ H R=>ta σ H λvs H1=>∃j:Int,vs=[.int j]/\-(2 ^ 62)<=j/\j<2 ^ 62/\R (Itr 0 j.toNat) H1
def e4r(ta:TA):TI:=λσ H R=>ta σ H λvs H1=>∃i j:Int,vs=[.int i,.int j]/\(-(2 ^ 62)<=i/\i<2 ^ 62/\-(2 ^ 62)<=j/\j<2 ^ 62)/\R (Itr i (j-i).toNat) H1
theorem b4j{a:Expr}{ta:TA}{p pos:Pos}(hg:Gl X "range")(hm:X.mg "range" = none)(ha:PA X [a] ta)(hs:starEach [a] X.env=[(false,eval a X.env)]:=by rfl):PI X tg (.Call (.Name "range" p) [a] [] pos) (e4s ta):=by
 intro qa s σ H R I h;refine Call_ (b9l I hg hm boot_range (PyProof.Rows.callWith_type1 (thn (ha pos qa s σ H _ I h) λus s1 z0_=>?_) hs rfl));obtain⟨vs,H1,I1,r1,q1⟩:=z0_;obtain⟨j,e,q1,q2,q⟩:=q1;subst e;cases r1 with
 | cons r rr=>
  cases rr;obtain⟨t,rfl⟩:=r;exact call_range_1 (d0m I1 ↑3 ↑3 q1 q2 (by simpa using q))
theorem d4i{a b:Expr}{ta:TA}{p pos:Pos}(hg:Gl X "range")(hm:X.mg "range" = none)(ha:PA X [a,b] ta)(hs:starEach [a,b] X.env=[(false,eval a X.env),(false,eval b X.env)]:=by rfl)(hs2:starEach [b] X.env=[(false,eval b X.env)]:=by rfl):
  PI X tg (.Call (.Name "range" p) [a,b] [] pos) (e4r ta):=by
 intro qa s σ H R I h;refine Call_ (b9l I hg hm boot_range (PyProof.Rows.callWith_type1 (thn (ha pos qa s σ H _ I h) λus s1 ⟨vs,H1,I1,r1,q1⟩=>?_) (by rw[hs,hs2]) (by rw[hs2];rfl)))
 obtain⟨i,j,e,⟨q1,q2,q3,q4⟩,q⟩:=q1;subst e;cases r1 with
 | cons r rr=>
  cases rr with
  | cons r' rr=>
   cases rr;obtain⟨t,rfl⟩:=r;obtain⟨t',rfl⟩:=r';exact call_range_2 (d0m I1 q1 q2 q3 q4 q)
def e8k(wi:TI)(g:TG)(tb:TS):TS:=λD σ H=>wi σ H λJ H1=>∃W:Nat->Nat->St->Hp->Prop,(∃m,W 0 m σ H1)/\∀i m σ H,W i m σ H ->
 (J.stop i H/\D.nx σ H)\/(J.go i H/\∃N:St->Hp->Prop,(∀σ' H',N σ' H'->∃m',m'<m/\W (i+1) m' σ' H')/\∀x H',J.yld i H x H'->g x σ H' λσ2 H2=>tb { D with nx:=N,ct:=N,bk:=D.nx } σ2 H2)
def c5x(fp:List Addr)(h:Heap):List (Addr×Obj):=fp.filterMap λb=>(h.get? b).map λo=>(b,o)
theorem b0j{fp:List Addr}{h:Heap}{b:Addr}{o:Obj}(hb:b∈fp)(e:h.get? b=some o):(b,o)∈c5x fp h:=List.mem_filterMap.mpr ⟨b,hb,by rw[e];rfl⟩
theorem d4x{fp:List Addr}{h:Heap}{p:Addr×Obj}(hp:p∈c5x fp h):p.1∈fp/\h.get? p.1=some p.2:=by
 obtain⟨b,hb,e⟩:=List.mem_filterMap.mp hp;cases q:h.get? b with
 | none=>rw[q] at e;cases e
 | some o=>
  rw[q] at e;have e':(b,o)=p:=Option.some.inj e;subst e';exact⟨hb,q⟩
theorem Inv.pinned{qa:List (Addr×Obj)}{σ:St}{H:Hp}{s:Shared}{fp:List Addr}(I:Inv X qa σ H s)(hf:∀b∈fp,d6u X qa H b)(ho:∀b∈fp,∃o,s.heap.get? b=some o/\∀v,o.data≠.cell v):Inv X (qa++c5x fp s.heap) σ H s :=
 I.pins_of λp hp=>(List.mem_append.mp hp).elim (λz=>I.pin p (List.mem_append_right _ z)) λz=>by
  obtain⟨hb,e⟩:=d4x z;obtain⟨f0,f1,f2,_⟩:=hf p.1 hb;obtain⟨o,e',d⟩:=ho p.1 hb;rw[e] at e';cases e';exact⟨e,f0,f1,f2,d⟩
theorem Inv.unpinned{qa pl:List (Addr×Obj)}{σ:St}{H:Hp}{s:Shared}(I:Inv X (qa++pl) σ H s):Inv X qa σ H s:=I.pins_of λp hp=>I.pin p (List.mem_append_right _ (List.mem_append_left _ hp))
theorem b4i{iter:Expr}{body:List Stmt}{wi:TI}{g:TG}{tb:TS}{pos:Pos}(hp:PassesOwn (model X.prog X.w) X.A X.env X.xe)(hc:X.calm=true)(hi:PI X tg iter wi)(hg:PG X tg g)(hb:PSs X body tb)(hs:∀x,foldedSetIterable iter X.env x=pure x:=by intro _;rfl):PS X (.For tg iter body [] pos) (e8k wi g tb):=by
 intro qa s σ H D I h;refine wpAny_For (thn (hi qa s σ H _ I h) λv s1 h1=>thn h1 λitv s2 h2=>?_) hs;obtain⟨it,fp,tn,J,H2,e,I2,T,st2,f2,W,⟨m0,w0⟩,turn⟩:=h2;subst e;have stat:∀{H':Hp},(∀b∈fp,H' b=none)->∀b∈fp,d6u X qa H' b:=λhn b hb=>⟨hn b hb,(f2 b hb).2⟩;refine codeAny_forLoop_any (λn s'=>∃i σ' H',Inv X qa σ' H' s'/\tn i s'.heap/\(∀b∈fp,H' b=none)/\W i n σ' H') ?_ m0 ⟨0,σ,H2,I2,st2,λb hb=>(f2 b hb).1,w0⟩;rintro n s3 ⟨i,σ3,H3,I3,st3,fr3,w3⟩;rcases turn i n σ3 H3 w3 with ⟨stop,qn⟩|⟨go,N,hN,step⟩
 ·refine wpAny_passesOwn hp (thn (T.done X rfl rfl rfl hc i qa s3 σ3 H3 X.xe I3 (stat fr3) st3 stop) λr s4 z0_=>?_)
  obtain⟨hr,I4⟩:=z0_;subst hr;exact wpAny_execs_nil ⟨σ3,H3,I4,qn⟩
 ·refine wpAny_passesOwn hp (thn (T.item X rfl rfl rfl hc i qa s3 σ3 H3 X.xe I3 (stat fr3) st3 go) λr s4 z0_=>?_)
  obtain⟨u,hr,h4⟩:=z0_;subst hr;refine wpAny_passesOwn hp (thn h4 λ_ s5 z0_=>?_);obtain⟨x,H5,I5,r5,y5,st5,fr5⟩:=z0_;have I5':=I5.pinned (stat fr5) (T.obj _ _ st5);refine wpAny_passesOwn hp (thn (hg _ s5 σ3 H5 x u _ I5' r5 (step x H5 y5)) λ_ s6 z0_=>?_);obtain⟨σ6,H6,I6,q6⟩:=z0_;refine wpAny_passesOwn hp (thn (hb _ s6 σ6 H6 _ I6 q6) λf s7 q7=>?_);have again:∀{σ7:St}{H7:Hp},Inv X (qa++c5x fp s5.heap) σ7 H7 s7->N σ7 H7->∃m,m<n/\∃i σ' H',Inv X qa σ' H' s7/\tn i s7.heap/\(∀b∈fp,H' b=none)/\W i m σ' H':=λ{σ7 H7} I7 n7=>by
   obtain⟨m',hm,w7⟩:=hN σ7 H7 n7;refine⟨m',hm,i+1,σ7,H7,I7.unpinned,T.keep _ _ _ st5 λb hb o e=>(I7.pin (b,o) (List.mem_append_right _ (List.mem_append_right _ (b0j hb e)))).1,λb hb=>?_,w7⟩;obtain⟨o,e,d⟩:=T.obj _ _ st5 b hb;exact(I7.pin (b,o) (List.mem_append_right _ (List.mem_append_right _ (b0j hb e)))).2.1
  cases f with
  | next=>obtain⟨σ7,H7,I7,n7⟩:=q7;exact again I7 n7
  | cont=>obtain⟨σ7,H7,I7,n7⟩:=q7;exact again I7 n7
  | brk=>obtain⟨σ7,H7,I7,q7⟩:=q7;exact⟨σ7,H7,I7.unpinned,q7⟩
  | ret v=>obtain⟨x7,σ7,H7,I7,r7,q7⟩:=q7;exact⟨x7,σ7,H7,I7.unpinned,r7,q7⟩
end
theorem b7w{K:Frag}{a:Addr}{xs:List V}{g:TG}{tb:TS}{D:d6x}{σ:St}{H:Hp}(Pv:Nat->St->Hp->Prop)(h0:Pv 0 σ H)(hl:∀i σ H,i<=xs.length->Pv i σ H->SqL K H a xs)(hs:∀i x σ H,xs[i]?=some x->Pv i σ H->g x σ H λσ2 H2=>tb { D with nx:=Pv (i+1),ct:=Pv (i+1),bk:=D.nx } σ2 H2)(hd:∀σ H,Pv xs.length σ H->D.nx σ H):
  ∃W:Nat->Nat->St->Hp->Prop,(∃m,W 0 m σ H)/\∀i m σ H,W i m σ H ->
   ((Itl K a).stop i H/\D.nx σ H)\/((Itl K a).go i H/\∃N:St->Hp->Prop,(∀σ' H',N σ' H'->∃m',m'<m/\W (i+1) m' σ' H')/\∀x H',(Itl K a).yld i H x H'->g x σ H' λσ2 H2=>tb { D with nx:=N,ct:=N,bk:=D.nx } σ2 H2):=by
 refine⟨λi m σ H=>m=xs.length-i/\i<=xs.length/\Pv i σ H,⟨xs.length,by simp,Nat.zero_le _,h0⟩,?_⟩
 rintro i m σ H ⟨rfl,hi,p⟩;have q:=hl i σ H hi p;by_cases hlt:i<xs.length
 ·refine .inr ⟨⟨xs,xs[i],q,by simp[hlt]⟩,Pv (i+1),λσ' H' p'=>⟨xs.length-(i+1),by lia,rfl,hlt,p'⟩,λx H' y=>?_⟩
  obtain⟨e,y⟩:=y;subst e;exact hs i x σ _ (y xs q) p
 ·have e:i=xs.length:=by lia
  subst e;exact .inl ⟨⟨xs,q,Nat.le_refl _⟩,hd σ H p⟩
theorem d5t{lo:Int}{n:Nat}{g:TG}{tb:TS}{D:d6x}{σ:St}{H:Hp}(Pv:Nat->St->Hp->Prop)(h0:Pv 0 σ H)(hs:∀i σ H,i<n->Pv i σ H->g (.int (lo+i)) σ H λσ2 H2=>tb { D with nx:=Pv (i+1),ct:=Pv (i+1),bk:=D.nx } σ2 H2)(hd:∀σ H,Pv n σ H->D.nx σ H):
  ∃W:Nat->Nat->St->Hp->Prop,(∃m,W 0 m σ H)/\∀i m σ H,W i m σ H ->
   ((Itr lo n).stop i H/\D.nx σ H)\/((Itr lo n).go i H/\∃N:St->Hp->Prop,(∀σ' H',N σ' H'->∃m',m'<m/\W (i+1) m' σ' H')/\∀x H',(Itr lo n).yld i H x H'->g x σ H' λσ2 H2=>tb { D with nx:=N,ct:=N,bk:=D.nx } σ2 H2):=by
 refine⟨λi m σ H=>m=n-i/\i<=n/\Pv i σ H,⟨n,by simp,Nat.zero_le _,h0⟩,?_⟩
 rintro i m σ H ⟨rfl,hi,p⟩;by_cases hlt:i<n
 ·refine .inr ⟨hlt,Pv (i+1),λσ' H' p'=>⟨n-(i+1),by lia,rfl,hlt,p'⟩,λx H' y=>?_⟩
  obtain⟨e,y⟩:=y;subst e y;exact hs i σ _ hlt p
 ·have e:i=n:=by lia
  subst e;exact .inl ⟨Nat.le_refl _,hd σ H p⟩
abbrev R2:=V->V->Hp->VK->Prop
def OpR(X:Cx)(f:Value->Value->Sem Value)(r:R2):Prop :=
 ∀(qa:List (Addr×Obj))(s:Shared)(σ:St)(H:Hp)(x y:V)(v u:Value)(Q:VK),Inv X qa σ H s->RelV x v->RelV y u->r x y H Q ->
  wpAny (model X.prog X.w) X.A (f v u) (EP X qa σ Q) X.xe s
def UnR(X:Cx)(f:Value->Sem Value)(r:V->Hp->VK->Prop):Prop :=
 ∀(qa:List (Addr×Obj))(s:Shared)(σ:St)(H:Hp)(x:V)(v:Value)(Q:VK),Inv X qa σ H s->RelV x v->r x H Q ->
  wpAny (model X.prog X.w) X.A (f v) (EP X qa σ Q) X.xe s
def a5q(X:Cx)(f:Value)(r:List V->Hp->VK->Prop):Prop :=
 ∀(qa:List (Addr×Obj))(s:Shared)(σ:St)(H:Hp)(xs:List V)(us:List Value)(Q:VK),Inv X qa σ H s->Vals xs us->r xs H Q ->
  wpAny (model X.prog X.w) X.A (call f us) (EP X qa σ Q) X.xe s
def tOp(r:R2)(ta tb:TE):TE:=λσ H Q=>ta σ H λx H1=>tb σ H1 λy H2=>r x y H2 Q
def tUn(r:V->Hp->VK->Prop)(ta:TE):TE:=λσ H Q=>ta σ H λx H1=>r x H1 Q
def rI(C:Int->Int->Prop)(g:Int->Int->V):R2:=λx y H Q=>∃i j,x=.int i/\y=.int j/\C i j/\Q (g i j) H
def rI0(g:Int->Int->V):R2:=λx y H Q=>∃i j,x=.int i/\y=.int j/\Q (g i j) H
def rU(g:Int->V):V->Hp->VK->Prop:=λx H Q=>∃i,x=.int i/\Q (g i) H
section
variable{X:Cx}{a b c:Expr}{ta tb tc:TE}{pos:Pos}
theorem e7y(ha:PE X a ta)(hb:PE X b tb){qa:List (Addr×Obj)}{s:Shared}{σ:St}{H:Hp}{R:V->V->Hp->Prop}(I:Inv X qa σ H s)(h:ta σ H λx H1=>tb σ H1 λy H2=>R x y H2){Q:Value->Shared->Prop}{f:Value->Value->Sem Value}(hf:∀v u s2 x y H2,Inv X qa σ H2 s2->RelV x v->RelV y u->R x y H2->wpAny (model X.prog X.w) X.A (f v u) Q X.xe s2):
  wpAny (model X.prog X.w) X.A (eval a X.env) (λv s₁=>wpAny (model X.prog X.w) X.A (eval b X.env) (λu s₂=>wpAny (model X.prog X.w) X.A (f v u) Q X.xe s₂) X.xe s₁) X.xe s:=by
 refine thn (ha qa s σ H _ I h) λv s1 z0_=>?_;obtain⟨x,H1,I1,r1,q1⟩:=z0_;refine thn (hb qa s1 σ H1 _ I1 q1) λu s2 z0_=>?_;obtain⟨y,H2,I2,r2,q2⟩:=z0_;exact hf v u s2 x y H2 I2 r1 r2 q2
theorem o8{op:Operator}{r:R2}(ho:OpR X (binaryOp op) r)(ha:PE X a ta)(hb:PE X b tb):PE X (.BinOp a op b pos) (tOp r ta tb):=by
 intro qa s σ H Q I h;exact wpAny_BinOp (e7y ha hb I h λv u s2 x y H2 I2 rx ry q=>ho qa s2 σ H2 x y v u Q I2 rx ry q)
theorem e6v{op:UnaryOp}{r:V->Hp->VK->Prop}(ho:UnR X (unaryOp op) r)(ha:PE X a ta):PE X (.UnaryOp op a pos) (tUn r ta):=by
 intro qa s σ H Q I h;exact UnaryOp_ (thn (ha qa s σ H _ I h) λv s1 z0_=>by obtain⟨x,H1,I1,r1,q1⟩:=z0_;exact ho qa s1 σ H1 x v Q I1 r1 q1)
theorem opI{f:Value->Value->Sem Value}{C:Int->Int->Prop}{g:Int->Int->Int}(rule:∀(i j:Int) (t u:Tok) (s:Shared) (Q:Value->Shared->Prop) (E:Value->Shared->Prop),C i j->Q (.int (g i j) s.toks) { s with toks:=s.toks+1 }->wpAny (model X.prog X.w) X.A (f (.int i t) (.int j u)) Q E s):
  OpR X f (rI C λi j=>.int (g i j)):=by
 intro qa s σ H x y v u Q I rx ry h;obtain⟨i,j,rfl,rfl,hc,q⟩:=h;obtain⟨t,rfl⟩:=rx;obtain⟨t',rfl⟩:=ry;exact rule i j t t' s _ _ hc ⟨.int (g i j),H,I.tok _,⟨_,rfl⟩,q⟩
theorem e8t{f:Value->Value->Sem Value}{g:Int->Int->Int}(rule:∀(i j:Int) (t u:Tok) (s:Shared) (Q:Value->Shared->Prop) (E:Value->Shared->Prop),Q (.int (g i j) s.toks) { s with toks:=s.toks+1 }->wpAny (model X.prog X.w) X.A (f (.int i t) (.int j u)) Q E s):
  OpR X f (rI0 λi j=>.int (g i j)):=by
 intro qa s σ H x y v u Q I rx ry h;obtain⟨i,j,rfl,rfl,q⟩:=h;obtain⟨t,rfl⟩:=rx;obtain⟨t',rfl⟩:=ry;exact rule i j t t' s _ _ ⟨.int (g i j),H,I.tok _,⟨_,rfl⟩,q⟩
theorem e6e{f:Value->Value->Sem Value}{g:Int->Int->Bool}(rule:∀(i j:Int) (t u:Tok) (s:Shared) (Q:Value->Shared->Prop) (E:Value->Shared->Prop),Q (.bool (g i j)) s->wpAny (model X.prog X.w) X.A (f (.int i t) (.int j u)) Q E s):
  OpR X f (rI0 λi j=>.bl (g i j)):=by
 intro qa s σ H x y v u Q I rx ry h;obtain⟨i,j,rfl,rfl,q⟩:=h;obtain⟨t,rfl⟩:=rx;obtain⟨t',rfl⟩:=ry;exact rule i j t t' s _ _ ⟨.bl (g i j),H,I,rfl,q⟩
def e9z(i j:Int):Prop:=0<=j/\j<=1000000/\i.natAbs<2 ^ 64
def CMul(i j:Int):Prop:=(-(2 ^ 64)<i/\i<2 ^ 64)\/(-(2 ^ 64)<j/\j<2 ^ 64)
theorem CMul.ok{i j:Int}(h:CMul i j):IntMulOk i j:=by
 rcases h with ⟨h1,h2⟩|⟨h1,h2⟩
 ·exact .of_left (intBits_le_64 h1 h2)
 ·exact .of_right (intBits_le_64 h1 h2)
theorem a1b:OpR X (binaryOp .Add) (rI0 λi j=>.int (i+j)):=e8t λ_ _ _ _ _ _ _ q=>add_int q
theorem b1g:OpR X (binaryOp .Sub) (rI0 λi j=>.int (i-j)):=e8t λ_ _ _ _ _ _ _ q=>sub_int q
theorem a5m:OpR X (binaryOp .Mult) (rI CMul λi j=>.int (i*j)):=opI λ_ _ _ _ _ _ _ hc q=>mul_int q hc.ok
theorem a5n:OpR X (binaryOp .Mod) (rI (λ_ j=>0<j) λi j=>.int (i % j)):=opI λi j _ _ _ _ _ hc q=>by
 have h1:(0:Int)<j:=hc;exact mod_int' ↑3 (by rw[Int.fmod_eq_emod_of_nonneg i ↑3];exact q)
theorem d4s:OpR X (binaryOp .Pow) (rI e9z λi j=>.int (i ^ j.toNat)):=opI λ_ _ _ _ _ _ _ hc q=>pow_int_small hc.1 hc.2.1 hc.2.2 q
theorem unI{f:Value->Sem Value}{g:Int->Int}(rule:∀(i:Int) (t:Tok) (s:Shared) (Q:Value->Shared->Prop) (E:Value->Shared->Prop),Q (.int (g i) s.toks) { s with toks:=s.toks+1 }->wpAny (model X.prog X.w) X.A (f (.int i t)) Q E s):
  UnR X f (rU λi=>.int (g i)):=by
 intro qa s σ H x v Q I rx h;obtain⟨i,rfl,q⟩:=h;obtain⟨t,rfl⟩:=rx;exact rule i t s _ _ ⟨.int (g i),H,I.tok _,⟨_,rfl⟩,q⟩
theorem e2w:UnR X (unaryOp .USub) (rU λi=>.int (-i)):=unI λ_ _ _ _ _ q=>neg_int q
end
def e6a:V->V->Bool
 | .non,.non=>true|.non,.int _=>true|.int _,.non=>true|.non,.bl _=>true|.bl _,.non=>true|.non,.str _=>true|.str _,.non=>true
 | .int _,.int _=>true|.bl _,.bl _=>true|.str _,.str _=>true|.byt _,.byt _=>true
 | .int _,.str _=>true|.str _,.int _=>true|.bl _,.str _=>true|.str _,.bl _=>true
 | _,_=>false
def rEq:R2:=λx y H Q=>e6a x y=true/\Q (.bl (decide (x=y))) H
def rNe:R2:=λx y H Q=>e6a x y=true/\Q (.bl (!decide (x=y))) H
theorem d6b{i j:Int}:decide (V.int i=V.int j)=(i == j):=by
 rw[Bool.eq_iff_iff];simp
theorem d9w{i j:Bool}:decide (V.bl i=V.bl j)=(i == j):=by
 rw[Bool.eq_iff_iff];simp
theorem d6a{i j:Str}:decide (V.str i=V.str j)=(i == j):=by
 rw[Bool.eq_iff_iff];simp
theorem d6c{i j:Array UInt8}:decide (V.byt i=V.byt j)=(i.toList == j.toList):=by
 rw[Bool.eq_iff_iff];cases i;cases j;simp
section
variable{X:Cx}{a b c:Expr}{ta tb tc:TE}{pos:Pos}
theorem a0h{qa:List (Addr×Obj)}{σ:St}{H:Hp}{s:Shared}{Q:VK}{k k':Bool}(I:Inv X qa σ H s)(q:Q (.bl k) H)(e:k=k'):EP X qa σ Q (.bool k') s:=by
 subst e;exact⟨.bl k,H,I,rfl,q⟩
theorem a8a:OpR X (compareOp .Eq) rEq:=by
 intro qa s σ H x y v u Q I rx ry h;obtain⟨hs,q⟩:=h;cases x with
 | non=>
  cases rx;cases y with
  | non=>cases ry;exact PySem.EqNone.eq_none_none (a0h I q (by simp))
  | bl j=>cases ry;exact PySem.EqNone.eq_none_bool (a0h I q (by simp))
  | int j=>obtain⟨t',rfl⟩:=ry;exact PySem.EqNone.eq_none_int (a0h I q (by simp))
  | str j=>obtain⟨t',rfl⟩:=ry;exact PySem.EqNone.eq_none_str (a0h I q (by simp))
  | _=>exact absurd (show false=true from hs) Bool.false_ne_true
 | bl i=>
  cases rx;cases y with
  | non=>cases ry;exact PySem.EqNone.eq_bool_none (a0h I q (by simp))
  | bl j=>cases ry;exact eq_bool (a0h I q d9w)
  | str j=>obtain⟨t',rfl⟩:=ry;exact PySem.EqMixed.eq_bool_str (a0h I q (by simp))
  | _=>exact absurd (show false=true from hs) Bool.false_ne_true
 | int i=>
  obtain⟨t,rfl⟩:=rx;cases y with
  | non=>cases ry;exact PySem.EqNone.eq_int_none (a0h I q (by simp))
  | int j=>obtain⟨t',rfl⟩:=ry;exact eq_int (a0h I q d6b)
  | str j=>obtain⟨t',rfl⟩:=ry;exact PySem.EqMixed.eq_int_str (a0h I q (by simp))
  | _=>exact absurd (show false=true from hs) Bool.false_ne_true
 | str i=>
  obtain⟨t,rfl⟩:=rx;cases y with
  | non=>cases ry;exact PySem.EqNone.eq_str_none (a0h I q (by simp))
  | bl j=>cases ry;exact PySem.EqMixed.eq_str_bool (a0h I q (by simp))
  | int j=>obtain⟨t',rfl⟩:=ry;exact PySem.EqMixed.eq_str_int (a0h I q (by simp))
  | str j=>obtain⟨t',rfl⟩:=ry;exact eq_str (a0h I q d6a)
  | _=>exact absurd (show false=true from hs) Bool.false_ne_true
 | byt i=>
  obtain⟨t,rfl⟩:=rx;cases y with
  | byt j=>obtain⟨t',rfl⟩:=ry;exact PySem.W.eq_bytes (a0h I q d6c)
  | _=>exact absurd (show false=true from hs) Bool.false_ne_true
 | _=>cases y <;> exact absurd (show false=true from hs) Bool.false_ne_true
theorem e4f:OpR X (compareOp .NotEq) rNe:=by
 intro qa s σ H x y v u Q I rx ry h;obtain⟨hs,q⟩:=h;cases x with
 | non=>
  cases rx;cases y with
  | non=>cases ry;exact PySem.EqNone.ne_none_none (a0h I q (by simp))
  | bl j=>cases ry;exact PySem.EqNone.ne_none_bool (a0h I q (by simp))
  | int j=>obtain⟨t',rfl⟩:=ry;exact PySem.EqNone.ne_none_int (a0h I q (by simp))
  | str j=>obtain⟨t',rfl⟩:=ry;exact PySem.EqNone.ne_none_str (a0h I q (by simp))
  | _=>exact absurd (show false=true from hs) Bool.false_ne_true
 | bl i=>
  cases rx;cases y with
  | non=>cases ry;exact PySem.EqNone.ne_bool_none (a0h I q (by simp))
  | bl j=>cases ry;exact ne_bool (a0h I q (congrArg not d9w))
  | str j=>obtain⟨t',rfl⟩:=ry;exact PySem.EqMixed.ne_bool_str (a0h I q (by simp))
  | _=>exact absurd (show false=true from hs) Bool.false_ne_true
 | int i=>
  obtain⟨t,rfl⟩:=rx;cases y with
  | non=>cases ry;exact PySem.EqNone.ne_int_none (a0h I q (by simp))
  | int j=>obtain⟨t',rfl⟩:=ry;exact ne_int (a0h I q (congrArg not d6b))
  | str j=>obtain⟨t',rfl⟩:=ry;exact PySem.EqMixed.ne_int_str (a0h I q (by simp))
  | _=>exact absurd (show false=true from hs) Bool.false_ne_true
 | str i=>
  obtain⟨t,rfl⟩:=rx;cases y with
  | non=>cases ry;exact PySem.EqNone.ne_str_none (a0h I q (by simp))
  | bl j=>cases ry;exact PySem.EqMixed.ne_str_bool (a0h I q (by simp))
  | int j=>obtain⟨t',rfl⟩:=ry;exact PySem.EqMixed.ne_str_int (a0h I q (by simp))
  | str j=>obtain⟨t',rfl⟩:=ry;exact ne_str (a0h I q (congrArg not d6a))
  | _=>exact absurd (show false=true from hs) Bool.false_ne_true
 | byt i=>
  obtain⟨t,rfl⟩:=rx;cases y with
  | byt j=>obtain⟨t',rfl⟩:=ry;exact PySem.W.ne_bytes (a0h I q (congrArg not d6c))
  | _=>exact absurd (show false=true from hs) Bool.false_ne_true
 | _=>cases y <;> exact absurd (show false=true from hs) Bool.false_ne_true
theorem b2w:OpR X (compareOp .Lt) (rI0 λi j=>.bl (decide (i<j))):=e6e λ_ _ _ _ _ _ _ q=>lt_int q
theorem e6w:OpR X (compareOp .LtE) (rI0 λi j=>.bl (decide (i<=j))):=e6e λ_ _ _ _ _ _ _ q=>le_int q
theorem c6b:OpR X (compareOp .Gt) (rI0 λi j=>.bl (decide (j<i))):=e6e λ_ _ _ _ _ _ _ q=>gt_int q
theorem e1h:OpR X (compareOp .GtE) (rI0 λi j=>.bl (decide (j<=i))):=e6e λ_ _ _ _ _ _ _ q=>ge_int q
theorem n9(b:Expr){op:CmpOp}(h:op≠.In:=by decide)(h2:op≠.NotIn:=by decide):behindInMarks op b=false:=by
 have e1:(op == CmpOp.In)=false:=by cases op <;> first|rfl|exact absurd rfl h
 have e2:(op == CmpOp.NotIn)=false:=by cases op <;> first|rfl|exact absurd rfl h2
 cases b <;> simp[behindInMarks,e1,e2]
theorem a3t{op:CmpOp}{r:R2}(ho:OpR X (compareOp op) r)(ha:PE X a ta)(hb:PE X b tb)(hm:behindInMarks op b=false):PE X (.Compare a [op] [b] pos) (tOp r ta tb):=by
 intro qa s σ H Q I h;exact wpAny_Compare1 (e7y ha hb I h λv u s2 x y H2 I2 rx ry q=>ho qa s2 σ H2 x y v u Q I2 rx ry q) hm
def d7l(t:TE):TT:=λσ H Q=>t σ H λx H'=>∃k,x=.bl k/\Q k H'
theorem k8{op:CmpOp}{r:R2}(ho:OpR X (compareOp op) r)(ha:PE X a ta)(hb:PE X b tb)(hm:behindInMarks op b=false):PT X (.Compare a [op] [b] pos) (d7l (tOp r ta tb)):=by
 intro qa s σ H Q I h;refine wpAny_isTrue_Compare1 (thn (ha qa s σ H _ I h) λv s1 ⟨x,H1,I1,r1,q1⟩=>thn (hb qa s1 σ H1 _ I1 q1) λu s2 ⟨y,H2,I2,r2,q2⟩=>
  thn (ho qa s2 σ H2 x y v u _ I2 r1 r2 q2) λc s3 ⟨z,H3,I3,r3,k,e,q3⟩=>?_) hm
 subst e;cases r3;exact wpAny_truthy_bool ⟨H3,I3,q3⟩
theorem d1a:(sizeLine:Nat)<2 ^ 63:=by rw[sizeLine_eq];decide
theorem e0b{x:V}{us:List Value}(r:Vals [x] us):∃u,us=[u]/\RelV x u:=by
 cases r with
 | cons r1 r2=>cases r2;exact⟨_,rfl,r1⟩
theorem e2v{x y:V}{us:List Value}(r:Vals [x,y] us):∃u w',us=[u,w']/\RelV x u/\RelV y w':=by
 cases r with
 | cons r1 r2=>
  cases r2 with
  | cons r3 r4=>cases r4;exact⟨_,_,rfl,r1,r3⟩
theorem d6j(hc:X.calm=true):a5q X (.builtin "max") (λxs H Q=>∃i j,xs=[.int i,.int j]/\Q (.int (if j > i then j else i)) H):=by
 intro qa s σ H xs us Q I r h;obtain⟨i,j,rfl,q⟩:=h;obtain⟨u,w',rfl,⟨t,rfl⟩,⟨t',rfl⟩⟩:=e2v r;refine max_two_ints (I.ok.hd hc) λh' tk k=>⟨_,H,I.kept k,?_,q⟩;by_cases hj:j > i
 ·rw[if_pos hj,if_pos hj];exact⟨_,rfl⟩
 ·rw[if_neg hj,if_neg hj];exact⟨_,rfl⟩
theorem d6i(hc:X.calm=true):a5q X (.builtin "min") (λxs H Q=>∃i j,xs=[.int i,.int j]/\Q (.int (if j<i then j else i)) H):=by
 intro qa s σ H xs us Q I r h;obtain⟨i,j,rfl,q⟩:=h;obtain⟨u,w',rfl,⟨t,rfl⟩,⟨t',rfl⟩⟩:=e2v r;refine min_two_ints (I.ok.hd hc) λh' tk k=>⟨_,H,I.kept k,?_,q⟩;by_cases hj:j<i
 ·rw[if_pos hj,if_pos hj];exact⟨_,rfl⟩
 ·rw[if_neg hj,if_neg hj];exact⟨_,rfl⟩
end
structure ObjM(h:Heap)(x dx C:Addr)(mA:Str->Option Value):Prop where
 obj:h.get? x=some (PySem.W.instObj C dx)
 ns:h.Ns1 dx mA
 ne:dx≠x
theorem d5c{h:Heap}{dx:Addr}{mA:Str->Option Value}(n:h.Ns1 dx mA):∃od,h.get? dx=some od/\∀name,PySem.W.lookIn name od=some (mA name):=by
 obtain⟨o,es,ep,ho,hd,hk,_,hm⟩:=n;refine⟨o,ho,λname=>?_⟩;have e:=hm name;unfold nsFind findBy at e;rw[<- Array.find?_toList] at e;unfold PySem.W.lookIn;rw[hd];dsimp only;split
 ·rename_i y q
  rw[q] at e;exact congrArg some e
 ·rename_i q
  rw[q] at e;have a:es.toList.any (·.refKey)=false:=by
   rw[List.any_eq_false];intro y hy;obtain⟨z,t,hkey⟩:=hk y (Array.mem_toList_iff.mp hy);simp[DictEntry.refKey,hkey]
  have a':¬ es.toList.any (·.refKey)=true:=by rw[a];exact Bool.false_ne_true
  rw[if_neg a'];exact congrArg some e
theorem ObjM.look{h:Heap}{x dx C:Addr}{mA:Str->Option Value}(I:ObjM h x dx C mA):∃od,PySem.W.InstAt h x (PySem.W.instObj C dx) C (some od)/\∀name,PySem.W.lookIn name od=some (mA name) :=
 let ⟨od,ho,hl⟩:=d5c I.ns
 ⟨od,⟨I.obj,rfl,rfl,ho⟩,hl⟩
section
variable{prog:Program}{w:World}{A:Around}{E:Value->Shared->Prop}{s:Shared}{K:Frag}{x dx C f:Addr}{mA:Str->Option Value}{name:Str}{v:Value}
theorem e1s{expr:Bool}{Q:Value->Shared->Prop}(X:K.In s.heap)(I:ObjM s.heap x dx C mA)(hg:plainGet K C name=true)(hh:hasDictIn K C=true)(ha:findIn K (.ref C) name=some none)(hv:mA name=some v)(hv':PySem.W.handedIn v=true)(h:Q v { s with toks:=s.toks+1 }):
  wpAny (model prog w) A (getAttr (.ref x) name expr) Q E s:=by
 obtain⟨od,J,hl⟩:=I.look;exact PySem.W.get_value X J (PySem.W.plainGet_of hg).1 (PySem.W.findObj_own hh ha rfl (by rw[hl,hv])) hv' h
theorem d8o{pl:Sem Bool}{Q:Value×List Value->Shared->Prop}(X:K.In s.heap)(I:ObjM s.heap x dx C mA)(hg:plainGet K C name=true)(hf:findIn K (.ref C) name=some (some (.ref f)))(ht:isFn K (.ref f)=true)(hv:mA name=none)(h:Q (.ref f,[.ref x]) s):
  wpAny (model prog w) A (getMethod (.ref x) name pl) Q E s:=by
 obtain⟨od,J,hl⟩:=I.look;exact PySem.W.method_fn X J (PySem.W.plainGet_of hg).1 (PySem.W.plainGet_of hg).2 hf (beq_iff_eq.mp ht) (by show(PySem.W.lookIn name od).map (·.isSome)=some false;rw[hl,hv];rfl) h
theorem e0s{ns:List Str}{Q:Unit->Shared->Prop}(X:K.In s.heap)(I:ObjM s.heap x dx C mA)(hs:findIn K (.ref C) "__setattr__" = some (some (.builtin "object.__setattr__")))(hp:plainOver K C=true)(ht:PySem.W.takerIn K C name=some none)(hh:hasDictIn K C=true)(hw:PySem.Within mA ns)(hsz:ns.length<=sizeLine)(h:∀h',ObjM h' x dx C (λy=>if y=name then some v else mA y)->Heap.SameBut dx s.heap h'->Q () { s with heap:=h',toks:=s.toks+2 }):
  wpAny (model prog w) A (setAttr (.ref x) name v) Q E s:=by
 obtain⟨od,J,hl⟩:=I.look;refine PySem.W.set_plain X J hs (PySem.W.osa_open (s:={ s with toks:=s.toks+1 }) (r:=none) X J hp ht λb=>?_)
 obtain⟨cd,hc,hd'⟩:=PySem.W.any_some hh;have hx:s.heap.get? x=some ⟨.ref C,some dx,.plain,#[]⟩:=I.obj;refine wpAny_bind (wpAny_pure (wpAny_bind (wpAny_bind (wpAny_loadPart hx (wpAny_bind (PySem.W.Looks.here (s:={ s with toks:=s.toks+1 }) (PySem.W.looks_clsIn X hc) ?_))))))
 rw[hd'];refine wpAny_pure (a:=some dx) (wpAny_bind (wpAny_pure (wpAny_bind ?_)));refine wpAny_nsSet1 (s:={ s with toks:=s.toks+1 }) I.ns λh' hn2 hs2=>?_
 obtain⟨oD,esD,epD,hoD,hdD,hcD⟩:=hn2.count (PySem.Within.cons name v hw);refine wpAny_bind (wpAny_lookBehind hoD (by rw[hdD];exact pastItsLine_dict (Nat.le_trans hcD (by rw[List.length_cons];lia))) ?_)
 exact wpAny_pure (h _ ⟨(hs2.2 _ (Ne.symm I.ne)).trans I.obj,hn2,I.ne⟩ hs2)
theorem d8f{R:Result->Shared->Prop}{vs:List Value}{kw:List (Str×Value)}(X:K.In s.heap)(hm:makesIn K C=true)(hi:findIn K (.ref C) "__init__" = some (some (.ref f)))(hf:PySem.W.typeIn K (.ref f)=some (.type "function"))(h:codeAny (model prog w) (A.under (.builtin "type.__call__" ⟨.ref C::vs,kw⟩)) (.call (.ref f) ⟨.ref (s.heap.objs.size+1)::vs,kw⟩) (PySem.W.InitBack (s.heap.objs.size+1) R)
   { s with heap:=(s.heap.push PySem.W.emptyDict).push (PySem.W.instObj C s.heap.objs.size) }):
  codeAny (model prog w) A (.call (.ref C) ⟨vs,kw⟩) R s:=by
 obtain⟨hh,g,d,t,os⟩:=s;exact PySem.W.make_core (PySem.W.makes_of X hm) (PySem.W.looks_findIn X hi) (λself=>PySem.W.bind_fn X self hf) (.inl rfl) h
end
def a4e(f:Str)(v:V):List (Str×V)->List (Str×V)
 | []=>[(f,v)]
 | (g,x)::r=>if g=f then (g,v)::r else (g,x)::a4e f v r
theorem b9j(f g:Str)(v:V):∀fs:List (Str×V),(a4e f v fs).lookup g=if g=f then some v else fs.lookup g
 | []=>by
  show List.lookup g [(f,v)]=_;by_cases h:g=f
  ·have hb:(g == f)=true:=beq_iff_eq.mpr h
   simp only[List.lookup,hb,if_pos h]
  ·have hb:(g == f)=false:=beq_eq_false_iff_ne.mpr h
   simp only[List.lookup,hb,if_neg h]
 | (k,x)::r=>by
  have ih:=b9j f g v r;rw[show a4e f v ((k,x)::r)=(if k=f then (k,v)::r else (k,x)::a4e f v r) from rfl];by_cases hk:k=f
  ·rw[if_pos hk]
   by_cases h:g=k
   ·have hb:(g == k)=true:=beq_iff_eq.mpr h
    simp only[List.lookup,hb,if_pos (h.trans hk)]
   ·have hb:(g == k)=false:=beq_eq_false_iff_ne.mpr h
    simp only[List.lookup,hb,if_neg (λe:g=f=>h (e.trans hk.symm))]
  ·rw[if_neg hk]
   by_cases h:g=k
   ·have hb:(g == k)=true:=beq_iff_eq.mpr h
    simp only[List.lookup,hb,if_neg (λe:g=f=>hk (h.symm.trans e))]
   ·have hb:(g == k)=false:=beq_eq_false_iff_ne.mpr h
    simp only[List.lookup,hb];exact ih
theorem b9n(f:Str)(v:V):∀fs:List (Str×V),f∈(a4e f v fs).map (·.1)/\∀g,g∈fs.map (·.1)->g∈(a4e f v fs).map (·.1)
 | []=>⟨by simp[a4e],λg h=>by simp at h⟩
 | (k,x)::r=>by
  obtain⟨i1,i2⟩:=b9n f v r;rw[show a4e f v ((k,x)::r)=(if k=f then (k,v)::r else (k,x)::a4e f v r) from rfl];by_cases hk:k=f
  ·rw[if_pos hk]
   subst hk;exact⟨by simp,λg h=>by simpa using h⟩
  ·rw[if_neg hk]
   refine⟨?_,λg h=>?_⟩
   ·rw[List.map_cons]
    exact List.mem_cons_of_mem _ i1
   ·rw[List.map_cons] at h ⊢
    rcases List.mem_cons.mp h with e|e
    ·exact List.mem_cons.mpr (.inl e)
    ·exact List.mem_cons_of_mem _ (i2 g e)
theorem b9k(f:Str)(v:V):∀fs:List (Str×V),(a4e f v fs).length<=fs.length+1
 | []=>by simp[a4e]
 | (k,x)::r=>by
  have ih:=b9k f v r;rw[show a4e f v ((k,x)::r)=(if k=f then (k,v)::r else (k,x)::a4e f v r) from rfl];by_cases hk:k=f
  ·rw[if_pos hk,List.length_cons,List.length_cons];lia
  ·rw[if_neg hk,List.length_cons,List.length_cons];lia
theorem RelO.some_of{v:V}{o:Option Value}(r:RelO (some v) o):∃u,o=some u/\RelV v u:=by
 cases o with
 | none=>exact(show False from r).elim
 | some u=>exact⟨u,rfl,r⟩
theorem RelO.none_of{o:Option Value}(r:RelO none o):o=none:=by
 cases o with
 | none=>rfl
 | some u=>exact(show False from r).elim
theorem d5l{v:V}{u:Value}(r:RelV v u):PySem.W.handedIn u=true:=by
 cases v with
 | non=>cases (show u=Value.none from r);rfl
 | bl b=>cases (show u=Value.bool b from r);rfl
 | int i=>obtain⟨t,e⟩:=(show ∃t,u=Value.int i t from r);cases e;rfl
 | str x=>obtain⟨t,e⟩:=(show ∃t,u=Value.str x t from r);cases e;rfl
 | byt b=>obtain⟨t,e⟩:=(show ∃t,u=Value.bytes b t from r);cases e;rfl
 | flt b=>obtain⟨t,e⟩:=(show ∃t,u=Value.float b t from r);cases e;rfl
 | ref a=>cases (show u=Value.ref a from r);rfl
 | ty n=>cases (show u=Value.type n from r);rfl
section
variable{P:Program}{w:World}{H H':Hp}{h h':Heap}{a C dx:Addr}{fs fs':List (Str×V)}
theorem c4g(hok:HOk P w H h)(e:H a=some (.ins C dx fs)):∃mA,ObjM h a dx C mA/\(∀f,RelO (fs.lookup f) (mA f))/\PySem.Within mA (fs.map (·.1))/\fs.length<=1000/\H dx=some (.own a):=by
 obtain⟨d,z,ne,ob,mA,n,r,q⟩:=(show ObjOk P w H h a (.ins C dx fs) from hok a _ e);exact⟨mA,⟨ob,n,ne⟩,r,q,z,d⟩
end
structure Cls(K:Frag)(C:Addr):Prop where
 pg:plainGet K C Str.empty=true
 hd:hasDictIn K C=true
 po:plainOver K C=true
 sa:findIn K (.ref C) "__setattr__" = some (some (.builtin "object.__setattr__"))
theorem Cls.get{K:Frag}{C:Addr}(c:Cls K C)(f:Str):plainGet K C f=true:=c.pg
def NoAttr(K:Frag)(C:Addr)(f:Str):Prop:=findIn K (.ref C) f=some none
theorem NoAttr.taker{K:Frag}{C:Addr}{f:Str}(n:NoAttr K C f):PySem.W.takerIn K C f=some none:=by
 unfold PySem.W.takerIn;rw[show findIn K (.ref C) f=some none from n]
 rfl
structure e5x(K:Frag)(C:Addr)(m:Str)(f:Addr):Prop where
 at_:findIn K (.ref C) m=some (some (.ref f))
 fn:isFn K (.ref f)=true
 kp:keepIn K (.ref f)=true
section
variable{X:Cx}{qa:List (Addr×Obj)}{σ:St}{H:Hp}{s:Shared}{a C dx:Addr}{fs:List (Str×V)}{f:Str}{v:V}{A:Around}{E:Value->Shared->Prop}
theorem c1d{b:Bool}{Q:Value->Shared->Prop}(I:Inv X qa σ H s)(e:H a=some (.ins C dx fs))(c:Cls X.K C)(n:NoAttr X.K C f)(l:fs.lookup f=some v)(h:∀u s',Inv X qa σ H s'->RelV v u->Q u s'):wpAny (model X.prog X.w) A (getAttr (.ref a) f b) Q E s:=by
 obtain⟨mA,O,r,_,_,_⟩:=c4g I.hok e;obtain⟨u,hu,ru⟩:=RelO.some_of (v:=v) (o:=mA f) (by rw[<- l];exact r f)
 exact e1s I.kIn O (c.get f) c.hd n hu (d5l ru) (h u _ (I.tok _) ru)
theorem b0m{m:Str}{g:Addr}{pl:Sem Bool}{Q:Value×List Value->Shared->Prop}(I:Inv X qa σ H s)(e:H a=some (.ins C dx fs))(c:Cls X.K C)(k:e5x X.K C m g)(l:fs.lookup m=none)(h:Q (.ref g,[.ref a]) s):wpAny (model X.prog X.w) A (getMethod (.ref a) m pl) Q E s:=by
 obtain⟨mA,O,r,_,_,_⟩:=c4g I.hok e;have hn:mA m=none:=RelO.none_of (by rw[<- l];exact r m)
 exact d8o I.kIn O (c.get m) k.at_ k.fn hn h
theorem b5g{y:V}{u:Value}{Q:Unit->Shared->Prop}(I:Inv X qa σ H s)(e:H a=some (.ins C dx fs))(c:Cls X.K C)(n:NoAttr X.K C f)(hl:fs.length<1000)(ry:RelV y u)(h:∀s',Inv X qa σ (upd H a (.ins C dx (a4e f y fs))) s'->Q () s'):wpAny (model X.prog X.w) A (setAttr (.ref a) f u) Q E s:=by
 obtain⟨mA,O,r,wi,_,ho⟩:=c4g I.hok e;have hz:(fs.map (·.1)).length<=sizeLine:=by rw[List.length_map,sizeLine_eq];lia
 refine e0s I.kIn O c.sa c.po n.taker c.hd wi hz λh' O' sb=>h _ ?_;have hd:∃o,h'.get? dx=some o:=let ⟨o,_,_,e',_⟩:=O'.ns;⟨o,e'⟩
 refine I.write (x:=a) (e:=dx) (by rw[e];exact True.intro) (.inr ho) (λb q hb z=>(sb.2 b hb).trans z) hd ?_
 refine⟨by rw[c7 O.ne];exact ho,?_,O.ne,O'.obj,_,O'.ns,λg=>?_,λg hg=>?_⟩
 ·have:=b9k f y fs;lia
 ·show RelO ((a4e f y fs).lookup g) (if g=f then some u else mA g)
  rw[b9j];by_cases q:g=f
  ·rw[if_pos q,if_pos q];exact ry
  ·rw[if_neg q,if_neg q];exact r g
 ·by_cases q:g=f
  ·rw[q];exact(b9n f y fs).1
  ·refine (b9n f y fs).2 g (wi g λz=>hg ?_)
   show(if g=f then some u else mA g)=none;rw[if_neg q];exact z
theorem Inv.made(I:Inv X qa σ H s):Inv X qa σ (upd (upd H s.heap.objs.size (.own (s.heap.objs.size+1))) (s.heap.objs.size+1) (.ins C s.heap.objs.size []))
  { s with heap:=(s.heap.push PySem.W.emptyDict).push (PySem.W.instObj C s.heap.objs.size) }:=by
 have e1:(s.heap.push PySem.W.emptyDict).get? s.heap.objs.size=some PySem.W.emptyDict:=Heap.get?_push_size s.heap rfl;have e2:((s.heap.push PySem.W.emptyDict).push (PySem.W.instObj C s.heap.objs.size)).get? (s.heap.objs.size+1)=some (PySem.W.instObj C s.heap.objs.size):=by
  have:=Heap.get?_push_size (s.heap.push PySem.W.emptyDict) (o:=PySem.W.instObj C s.heap.objs.size) rfl
  rwa [Heap.size_push] at this
 have e3:(s.heap.push PySem.W.emptyDict).Ns s.heap.objs.size (λ_=>none):=⟨PySem.W.emptyDict,#[],_,e1,rfl,(λe he=>absurd he (by simp)),λ_=>rfl⟩
 have I1:=I.laid (a:=s.heap.objs.size) (o:=.own (s.heap.objs.size+1)) (h':=s.heap.push PySem.W.emptyDict) (t':=s.toks) (λb u q=>Heap.get?_push_of_some _ q) (Nat.le_refl _) ⟨_,e1⟩;refine I1.laid (a:=s.heap.objs.size+1) (o:=.ins C s.heap.objs.size []) (t':=s.toks) (λb u q=>Heap.get?_push_of_some _ q) (Nat.le_of_eq (Heap.size_push _ _)) ?_;have ne:s.heap.objs.size≠s.heap.objs.size+1:=Nat.ne_of_lt (Nat.lt_succ_self _);refine⟨by rw[c7 ne,d7],Nat.zero_le _,ne,e2,λ_=>none,(Heap.Ns1.of_empty e3).at λo q=>Heap.get?_push_of_some _ q,λ_=>True.intro,λy hy=>absurd rfl hy⟩
theorem e2o{prog:Program}{w:World}{env:Env}{e:Expr}{f:Str}{pos:Pos}{s:Shared}{Q:Value->Shared->Prop}(hb:attributeBase e f env (eval e env)=eval e env)(h:wpAny (model prog w) A (eval e env) (λo s₁=>wpAny (model prog w) A (getAttr o f true) Q E s₁) E s):wpAny (model prog w) A (eval (.Attribute e f pos) env) Q E s :=
 Attribute_any_ h (by rw[arm_eval_Attribute,hb])
end
def e6n(K:Frag)(ta:TE)(f:Str):TE:=λσ H Q=>ta σ H λx H1=>∃a C dx fs v,x=.ref a/\H1 a=some (.ins C dx fs)/\Cls K C/\NoAttr K C f/\fs.lookup f=some v/\Q v H1
def e6p(K:Frag)(ta tv:TE)(f:Str):TS:=λD σ H=>tv σ H λy H1=>ta σ H1 λx H2=>∃a C dx fs,x=.ref a/\H2 a=some (.ins C dx fs)/\Cls K C/\NoAttr K C f/\fs.length<1000 /\
 D.nx σ (upd H2 a (.ins C dx (a4e f y fs)))
def e8b(X:Cx)(op:Operator)(rd:V->V->Hp->VK->Prop):Prop :=
 ∀(qa:List (Addr×Obj))(s:Shared)(σ:St)(H:Hp)(x y:V)(u v:Value)(Q:VK),Inv X qa σ H s->RelV x u->RelV y v->rd x y H Q->wpAny (model X.prog X.w) X.A (inplaceOp op u v) (EP X qa σ Q) X.xe s
def c8n(K:Frag)(ta tv:TE)(rd:V->V->Hp->VK->Prop)(f:Str):TS:=λD σ H=>ta σ H λx H1=>∃a C dx fs v,x=.ref a/\H1 a=some (.ins C dx fs)/\Cls K C/\NoAttr K C f/\fs.lookup f=some v /\
 tv σ H1 λy H2=>rd v y H2 λz H3=>∃dx' fs',H3 a=some (.ins C dx' fs')/\fs'.length<1000/\D.nx σ (upd H3 a (.ins C dx' (a4e f z fs')))
section
variable{X:Cx}{o e value:Expr}{f:Str}{pos pos' tpos:Pos}{ta tv:TE}
theorem e4b(he:PE X e ta)(hb:attributeBase e f X.env (eval e X.env)=eval e X.env):PE X (.Attribute e f pos) (e6n X.K ta f):=by
 intro qa s σ H Q I h;refine e2o hb (thn (he qa s σ H _ I h) λu s1 z0_=>?_);obtain⟨x,H1,I1,rx,a,C,dx,fs,v,ex,ea,c,n,l,q⟩:=z0_;subst ex;obtain rfl:u=Value.ref a:=rx;exact c1d I1 ea c n l λu' s2 I2 ru=>⟨v,H1,I2,ru,q⟩
theorem e3v(ha:PE X o ta)(hv:PE X value tv)(hs:swapsWith value (some (.Attribute o f pos')) pos.line X.env=pure false):PS X (.Assign [.Attribute o f pos'] value pos) (e6p X.K ta tv f):=by
 intro qa s σ H D I h;refine plainObj_wpAny_Assign_Attribute (thn (hv qa s σ H _ I h) λu s1 z0_=>?_) hs;obtain⟨y,H1,I1,ry,q⟩:=z0_;refine thn (ha qa s1 σ H1 _ I1 q) λov s2 z1_=>?_;obtain⟨x,H2,I2,rx,a,C,dx,fs,ex,ea,c,n,l,q2⟩:=z1_;subst ex;obtain rfl:ov=Value.ref a:=rx;exact b5g I2 ea c n l ry λs3 I3=>⟨σ,_,I3,q2⟩
theorem d4e{op:Operator}{rd:V->V->Hp->VK->Prop}(ha:PE X o ta)(hv:PE X value tv)(hop:e8b X op rd):PS X (.AugAssign (.Attribute o f tpos) op value pos) (c8n X.K ta tv rd f):=by
 intro qa s σ H D I h;refine wpAny_AugAssign_AttributeAny (thn (ha qa s σ H _ I h) λov s1 z0_=>?_);obtain⟨x,H1,I1,rx,a,C,dx,fs,v,ex,ea,c,n,l,q⟩:=z0_;subst ex;obtain rfl:ov=Value.ref a:=rx;refine c1d I1 ea c n l λu s2 I2 ru=>thn (hv qa s2 σ H1 _ I2 q) λw3 s3 z0_=>?_;obtain⟨y,H2,I3,ry,q3⟩:=z0_;refine thn (hop qa s3 σ H2 v y u w3 _ I3 ru ry q3) λw4 s4 z1_=>?_;obtain⟨z,H3,I4,rz,dx',fs',ea',l',q4⟩:=z1_;exact b5g I4 ea' c n l' rz λs5 I5=>⟨σ,_,I5,q4⟩
def e8s:V->V->Hp->VK->Prop:=λx y H Q=>∃i j,x=.int i/\y=.int j/\Q (.int (i+j)) H
theorem e4q:e8b X .Add e8s:=by
 rintro qa s σ H x y u v Q I rx ry ⟨i,j,rfl,rfl,q⟩;obtain⟨t,rfl⟩:=(show ∃t,u=Value.int i t from rx);obtain⟨t',rfl⟩:=(show ∃t',v=Value.int j t' from ry);exact PyProof.Rows.iadd_int ⟨.int (i+j),H,I.tok _,⟨_,rfl⟩,q⟩
end
section
variable{X:Cx}{qa:List (Addr×Obj)}{σ:St}{H:Hp}{s:Shared}{A:Around}{E:Value->Shared->Prop}{Q:Value->Shared->Prop}{c:Value}{b:Bool}
inductive d3h(K:Frag)(H:Hp):V->Value->Prop where
 | non:d3h K H .non (.type "NoneType")
 | bl (x:Bool):d3h K H (.bl x) (.type "bool")
 | int (i:Int):d3h K H (.int i) (.type "int")
 | str (x:Str):d3h K H (.str x) (.type "str")
 | flt (x:UInt64):d3h K H (.flt x) (.type "float")
 | lst {a:Addr} {xs:List V} (e:H a=some (.lst xs)):d3h K H (.ref a) (.type "list")
 | frz {a:Addr} {o:Obj} {xs:List V} (e:H a=some (.frz o (.lst xs))):d3h K H (.ref a) (.type "list")
 | tup {a:Addr} {xs:List V} (e:H a=some (.tup xs)):d3h K H (.ref a) (.type "tuple")
 | dK {a:Addr} {kvs:List (Key×V)} (e:H a=some (.dK kvs)):d3h K H (.ref a) (.type "dict")
 | dT {a:Addr} {kvs:List (List Key×V)} (e:H a=some (.dT kvs)):d3h K H (.ref a) (.type "dict")
 | ins {a C dx:Addr} {fs:List (Str×V)} (e:H a=some (.ins C dx fs)) (cl:Cls K C) (ha:findIn K (.ref C) "__class__" = some (some (.builtin "object.__class__")))
   (hn:specialIn K (.builtin "object.__class__") "__get__" = some (some (.builtin "getset_descriptor.__get__"))) (htk:PySem.W.takesIn K (.builtin "object.__class__")=some true)
   (hm:mroIn K C (.type "object")=some true):d3h K H (.ref a) (.ref C)
theorem d5i{x:V}{u t:Value}(I:Inv X qa σ H s)(rx:RelV x u)(ty:d3h X.K H x t)(e:kitOne X.K t c=some b)(h:∀tk,Q (.bool b) { s with toks:=tk }):
  wpAny (model X.prog X.w) A (call (.builtin "isinstance") [u,c]) Q E s:=by
 cases ty with
 | non=>cases (show u=Value.none from rx);exact kia_one PySem.W.kitx_none I.kIn True.intro e (λz=>nomatch z) h
 | bl y=>cases (show u=Value.bool y from rx);exact kia_one PySem.W.kitx_bool I.kIn True.intro e (λz=>nomatch z) h
 | int i=>obtain⟨t,q⟩:=(show ∃t,u=Value.int i t from rx);cases q;exact kia_one PySem.W.kitx_int I.kIn True.intro e (λz=>nomatch z) h
 | str y=>obtain⟨t,q⟩:=(show ∃t,u=Value.str y t from rx);cases q;exact kia_one PySem.W.kitx_str I.kIn True.intro e (λz=>nomatch z) h
 | flt y=>obtain⟨t,q⟩:=(show ∃t,u=Value.float y t from rx);cases q;exact kia_one PySem.W.kitx_float I.kIn True.intro e (λz=>nomatch z) h
 | @lst a xs ea=>
  cases (show u=Value.ref a from rx);obtain⟨_,_,n,_,h1⟩:=(show ObjOk X.prog X.w H s.heap a (.lst xs) from I.hok a _ ea);exact kia_one PySem.W.kitx_list I.kIn ⟨_,h1,rfl⟩ e (λz=>nomatch z) h
 | @frz a ob xs ea=>
  cases (show u=Value.ref a from rx);obtain⟨_,_,_,n,_,h1⟩:=(show ObjOk X.prog X.w H s.heap a (.frz ob (.lst xs)) from I.hok a _ ea);exact kia_one PySem.W.kitx_list I.kIn ⟨_,h1,rfl⟩ e (λz=>nomatch z) h
 | @tup a xs ea=>
  cases (show u=Value.ref a from rx);obtain⟨_,_,_,p⟩:=(show ObjOk X.prog X.w H s.heap a (.tup xs) from I.hok a _ ea);obtain⟨o,h1,h2,_⟩:=p;exact kia_one PySem.W.kitx_tuple I.kIn ⟨o,h1,h2⟩ e (λz=>nomatch z) h
 | @dK a kvs ea=>
  cases (show u=Value.ref a from rx);obtain⟨_,_,vs,_,p⟩:=(show ObjOk X.prog X.w H s.heap a (.dK kvs) from I.hok a _ ea);obtain⟨o,es,ep,h1,h2,_⟩:=p;exact kia_one PySem.W.kitx_dict I.kIn ⟨o,h1,h2.1⟩ e (λz=>nomatch z) h
 | @dT a kvs ea=>
  cases (show u=Value.ref a from rx);obtain⟨_,_,xs,_,o,es,ep,h1,h2,_⟩:=(show ObjOk X.prog X.w H s.heap a (.dT kvs) from I.hok a _ ea);exact kia_one PySem.W.kitx_dict I.kIn ⟨o,h1,h2.1⟩ e (λz=>nomatch z) h
 | @ins a C dx fs ea cl ha hn htk hm=>
  cases (show u=Value.ref a from rx);obtain⟨mA,O,_⟩:=c4g I.hok ea;obtain⟨od,J,_⟩:=O.look;exact kia_one (PySem.W.kitx_own (cl.get _) cl.hd ha hn htk hm) I.kIn J e (λz=>nomatch z) h
end
structure Room(k:Nat)(A:Around):Prop where
 hd:A.handled=none
 dp:A.depth+3*k+5<recursionLimit
 un:A.units+16*k+200<cLine
theorem Room.mono{j k:Nat}{A:Around}(r:Room k A)(h:j<=k):Room j A:=⟨r.hd,by have:=r.dp;lia,by have:=r.un;lia⟩
theorem Room.deeper{k:Nat}{A:Around}(r:Room (k+1) A)(env:Env):Room k (A.deeper env) :=
 ⟨r.hd,by have:=r.dp;show A.depth+1+3*k+5<_;lia,by have:=r.un;show A.units+3+16*k+200<_;lia⟩
theorem d3a{A:Around}{C:Addr}{us:List Value}{kw:List (Str×Value)}:(A.under (.builtin "type.__call__" ⟨.ref C::us,kw⟩)).depth=A.depth+1:=by
 first|rfl|simp[Around.under,Code.weight,Code.isCreation,Code.isGuard,Code.isCaller,Code.frames,Code.isFrame,guardIds]
theorem d2z{A:Around}{C:Addr}{us:List Value}{kw:List (Str×Value)}:(A.under (.builtin "type.__call__" ⟨.ref C::us,kw⟩)).units=A.units+1:=by
 first|rfl|simp[Around.under,Code.cUnits,Code.frames,Code.isFrame]
theorem Room.make{k:Nat}{A:Around}(r:Room (k+1) A)(C:Addr)(us:List Value)(kw:List (Str×Value)):Room k (A.under (.builtin "type.__call__" ⟨.ref C::us,kw⟩)) :=
 ⟨r.hd,by have:=r.dp;rw[d3a];lia,by have:=r.un;rw[d2z];lia⟩
theorem Room.depth{k:Nat}{A:Around}(r:Room k A):A.depth<recursionLimit:=by have:=r.dp;lia
def d9i:TA:=λ_ H Q=>Q [] H
def d7m(ta:TE)(tr:TA):TA:=λσ H Q=>ta σ H λx H1=>tr σ H1 λxs H2=>Q (x::xs) H2
section
variable{X:Cx}{e:Expr}{es:List Expr}{te:TE}{t:TA}{pos:Pos}
theorem d6:PA X [] d9i:=λ_ _ _ _ H Q I h=>Calls.spliced_nil ⟨[],H,I,.nil,h⟩
theorem a7(ha:PE X e te)(hr:PA X es t)(hs:starEach (e::es) X.env=(false,eval e X.env)::starEach es X.env:=by rfl):PA X (e::es) (d7m te t):=by
 intro pos qa s σ H Q I h;rw[hs];show wpAny _ _ (spliced ((false,eval e X.env)::backTo pos (starEach es X.env))) _ _ s;refine Calls.spliced_cons (thn (ha qa s σ H _ I h) λu s1 z0_=>?_);obtain⟨x,H1,I1,r1,q1⟩:=z0_;exact thn (hr pos qa s1 σ H1 _ I1 q1) λus s2 z0_=>by obtain⟨xs,H2,I2,r2,q2⟩:=z0_;exact⟨x::xs,H2,I2,.cons r1 r2,q2⟩
def e8f(t:TA):TE:=λσ H Q=>t σ H λxs H1=>xs.length<=sizeLine/\∀p,H1 p=none->Q (.ref p) (upd H1 p (.tup xs))
def e8j(t:TA):TE:=λσ H Q=>t σ H λxs H1=>xs.length<=sizeLine/\∀p,H1 p=none->Q (.ref p) (upd H1 p (.lst xs))
theorem b7b{x1}(h:PA X es t):PE X (.Tuple es x1 pos) (e8f t):=by
 intro qa s σ H Q I hq;refine wpAny_Tuple_spliced (thn (h pos qa s σ H _ I hq) λus s1 ⟨xs,H1,I1,r,z,q⟩=>⟨by rw[<- r.length];exact z,?_⟩)
 have hf:H1 s1.heap.objs.size=none:=I1.hok.fresh (Nat.le_refl _);refine⟨.ref s1.heap.objs.size,upd H1 s1.heap.objs.size (.tup xs),I1.laid (t':=s1.toks) (λb u e=>Heap.get?_push_of_some _ e) (Nat.le_refl _) ?_,rfl,q _ hf⟩;exact⟨z,us,r,⟨_,Heap.get?_push_size _ rfl,rfl,_,rfl⟩⟩
theorem t7(h:PA X es t):PE X (.List es pos) (e8j t):=by
 intro qa s σ H Q I hq;refine wpAny_List_spliced (thn (h pos qa s σ H _ I hq) λus s1 ⟨xs,H1,I1,r,z,q⟩=>⟨by rw[<- r.length];exact z,?_⟩)
 have hf:H1 s1.heap.objs.size=none:=I1.hok.fresh (Nat.le_refl _);refine⟨.ref s1.heap.objs.size,upd H1 s1.heap.objs.size (.lst xs),I1.laid (t':=s1.toks) (λb u e=>Heap.get?_push_of_some _ e) (Nat.le_refl _) ?_,rfl,q _ hf⟩;exact⟨z,us,0,r,Heap.get?_push_size _ rfl⟩
end
abbrev Sp:=List V->Hp->VK->XK->Prop
abbrev CXT:=List Env->Hp->Shared->XK->Value->Shared->Prop
structure Env0(P:Program)(w:World)(K:Frag)(mg:Str->Option Value)(qb:Heap)(A:Around)(outer:List Env)(s:Shared)(H:Hp):Prop where
 frames:A.frames=some outer
 mod:Mod K mg qb
 bs:∀b o,qb.get? b=some o->s.heap.get? b=some o/\H b=none
 bsz:qb.objs.size<=s.heap.objs.size
 funs:s.heap.FunFrames qb outer
 frf:∀b∈frs outer,H b=none
 hok:HOk P w H s.heap
 bare:AllBare s.gens
def CE(outer:List Env)(P:Program)(w:World)(H:Hp)(s:Shared)(Q:VK)(u:Value)(s':Shared):Prop :=
 ∃v H',s'.os=s.os/\AllBare s'.gens/\Un (frs outer) [] H H' s.heap s'.heap/\HOk P w H' s'.heap/\RelV v u/\Q v H'
def CR(CX:CXT)(outer:List Env)(P:Program)(w:World)(H:Hp)(s:Shared)(Q:VK)(E:XK)(r:Result)(s':Shared):Prop :=
 match r with
 | .ok (.ret u)=>CE outer P w H s Q u s'
 | .ok _=>False
 | .error e=>CX outer H s E e s'
structure FnOk(P:Program)(w:World)(K:Frag)(mg:Str->Option Value)(qb:Heap)(CX:CXT)(k:Nat)(f:Addr)(fd:FuncData)(ps:List Str)(sp:Sp):Prop where
 len:∀vs H Q E,sp vs H Q E->vs.length=ps.length
 run:∀(A:Around)(outer:List Env)(s:Shared)(H:Hp)(args:Args)(us:List Value)(vs:List V)(Q:VK)(E:XK),Room k A->Env0 P w K mg qb A outer s H->BindsTo s fd args (ps.zip us)->Vals vs us->sp vs H Q E ->
  codeAny (model P w) A (.call (.ref f) args) (CR CX outer P w H s Q E) s
theorem FnOk.mono{P:Program}{w:World}{K:Frag}{mg:Str->Option Value}{qb:Heap}{CX:CXT}{j k:Nat}{f:Addr}{fd:FuncData}{ps:List Str}{sp:Sp}(F:FnOk P w K mg qb CX j f fd ps sp)(h:j<=k):
  FnOk P w K mg qb CX k f fd ps sp:=⟨F.len,λA outer s H args us vs Q E hr=>F.run A outer s H args us vs Q E (hr.mono h)⟩
theorem Env0.make{P:Program}{w:World}{K:Frag}{mg:Str->Option Value}{qb:Heap}{A:Around}{outer:List Env}{s:Shared}{H:Hp}(e:Env0 P w K mg qb A outer s H)(C:Addr)(us:List Value)(kw:List (Str×Value)):
  Env0 P w K mg qb (A.under (.builtin "type.__call__" ⟨.ref C::us,kw⟩)) outer s H:=⟨by first|exact e.frames|(simpa[Around.under,Code.envs,Code.isFrame,pushEnvs] using e.frames),e.mod,e.bs,e.bsz,e.funs,e.frf,e.hok,e.bare⟩
section
variable{X:Cx}{qa:List (Addr×Obj)}{σ:St}{H:Hp}{s s':Shared}
theorem Inv.env0(I:Inv X qa σ H s):Env0 X.prog X.w X.K X.mg X.qb X.A X.stack s H :=
 ⟨I.ok.frames,I.ok.mod,I.bs,Nat.le_trans I.ok.bsz I.sz,I.stack,I.stkFree,I.hok,I.bare⟩
theorem Inv.after{Q:VK}{u:Value}(I:Inv X qa σ H s)(h:CE X.stack X.prog X.w H s Q u s'):EP X qa σ Q u s':=by
 obtain⟨v,H',os,bare,un,hok,r,q⟩:=h;obtain⟨hh,g,d,t,os'⟩:=s';obtain rfl:os'=s.os:=os;exact⟨v,H',I.call (h':=hh) (g':=g) (d':=d) (t':=t) (ch:=[]) un hok bare (λb z=>absurd z (by simp)),r,q⟩
end
def e3k(sp:Sp)(dvs:List V)(E:XK)(t:TA):TE:=λσ H Q=>t σ H λvs H1=>sp (vs++dvs) H1 Q E
def e3e(C:Addr)(m:Str)(sp:Sp)(dvs:List V)(E:XK)(ta:TE)(t:TA):TE:=λσ H Q=>ta σ H λx H1=>∃a dx fs,x=.ref a/\H1 a=some (.ins C dx fs)/\fs.lookup m=none /\
 t σ H1 λvs H2=>sp (x::(vs++dvs)) H2 Q E
def e6l(C:Addr)(sp:Sp)(dvs:List V)(E:XK)(t:TA):TE:=λσ H Q=>t σ H λvs H1=>∀x dx,H1 x=none->H1 dx=none->dx≠x ->
 sp (.ref x::(vs++dvs)) (upd (upd H1 dx (.own x)) x (.ins C dx [])) (λv H2=>v=.non/\Q (.ref x) H2) E
def Binds(K:Frag)(fd:FuncData)(ps:List Str)(ds:List Value):Prop :=
 ∀(s:Shared)(us:List Value),K.In s.heap->(us++ds).length=ps.length->BindsTo s fd ⟨us,[]⟩ (ps.zip (us++ds))
theorem Binds.all{K:Frag}{fd:FuncData}{ps:List Str}(h:∀us:List Value,us.length=ps.length->bindArgs fd ⟨us,[]⟩=pure (ps.zip us)):Binds K fd ps []:=λs us _ hl=>by
 rw[List.append_nil] at hl ⊢;exact .of_eq (h us hl)
def a3h(CX:CXT)(X:Cx)(E:XK):Prop:=∀(qa:List (Addr×Obj))(σ:St)(H:Hp)(s:Shared)(e:Value)(s':Shared),Inv X qa σ H s->CX X.stack H s E e s'->X.xe e s'
section
variable{X:Cx}{CX:CXT}{k:Nat}{f C:Addr}{fd:FuncData}{ps:List Str}{sp:Sp}{dvs:List V}{ds:List Value}{E:XK}{x m:Str}{p pos apos:Pos}{e o:Expr}{es:List Expr}{ta:TE}{t:TA}
theorem b6z{qa:List (Addr×Obj)}{σ:St}{H:Hp}{s:Shared}{Q:VK}{us:List Value}{vs:List V}(F:FnOk X.prog X.w X.K X.mg X.qb CX k f fd ps sp)(hr:Room k X.A)(hb:Binds X.K fd ps ds)(hd:Vals dvs ds)(hx:a3h CX X E)(I:Inv X qa σ H s)(r:Vals vs us)(h:sp (vs++dvs) H Q E):wpAny (model X.prog X.w) X.A (call (.ref f) us) (EP X qa σ Q) X.xe s:=by
 have r2:Vals (vs++dvs) (us++ds):=r.append hd;have hl:(us++ds).length=ps.length:=by rw[<- r2.length];exact F.len _ _ _ _ h
 refine wpAny_call (codeAny_mono (F.run X.A X.stack s H ⟨us,[]⟩ (us++ds) (vs++dvs) Q E hr I.env0 (hb s us I.kIn hl) r2 h) λr s' hq=>?_);cases r with
 | error e=>exact hx qa σ H s e s' I hq
 | ok fl=>
  cases fl with
  | ret u=>exact I.after hq
  | next=>exact False.elim hq
  | brk=>exact False.elim hq
  | cont=>exact False.elim hq
theorem e1e(F:FnOk X.prog X.w X.K X.mg X.qb CX k f fd ps sp)(hr:Room k X.A)(hg:Gl X x)(hm:X.mg x=some (.ref f))(hk:keepIn X.K (.ref f)=true)(hb:Binds X.K fd ps ds)(hd:Vals dvs ds)(hx:a3h CX X E)(ha:PA X (e::es) t)(hdb:(x == ("__debug__":Str))=false:=by decide)(he:starEach (e::es) X.env=(false,eval e X.env)::starEach es X.env:=by rfl)(hpl:(backTo pos (starEach es X.env)).any (·.1)=false:=by rfl):
  PE X (.Call (.Name x p) (e::es) [] pos) (e3k sp dvs E t):=by
 intro qa s σ H Q I h;refine wpAny_Call_Name_kw (c4d I hg hm ?_ hdb);refine callWith_K (h₀:=X.qb) I.ok.mod.kin hk (thn (ha pos qa s σ H _ I h) λus s1 z0_=>?_) he hpl;obtain⟨vs,H1,I1,r,q⟩:=z0_;refine⟨I1.kIn,?_⟩;exact b6z F hr hb hd hx I1 r q
theorem d7x(F:FnOk X.prog X.w X.K X.mg X.qb CX k f fd ps sp)(hr:Room k X.A)(hg:Gl X x)(hm:X.mg x=some (.ref f))(hk:keepIn X.K (.ref f)=true)(hb:Binds X.K fd ps ds)(hd:Vals dvs ds)(hx:a3h CX X E)(hdb:(x == ("__debug__":Str))=false:=by decide):PE X (.Call (.Name x p) [] [] pos) (e3k sp dvs E d9i):=by
 intro qa s σ H Q I h;refine wpAny_Call_Name_kw (c4d I hg hm ?_ hdb);exact PySem.W.callWith_K0 I.kIn hk (b6z (us:=[]) F hr hb hd hx I .nil h)
theorem e1b{pl:Sem Bool}(he:PE X o ta)(c:Cls X.K C)(hm:e5x X.K C m f)(F:FnOk X.prog X.w X.K X.mg X.qb CX k f fd ps sp)(hr:Room k X.A)(hb:Binds X.K fd ps ds)(hd:Vals dvs ds)(hx:a3h CX X E)(ha:PA X (e::es) t)(hst:starEach (e::es) X.env=(false,eval e X.env)::starEach es X.env:=by rfl)(hpl:(backTo pos (starEach es X.env)).any (·.1)=false:=by rfl)(ht:eval (.Call (.Attribute o m apos) (e::es) [] pos) X.env=(do
   let ov <- eval o X.env
   standAt apos.atName
   let (f,first) <- holding [ov] (getMethod ov m pl)
   callWith pos f first (backTo pos (starEach (e::es) X.env)) (backToKw pos (keywordEach [] X.env))):=by rfl):
  PE X (.Call (.Attribute o m apos) (e::es) [] pos) (e3e C m sp dvs E ta t):=by
 intro qa s σ H Q I h;refine PySem.W.methodCall_KW (pl:=pl) (thn (he qa s σ H _ I h) λu s1 z0_=>?_) ht;obtain⟨x,H1,I1,rx,a,dx,fs,ex,ea,l,q⟩:=z0_;subst ex;obtain rfl:u=Value.ref a:=rx;refine b0m I1 ea c hm l ?_;refine callWith_K (first:=[.ref a]) (h₀:=X.qb) I.ok.mod.kin hm.kp (thn (ha pos qa s1 σ H1 _ I1 q) λus s2 z0_=>?_) hst hpl
 obtain⟨vs,H2,I2,r,q2⟩:=z0_;refine⟨I2.kIn,?_⟩;exact b6z (us:=.ref a::us) (vs:=.ref a::vs) F hr hb hd hx I2 (.cons rfl r) q2
theorem d7v{pl:Sem Bool}(he:PE X o ta)(c:Cls X.K C)(hm:e5x X.K C m f)(F:FnOk X.prog X.w X.K X.mg X.qb CX k f fd ps sp)(hr:Room k X.A)(hb:Binds X.K fd ps ds)(hd:Vals dvs ds)(hx:a3h CX X E)(ht:eval (.Call (.Attribute o m apos) [] [] pos) X.env=(do
   let ov <- eval o X.env
   standAt apos.atName
   let (f,first) <- holding [ov] (getMethod ov m pl)
   callWith pos f first (backTo pos (starEach [] X.env)) (backToKw pos (keywordEach [] X.env))):=by rfl):
  PE X (.Call (.Attribute o m apos) [] [] pos) (e3e C m sp dvs E ta d9i):=by
 intro qa s σ H Q I h;refine PySem.W.methodCall_KW (pl:=pl) (thn (he qa s σ H _ I h) λu s1 z0_=>?_) ht;obtain⟨x,H1,I1,rx,a,dx,fs,ex,ea,l,q⟩:=z0_;subst ex;obtain rfl:u=Value.ref a:=rx;refine b0m I1 ea c hm l ?_;exact PySem.W.callWith_K0 (first:=[.ref a]) I1.kIn hm.kp (b6z (us:=[.ref a]) (vs:=[.ref a]) F hr hb hd hx I1 (.cons rfl .nil) q)
structure Mk(K:Frag)(C f:Addr):Prop where
 makes:makesIn K C=true
 init:findIn K (.ref C) "__init__" = some (some (.ref f))
 fn:isFn K (.ref f)=true
 kp:keepIn K (.ref C)=true
theorem d7q{qa:List (Addr×Obj)}{σ:St}{H:Hp}{s:Shared}{Q:VK}{us:List Value}{vs:List V}(M:Mk X.K C f)(F:FnOk X.prog X.w X.K X.mg X.qb CX k f fd ps sp)(hr:Room (k+1) X.A)(hb:Binds X.K fd ps ds)(hd:Vals dvs ds)(hx:a3h CX X E)(I:Inv X qa σ H s)(r:Vals vs us)(h:∀x dx,H x=none->H dx=none->dx≠x->sp (.ref x::(vs++dvs)) (upd (upd H dx (.own x)) x (.ins C dx [])) (λv H2=>v=.non/\Q (.ref x) H2) E):
  wpAny (model X.prog X.w) X.A (call (.ref C) us) (EP X qa σ Q) X.xe s:=by
 have hq:=h (s.heap.objs.size+1) s.heap.objs.size (I.hok.fresh (Nat.le_succ _)) (I.hok.fresh (Nat.le_refl _)) (Nat.ne_of_lt (Nat.lt_succ_self _));have I2:=Inv.made (C:=C) I;have r2:Vals (V.ref (s.heap.objs.size+1)::(vs++dvs)) (Value.ref (s.heap.objs.size+1)::(us++ds)):=.cons rfl (r.append hd);have hl:(Value.ref (s.heap.objs.size+1)::us++ds).length=ps.length:=by
  have e:=r2.length;rw[F.len _ _ _ _ hq] at e;exact e.symm
 refine wpAny_call (d8f (f:=f) I.kIn M.makes M.init (beq_iff_eq.mp M.fn) (codeAny_mono (F.run _ X.stack _ _ ⟨Value.ref (s.heap.objs.size+1)::us,[]⟩ (Value.ref (s.heap.objs.size+1)::(us++ds)) _ _ E (hr.make C us [])
  (I2.env0.make C us []) (hb _ (Value.ref (s.heap.objs.size+1)::us) I2.kIn hl) r2 hq) λr s' hq'=>?_))
 cases r with
 | error e=>exact hx qa σ _ _ e s' I2 hq'
 | ok fl=>
  cases fl with
  | ret u=>
   obtain⟨v,H',I3,rv,ev,q3⟩:=I2.after hq';subst ev;exact⟨rv,⟨V.ref (s.heap.objs.size+1),H',I3,rfl,q3⟩⟩
  | next=>exact False.elim hq'
  | brk=>exact False.elim hq'
  | cont=>exact False.elim hq'
theorem e1c(M:Mk X.K C f)(F:FnOk X.prog X.w X.K X.mg X.qb CX k f fd ps sp)(hr:Room (k+1) X.A)(hg:Gl X x)(hm:X.mg x=some (.ref C))(hb:Binds X.K fd ps ds)(hd:Vals dvs ds)(hx:a3h CX X E)(ha:PA X (e::es) t)(hdb:(x == ("__debug__":Str))=false:=by decide)(he:starEach (e::es) X.env=(false,eval e X.env)::starEach es X.env:=by rfl)(hpl:(backTo pos (starEach es X.env)).any (·.1)=false:=by rfl):
  PE X (.Call (.Name x p) (e::es) [] pos) (e6l C sp dvs E t):=by
 intro qa s σ H Q I h;refine wpAny_Call_Name_kw (c4d I hg hm ?_ hdb);refine callWith_K (h₀:=X.qb) I.ok.mod.kin M.kp (thn (ha pos qa s σ H _ I h) λus s1 z0_=>?_) he hpl;obtain⟨vs,H1,I1,r,q⟩:=z0_;refine⟨I1.kIn,?_⟩;exact d7q M F hr hb hd hx I1 r q
end
structure g7(N P:List Str)(sc:Scope):Prop where
 kind:sc.kind=.function
 co:sc.isCoroutine=false
 gen:sc.isGenerator=false
 nd:N.Nodup
 pre:N.take P.length=P
 par:∀x∈P,sc.names.lookup x=some .local\/sc.names.lookup x=some .cell
 nofree:∀y∈sc.names,y.2≠.free
theorem c7v{kindOf:Str->Option NameKind}{x:Str}:∀{binds:List (Str×Value)}{m:Str->Option Value},(∀v,(x,v) ∉ binds)->bindL kindOf binds m x=m x
 | [],_,_=>rfl
 | (n,v)::r,m,h=>by
  unfold bindL;rw[c7v λw hw=>h w (List.mem_cons_of_mem _ hw)];split
  ·have:x≠n:=by rintro rfl;exact h v List.mem_cons_self
   simp[this]
  ·rfl
theorem c7x{kindOf:Str->Option NameKind}{x:Str}:∀{binds:List (Str×Value)}{m:Str->Option Value},(∀v,(x,v) ∉ binds)->bindC kindOf binds m x=m x
 | [],_,_=>rfl
 | (n,v)::r,m,h=>by
  unfold bindC;rw[c7x λw hw=>h w (List.mem_cons_of_mem _ hw)];split
  ·rfl
  ·have:x≠n:=by rintro rfl;exact h v List.mem_cons_self
   simp[this]
theorem c7w{kindOf:Str->Option NameKind}{x:Str}{v:Value}:∀{P:List Str}{vs:List Value}{i:Nat}{m:Str->Option Value},P.Nodup->P[i]?=some x->vs[i]?=some v->kindOf x=some .local ->
  bindL kindOf (P.zip vs) m x=some v
 | [],_,_,_,_,h,_,_=>by simp at h
 | _::_,[],_,_,_,_,h,_=>by simp at h
 | p::P,w::vs,0,m,nd,h1,h2,hk=>by
  simp at h1 h2;subst h1;subst h2;show bindL kindOf ((p,w)::P.zip vs) m p=_;unfold bindL;rw[c7v λv hv=>(List.nodup_cons.mp nd).1 (List.of_mem_zip hv).1,if_pos hk];simp
 | p::P,w::vs,i+1,m,nd,h1,h2,hk=>by
  show bindL kindOf ((p,w)::P.zip vs) m x=_;unfold bindL;exact c7w (i:=i) (List.nodup_cons.mp nd).2 (by simpa using h1) (by simpa using h2) hk
theorem c7y{kindOf:Str->Option NameKind}{x:Str}{v:Value}:∀{P:List Str}{vs:List Value}{i:Nat}{m:Str->Option Value},P.Nodup->P[i]?=some x->vs[i]?=some v->kindOf x≠some .local ->
  bindC kindOf (P.zip vs) m x=some v
 | [],_,_,_,_,h,_,_=>by simp at h
 | _::_,[],_,_,_,_,h,_=>by simp at h
 | p::P,w::vs,0,m,nd,h1,h2,hk=>by
  simp at h1 h2;subst h1;subst h2;show bindC kindOf ((p,w)::P.zip vs) m p=_;unfold bindC;rw[c7x λv hv=>(List.nodup_cons.mp nd).1 (List.of_mem_zip hv).1,if_neg hk];simp
 | p::P,w::vs,i+1,m,nd,h1,h2,hk=>by
  show bindC kindOf ((p,w)::P.zip vs) m x=_;unfold bindC;exact c7y (i:=i) (List.nodup_cons.mp nd).2 (by simpa using h1) (by simpa using h2) hk
def start(N:List Str)(vs:List V):St:=vs.map some++List.replicate (N.length-vs.length) none
def c9t(CX:CXT)(P:Program)(w:World)(K:Frag)(mg:Str->Option Value)(qb:Heap)(N:List Str)(qual:Str)(scope:Scope)(f:Addr)(cd:Value)(A:Around)(outer:List Env)(s:Shared)(H:Hp)(E:XK):Cx where
 prog:=P
 w:=w
 K:=K
 mg:=mg
 qb:=qb
 A:=A.deeper (envOfC qual scope s.heap.objs.size f cd)
 N:=N
 s₀:=s
 H₀:=H
 env:=envOfC qual scope s.heap.objs.size f cd
 outer:=outer
 stack:=envOfC qual scope s.heap.objs.size f cd::outer
 ex:=[]
 calm:=true
 fn:=λ_=>true
 pn:=[]
 xe:=λe s'=>wpAny (model P w) (A.deeper (envOfC qual scope s.heap.objs.size f cd)) (leaving (envOfC qual scope s.heap.objs.size f cd) e) (λ_ s''=>CX outer H s E e s'') (λe' s''=>CX outer H s E e' s'') s'
theorem d1n{sc:Scope}{n:Nat}{x:Str}(h:sc.names.lookup x=some .cell):∃c,(cellsFrom n sc.names []).lookup x=some c:=by
 have q:=PySem.W.cellsFrom_some sc.names n [] (.inl h);exact Option.isSome_iff_exists.mp q
theorem d5j{CX:CXT}{P:Program}{w:World}{K:Frag}{mg:Str->Option Value}{qb:Heap}{N ps:List Str}{qual:Str}{scope:Scope}{f:Addr}{cd:Value}{A:Around}{outer:List Env}{s s1:Shared}{H:Hp}{E:XK}{us:List Value}{vs:List V}(S:g7 N ps scope)(hd:A.handled=none)(e0:Env0 P w K mg qb A outer s H)(hl:vs.length=ps.length)(r:Vals vs us)(x:InCallC s s.heap.objs.size (bindL (envOfC qual scope s.heap.objs.size f cd).kindOf (ps.zip us) λ_=>none) (cellsFrom (s.heap.objs.size+1) scope.names []) (bindC (envOfC qual scope s.heap.objs.size f cd).kindOf (ps.zip us) λ_=>none) s1):
  Inv (c9t CX P w K mg qb N qual scope f cd A outer s H E) [] (start N vs) H s1:=by
 have hpl:ps.length<=N.length:=by have:=congrArg List.length S.pre;rw[List.length_take] at this;lia
 obtain⟨h1,tk,rfl,hk⟩:=x.done;have noA:∀b:Addr,b ∉ (c9t CX P w K mg qb N qual scope f cd A outer s H E).ex:=λb z=>absurd (show b∈([]:List Addr) from z) (by simp)
 refine⟨⟨e0.mod,S.kind,rfl,rfl,Nat.le_refl _,λy z c h1 h2=>?_,λy hy=>?_,λy c _ h=>?_,λ_=>hd,Around.frames_deeper e0.frames,.inr ⟨rfl,rfl⟩,λb z=>absurd z (noA b),e0.bs,e0.bsz,λb _ _=>noA b,λb z=>absurd z (noA b),e0.funs,e0.frf⟩,
  rfl,e0.bare,Un.kept hk,⟨_,x.toInCall.ns,λi y v h1 h2 h3=>?_⟩,λy c h=>⟨_,x.cell y c h⟩,e0.hok.fresh (Nat.le_refl _),λy c h=>?_,λp hp=>absurd (show p∈([]:List (Addr×Obj)) from hp) (by simp),e0.hok.kept hk,?_⟩
 ·exact name_of_addr x.apart (PySem.mem_of_lookup h1) (PySem.mem_of_lookup h2)
 ·have hy:scope.names.lookup y=some .cell\/scope.names.lookup y=some .free:=hy
  rcases hy with hy|hy
  ·exact d1n hy
  ·exact absurd rfl (S.nofree _ (PySem.mem_of_lookup hy))
 ·exact Nat.le_of_lt (x.above y c (PySem.mem_of_lookup h))
 ·have hi:i<vs.length:=by
   unfold start at h2;by_cases hi:i<vs.length
   ·exact hi
   ·rw[List.getElem?_append_right (by simpa using hi)] at h2
    rw[List.getElem?_replicate] at h2;split at h2 <;> cases h2
  have ha:vs[i]?=some v:=by
   unfold start at h2;rw[List.getElem?_append_left (by simpa using hi),List.getElem?_map] at h2
   cases e:vs[i]? with
   | none=>rw[e] at h2;cases h2
   | some a=>rw[e] at h2;cases h2;rfl
  obtain⟨u,hu,rv⟩:=r.get ha;have hp:ps[i]?=some y:=by
   rw[<- S.pre,List.getElem?_take_of_lt ↑3];exact h1
  have ndP:ps.Nodup:=by rw[<- S.pre];exact S.nd.sublist (List.take_sublist _ _)
  refine⟨u,rv,?_⟩;rcases S.par y (List.mem_of_getElem? hp) with k|k
  ·exact .inl ⟨k,c7w ndP hp hu k⟩
  ·obtain⟨c,e⟩:=d1n (n:=s.heap.objs.size+1) k
   refine .inr ⟨.inl k,c,e,?_⟩;have q:=x.cell y c e;rw[c7y ndP hp hu (by show scope.names.lookup y≠_;rw[k];decide)] at q
   exact q
 ·exact e0.hok.fresh (Nat.le_of_lt (x.above y c (PySem.mem_of_lookup h)))
 ·unfold start
  show _=N.length;rw[List.length_append,List.length_map,List.length_replicate];lia
theorem e7w{CX:CXT}{P:Program}{w:World}{K:Frag}{mg:Str->Option Value}{qb:Heap}{k:Nat}{f:Addr}{name qual:Str}{params:Arguments}{body:List Stmt}{scope:Scope}{dV kV doc pm cdv ct oc:Value}{an od:Option Addr}{osl:Array (Option Value)}{N ps:List Str}{sp:Sp}(lk:K.lookup f=some ⟨oc,od,.func (PySem.W.fnOf name qual params body scope dV kV doc pm an cdv ct),osl⟩)(hcd:codeIn K cdv qual=true)(S:g7 N ps scope)(len:∀vs H Q E,sp vs H Q E->vs.length=ps.length)(hbody:∀(A:Around) (outer:List Env) (s:Shared) (H:Hp) (vs:List V) (Q:VK) (E:XK),Room k (A.deeper (envOfC qual scope s.heap.objs.size f cdv))->sp vs H Q E ->
   ∃t,PSs (c9t CX P w K mg qb N qual scope f cdv A outer s H E) body t/\t { nx:=λ_ H'=>Q .non H',rt:=Q } (start N vs) H):
  FnOk P w K mg qb CX (k+1) f (PySem.W.fnOf name qual params body scope dV kV doc pm an cdv ct) ps sp:=by
 refine⟨len,λA outer s H args us vs Q E hr e0 hb r hsp=>?_⟩;have hl:=len _ _ _ _ hsp;have KX:K.In s.heap:=e0.mod.kin.keeps λb o e=>(e0.bs b o e).1;have lim:s.heap.NoLimit:=e0.mod.nolimit.keeps λb o e=>(e0.bs b o e).1;have hkind:∀y∈ps.zip us,scope.names.lookup y.1=some .local\/(scope.names.lookup y.1=some .cell/\((cellsFrom (s.heap.objs.size+1) scope.names []).lookup y.1).isSome=true):=λ⟨n,v⟩ hy=>by
  rcases S.par n (List.of_mem_zip hy).1 with q|q
  ·exact .inl q
  ·exact .inr ⟨q,PySem.W.cellsFrom_some _ _ _ (.inl q)⟩
 refine codeAny_call_function hr.depth (KX _ _ lk) rfl S.co S.gen rfl (PySem.W.codeRec_of KX hcd) (hb _ _ _ _ ?_);refine wpAny_newFunctionEnv_cells S.kind hkind λenv he s1 x=>?_;subst he;refine⟨lim.keeps x.toInCall.keep,codeAny_func ?_⟩;obtain⟨t,ht,hq⟩:=hbody A outer s H vs Q E (hr.deeper _) hsp;have I:Inv (c9t CX P w K mg qb N qual scope f cdv A outer s H E) [] (start N vs) H s1:=d5j S hr.hd e0 hl r x;refine wpAny_mono (ht [] s1 (start N vs) H _ I hq) (λfl s' hs=>?_) λe s' hs=>hs;have fin:∀{σ':St}{H':Hp}{v:V}{u:Value},Inv (c9t CX P w K mg qb N qual scope f cdv A outer s H E) [] σ' H' s'->RelV v u->Q v H'->CE outer P w H s Q u s' :=
  λ{σ' H' v u} J rv q=>⟨v,H',J.os,J.bare,J.qb,J.hok,rv,q⟩
 cases fl with
 | ret u=>
  obtain⟨v,σ',H',J,rv,q⟩:=hs;exact fin J rv q
 | next=>
  obtain⟨σ',H',J,q⟩:=hs;exact fin (v:=V.non) (u:=Value.none) J rfl q
 | brk=>
  obtain⟨_,_,_,q⟩:=hs;exact False.elim q
 | cont=>
  obtain⟨_,_,_,q⟩:=hs;exact False.elim q
section
variable{X:Cx}{x:Str}{p pos:Pos}{e:Expr}{es:List Expr}{t:TA}{id T:String}{r:List V->Hp->VK->Prop}
def tCB(r:List V->Hp->VK->Prop)(t:TA):TE:=λσ H Q=>t σ H λvs H1=>r vs H1 Q
theorem l7(hc:a5q X (.builtin id) r)(hg:Gl X x)(hm:X.mg x=none)(hv:bootBuiltins x=some (.builtin id))(ha:PA X (e::es) t)(hn:x≠"__name__":=by decide)(hdb:(x == ("__debug__":Str))=false:=by decide)(he:starEach (e::es) X.env=(false,eval e X.env)::starEach es X.env:=by rfl)(hpl:(backTo pos (starEach es X.env)).any (·.1)=false:=by rfl):PE X (.Call (.Name x p) (e::es) [] pos) (tCB r t):=by
 intro qa s σ H Q I h;refine wpAny_Call_Name_kw (b9l I hg hm hv ?_ hn hdb);exact PyProof.Rows.callWith_builtin1 (thn (ha pos qa s σ H _ I h) λus s1 z0_=>by obtain⟨vs,H1,I1,r1,q1⟩:=z0_;exact hc qa s1 σ H1 vs us Q I1 r1 q1) he hpl
theorem a2y(hc:a5q X (.type T) r)(hg:Gl X x)(hm:X.mg x=none)(hv:bootBuiltins x=some (.type T))(ha:PA X (e::es) t)(hn:x≠"__name__":=by decide)(hdb:(x == ("__debug__":Str))=false:=by decide)(he:starEach (e::es) X.env=(false,eval e X.env)::starEach es X.env:=by rfl)(hpl:(backTo pos (starEach es X.env)).any (·.1)=false:=by rfl):PE X (.Call (.Name x p) (e::es) [] pos) (tCB r t):=by
 intro qa s σ H Q I h;refine wpAny_Call_Name_kw (b9l I hg hm hv ?_ hn hdb);exact PyProof.Rows.callWith_type1 (thn (ha pos qa s σ H _ I h) λus s1 z0_=>by obtain⟨vs,H1,I1,r1,q1⟩:=z0_;exact hc qa s1 σ H1 vs us Q I1 r1 q1) he hpl
end
end L2
namespace HT
open PySem PyProof.Rows
section
variable{prog:Program}{w:World}{A:Around}{E:Value->Shared->Prop}{s:Shared}
theorem cat_tup{t b:Addr}{vs ws:List Value}{Q:Value->Shared->Prop}(ht:IsTup s.heap t vs.toArray)(hb:IsTup s.heap b ws.toArray)(hv:vs≠[])(h1:ws=[]->Q (.ref t) s)(h2:ws≠[]->Q (.ref s.heap.objs.size) { s with heap:=s.heap.push { cls:=.type "tuple",data:=.seq (vs++ws).toArray } })(hsz:vs.length+ws.length<=sizeLine):wpAny (model prog w) A (binaryOp .Add (.ref t) (.ref b)) Q E s:=by
 obtain⟨⟨cls,dd,data,sl⟩,ho,hc,n,hd⟩:=id ht;obtain⟨⟨cls2,dd2,data2,sl2⟩,ho2,hc2,n2,hd2⟩:=id hb;simp only at hc hd hc2 hd2;subst hc hd hc2 hd2;have e:vs.toArray++ws.toArray=(vs++ws).toArray:=by simp
 by_cases hw:ws=[]
 ·exact concat_meets ⟨_,ho,rfl⟩ ⟨_,ho2,rfl⟩ noFill_tuple_add seq_tuple_add PySem.F.slot_tuple_add PySem.F.entry_tuple_add (PySem.F.args_tuple_add_2 _ _)
   (tuple_addW1 t b vs.toArray ws.toArray n n2 dd dd2 sl sl2 (by simpa using hv) (by simp[hw])) ⟨ho,ho2,h1 hw⟩
 ·refine concat_meets ⟨_,ho,rfl⟩ ⟨_,ho2,rfl⟩ noFill_tuple_add seq_tuple_add PySem.F.slot_tuple_add PySem.F.entry_tuple_add (PySem.F.args_tuple_add_2 _ _)
   (tuple_addW2 t b vs.toArray ws.toArray n n2 dd dd2 sl sl2 (by simpa using hv) (by simpa using hw) (by rw[List.size_toArray,List.size_toArray];exact hsz)) ⟨ho,ho2,?_⟩
  rw[e];exact h2 hw
def sIx(n d:Nat):Option Int->Nat
 | none=>d
 | some v=>if v<0 then (v+(n:Int)).toNat else min v.toNat n
theorem sIx_none(n d:Nat):sIx n d none=d:=rfl
theorem sIx_nat(n d k:Nat):sIx n d (some (k:Int))=min k n:=by
 show(if (k:Int)<0 then ((k:Int)+(n:Int)).toNat else min (k:Int).toNat n)=min k n;rw[if_neg ↑3,Int.toNat_natCast]
end
end HT
namespace L2
open PySem PySem.Spec PyProof.Rows
abbrev TO:=St->Hp->(Option Int->Hp->Prop)->Prop
def PO(X:Cx)(e:Option Expr)(t:TO):Prop :=
 ∀(qa:List (Addr×Obj))(s:Shared)(σ:St)(H:Hp)(Q:Option Int->Hp->Prop),Inv X qa σ H s->t σ H Q ->
  wpAny (model X.prog X.w) X.A (evalPart e X.env) (λu s'=>∃o H',Inv X qa σ H' s'/\IsPart u o/\Q o H') X.xe s
def d3s:TO:=λ_ H Q=>Q none H
def e3b(t:TE):TO:=λσ H Q=>t σ H λx H1=>∃i,x=.int i/\Q (some i) H1
theorem d3c{ns:List Int}:∀{us:List Value},Vals (ns.map V.int) us->IntsAre us ns:=by
 induction ns with
 | nil=>intro us r;rw[List.map_nil] at r;cases r;exact .nil
 | cons n ns ih=>
  intro us r;rw[List.map_cons] at r;cases r with
  | cons r1 r2=>
   obtain⟨t,e⟩:=r1;subst e;exact .cons n t (ih r2)
section
variable{X:Cx}{e:Expr}{te:TE}{lo hi:Option Expr}{tl th:TO}{pos p2:Pos}
theorem c2y:PO X none d3s:=by
 intro qa s σ H Q I h;rw[evalPart_none];exact wpAny_pure ⟨none,H,I,.none,h⟩
theorem c2x(h:PE X e te):PO X (some e) (e3b te):=by
 intro qa s σ H Q I hw;rw[evalPart_some];refine thn (h qa s σ H _ I hw) λu s1 z0_=>?_;obtain⟨x,H1,I1,r1,q1⟩:=z0_;obtain⟨i,rfl,q⟩:=q1;obtain⟨t,rfl⟩:=r1;exact⟨some i,H1,I1,.int i t,q⟩
def SlR(X:Cx)(r:V->Option Int->Option Int->Hp->VK->Prop):Prop :=
 ∀(qa:List (Addr×Obj))(s:Shared)(σ:St)(H:Hp)(x:V)(v vl vu:Value)(lo hi:Option Int)(sl:Addr)(Q:VK),Inv X qa σ H s->RelV x v->s.heap.IsSliceOf sl vl vu .none->IsPart vl lo->IsPart vu hi->r x lo hi H Q ->
  ∃T id,typeLookup (.type T) "__getitem__" = pure (some (.builtin id))/\s.TypeIs v T/\wpAny (model X.prog X.w) X.A (getItem v (.ref sl)) (EP X qa σ Q) X.xe s
def tSl(r:V->Option Int->Option Int->Hp->VK->Prop)(te:TE)(tl th:TO):TE:=λσ H Q=>te σ H λx H1=>tl σ H1 λl H2=>th σ H2 λu H3=>r x l u H3 Q
theorem b7t{r:V->Option Int->Option Int->Hp->VK->Prop}(hr:SlR X r)(he:PE X e te)(hl:PO X lo tl)(hu:PO X hi th):PE X (.Subscript e (.Slice lo hi none p2) pos) (tSl r te tl th):=by
 intro qa s σ H Q I h;refine Subscript_ (thn (he qa s σ H _ I h) λv s1 z0_=>?_);obtain⟨x,H1,I1,r1,q1⟩:=z0_;refine wpAny_Slice (thn (hl qa s1 σ H1 _ I1 q1) λvl s2 z0_=>?_);obtain⟨l,H2,I2,pl,q2⟩:=z0_;refine thn (hu qa s2 σ H2 _ I2 q2) λvu s3 z1_=>?_;obtain⟨u,H3,I3,pu,q3⟩:=z1_;rw[evalPart_none];refine wpAny_pure ?_;have I4:Inv X qa σ H3 { s3 with heap:=s3.heap.push { cls:=.type "slice",data:=.fields #[vl,vu,.none] } }:=I3.kept (t':=s3.toks) λb ob q=>Heap.get?_push_of_some _ q
 obtain⟨T,id,hT,ht,hg⟩:=hr qa { s3 with heap:=s3.heap.push { cls:=.type "slice",data:=.fields #[vl,vu,.none] } } σ H3 x v vl vu l u s3.heap.objs.size Q I4 r1 (Heap.IsSliceOf.new ..) pl pu q3
 show wpAny (model X.prog X.w) X.A (subscriptTail e (.Slice lo hi none p2) v (.ref s3.heap.objs.size)) (EP X qa σ Q) X.xe { s3 with heap:=s3.heap.push { cls:=.type "slice",data:=.fields #[vl,vu,.none] } }
 exact tail_any (ops:=[.ref s3.heap.objs.size,v]) ht hT hg (by with_unfolding_all rfl)
def d3j(xs:List V)(lo hi:Option Int):List V:=(xs.drop (HT.sIx xs.length 0 lo)).take (HT.sIx xs.length xs.length hi-HT.sIx xs.length 0 lo)
theorem c9u(xs:List V)(lo hi:Option Int):(d3j xs lo hi).length<=xs.length:=by
 unfold d3j;rw[List.length_take,List.length_drop];lia
def e3t(K:Frag):R2:=λx y H Q=>∃a b xs ys,x=.ref a/\y=.ref b/\SqT K H a xs/\SqT K H b ys/\xs≠[]/\xs.length+ys.length<=sizeLine /\
 (ys=[]->Q (.ref a) H)/\(ys≠[]->∀p,H p=none->Q (.ref p) (upd H p (.tup (xs++ys))))
theorem Vals.nil_iff{xs:List V}{us:List Value}(r:Vals xs us):us=[] ↔ xs=[]:=by
 cases r with
 | nil=>simp
 | cons _ _=>simp
theorem e1i:OpR X (binaryOp .Add) (e3t X.K):=by
 intro qa s σ H x y v u Q I rx ry h;obtain⟨a,b,xs,ys,rfl,rfl,ha,hb,hx,hz,q1,q2⟩:=h;cases rx;cases ry;obtain⟨its,r1,p1,_⟩:=I.tuple ha;obtain⟨its2,r2,p2,_⟩:=I.tuple hb;refine HT.cat_tup p1 p2 (λz=>hx (r1.nil_iff.mp z)) (λz=>⟨.ref a,H,I,rfl,q1 (r2.nil_iff.mp z)⟩) (λz=>?_) (by rw[<- r1.length,<- r2.length];exact hz)
 refine⟨.ref s.heap.objs.size,_,I.laid (t':=s.toks) (o:=.tup (xs++ys)) (λb ob q=>Heap.get?_push_of_some _ q) (Nat.le_refl _) ?_,rfl,q2 (λw=>z (r2.nil_iff.mpr w)) _ (I.hok.fresh (Nat.le_refl _))⟩;exact⟨by rw[List.length_append];exact hz,_,r1.append r2,IsTup.new _ _⟩
end
def ixN(n:Nat)(i:Int):Option Nat:=if 0<=i then (if i<n then some i.toNat else none) else if -(n:Int)<=i then some (i+n).toNat else none
def atI{α:Type}(xs:List α)(i:Int):Option α:=(ixN xs.length i).bind λj=>xs[j]?
theorem d5g{n:Nat}{i:Int}{j:Nat}(h:ixN n i=some j):seqIndex? i n=some j/\j<n/\-(n:Int)<=i/\i<n:=by
 unfold ixN at h;by_cases h0:0<=i
 ·rw[if_pos h0] at h
  by_cases h1:i<n
  ·rw[if_pos h1] at h
   have e:i.toNat=j:=Option.some.inj h;exact⟨by rw[seqIndex_of h0 h1,e],by lia,by lia,h1⟩
  ·rw[if_neg h1] at h;cases h
 ·rw[if_neg h0] at h
  by_cases h1:-(n:Int)<=i
  ·rw[if_pos h1] at h
   have e:(i+n).toNat=j:=Option.some.inj h;exact⟨by rw[seqIndex_neg ↑3 h1,e],by lia,h1,by lia⟩
  ·rw[if_neg h1] at h;cases h
theorem e2p{α:Type}{xs:List α}{i:Int}{v:α}(h:atI xs i=some v):∃j,seqIndex? i xs.length=some j/\xs[j]?=some v/\j<xs.length/\-(xs.length:Int)<=i/\i<xs.length:=by
 unfold atI at h;cases e:ixN xs.length i with
 | none=>rw[e] at h;cases h
 | some j=>
  rw[e] at h;obtain⟨h1,h2,h3,h4⟩:=d5g e;exact⟨j,h1,h,h2,h3,h4⟩
def e2r(b:Expr):Prop:=∀o i,subscripted b false o i=operate [o,i] (getItem o i)
def IxR(X:Cx)(r:R2):Prop :=
 ∀(value slice:Expr)(qa:List (Addr×Obj))(s:Shared)(σ:St)(H:Hp)(x y:V)(v u:Value)(Q:VK),Inv X qa σ H s->RelV x v->RelV y u->r x y H Q ->
  subscripted slice false v u=operate [v,u] (getItem v u)->wpAny (model X.prog X.w) X.A (subscriptTail value slice v u) (EP X qa σ Q) X.xe s
def MtR(X:Cx)(id:String)(r:V->List V->Hp->VK->Prop):Prop :=
 ∀(qa:List (Addr×Obj))(s:Shared)(σ:St)(H:Hp)(x:V)(xs:List V)(v:Value)(us:List Value)(Q:VK),Inv X qa σ H s->RelV x v->Vals xs us->r x xs H Q ->
  wpAny (model X.prog X.w) X.A (call (.builtin id) (v::us)) (EP X qa σ Q) X.xe s
section
variable{X:Cx}{a b:Expr}{ta tb:TE}{pos:Pos}
theorem v4{r:R2}(hr:IxR X r)(ha:PE X a ta)(hb:PE X b tb)(hs:e2r b):PE X (.Subscript a b pos) (tOp r ta tb):=by
 intro qa s σ H Q I h;exact Subscript_ (e7y ha hb I h λv u s2 x y H2 I2 rx ry q=>hr a b qa s2 σ H2 x y v u Q I2 rx ry q (hs _ _))
def e6t(K:Frag):R2:=λx y H Q=>∃p xs i v,x=.ref p/\y=.int i/\SqL K H p xs/\atI xs i=some v/\Q v H
theorem e1n:IxR X (e6t X.K):=by
 intro value slice qa s σ H x y v u Q I rx ry h hs;obtain⟨p,xs,i,z,rfl,rfl,hq,he,q⟩:=h;cases rx;obtain⟨t,rfl⟩:=ry;obtain⟨its,r,pl,hz⟩:=I.list hq;obtain⟨j,h1,h2,h3,h4,h5⟩:=e2p he;obtain⟨w,ew,rw'⟩:=r.get h2;have hl:=r.length;have hn:=d1a;have fin:EP X qa σ Q w s:=⟨z,H,I,rw',q⟩;by_cases h0:0<=i
 ·have hj:i.toNat=j:=by
   rw[seqIndex_of h0 h5] at h1;exact Option.some.inj h1
  exact item_listR pl.isList h0 ↑3 (by rw[hj];simpa using ew) fin hs
 ·have hj:(i+(its.toArray.size:Int)).toNat=j:=by
   rw[seqIndex_neg ↑3 h4] at h1;rw[List.size_toArray,<- hl];exact Option.some.inj h1
  exact subscriptTail_builtinR (x:=w) pl.isList.typeIs slot_list_getitem.lookup
   (wpAny_getItem_list_neg (Q:=λr s'=>r=w/\EP X qa σ Q r s') pl.isList ↑3 (by rw[List.size_toArray] <;> lia) ↑3 (by rw[hj];simpa using ew) ⟨rfl,fin⟩) hs
theorem d2y(its:List Value)(n j:Nat)(u:Value):Obj.mapSeq (·.setIfInBounds j u) { cls:=.type "list",data:=.seq its.toArray n }={ cls:=.type "list",data:=.seq (its.set j u).toArray n }:=by
 simp[Obj.mapSeq]
theorem Inv.lst{qa:List (Addr×Obj)}{σ:St}{H:Hp}{s:Shared}{p:Addr}{xs:List V}(I:Inv X qa σ H s)(h:H p=some (.lst xs)):
  ∃(its:List Value)(n:Nat),Vals xs its/\s.heap.get? p=some { cls:=.type "list",data:=.seq its.toArray n }/\xs.length<=sizeLine:=by
 obtain⟨z,its,n,r,e⟩:=I.hok p _ h;exact⟨its,n,r,e,z⟩
theorem Inv.lstUpd{qa:List (Addr×Obj)}{σ:St}{H:Hp}{s:Shared}{p:Addr}{xs ys:List V}{its its':List Value}{n n':Nat}{f:Obj->Obj}(I:Inv X qa σ H s)(h:H p=some (.lst xs))(ho:s.heap.get? p=some { cls:=.type "list",data:=.seq its.toArray n })(hf:f { cls:=.type "list",data:=.seq its.toArray n }={ cls:=.type "list",data:=.seq its'.toArray n' })(r:Vals ys its')(hz:ys.length<=sizeLine)(t:Nat):
  Inv X qa σ (upd H p (.lst ys)) { s with heap:=s.heap.update p f,toks:=t }:=by
 have e:(s.heap.update p f).get? p=some { cls:=.type "list",data:=.seq its'.toArray n' }:=by
  rw[Heap.get?_update_self f ho (by rw[hf] <;> rfl),hf]
 refine I.write (x:=p) (e:=p) (by rw[h];trivial) (.inl rfl) (λb u hb q=>(Heap.get?_update_other _ _ (Ne.symm hb)).trans q) ⟨_,e⟩ ?_
 exact⟨hz,its',n',r,e⟩
def e3s:V->V->V->Hp->(Hp->Prop)->Prop:=λo i v H Q=>∃p xs k j,o=.ref p/\i=.int k/\H p=some (.lst xs)/\ixN xs.length k=some j/\Q (upd H p (.lst (xs.set j v)))
theorem b3t:e7z X e3s:=by
 intro qa s σ H o i v ov iv u Q I ro ri rv h;obtain⟨p,xs,k,j,rfl,rfl,hp,hj,q⟩:=h;cases ro;obtain⟨t,rfl⟩:=ri;obtain⟨its,n,r,ho,hz⟩:=I.lst hp;obtain⟨h1,h2,h3,h4⟩:=d5g hj;have hl:=r.length;have hn:=d1a;have I':Inv X qa σ (upd H p (.lst (xs.set j v))) { s with heap:=s.heap.update p (Obj.mapSeq (·.setIfInBounds j u)) } :=
  I.lstUpd hp ho (d2y its n j u) (r.set rv j) (by rw[List.length_set];exact hz) s.toks
 by_cases h0:0<=k
 ·have hk:k.toNat=j:=by
   rw[seqIndex_of h0 h4] at h1;exact Option.some.inj h1
  exact PySem.W.ki_setAt ho h0 ↑3 (by rw[List.size_toArray,<- hl];exact h4) (by rw[hk];exact⟨_,I',q⟩)
 ·have hk:(k+(its.toArray.size:Int)).toNat=j:=by
   rw[seqIndex_neg ↑3 h3] at h1;rw[List.size_toArray,<- hl];exact Option.some.inj h1
  exact PySem.W.ki_setBack ho ↑3 (by rw[List.size_toArray,<- hl];exact h3) ↑3 (by rw[hk];exact⟨_,I',q⟩)
theorem c4y(lo hi:Option Int)(n:Nat):(sliceBounds lo hi none n).1=((HT.sIx n 0 lo:Nat):Int)/\(sliceBounds lo hi none n).2.1=((HT.sIx n n hi:Nat):Int)/\(sliceBounds lo hi none n).2.2=1:=by
 refine⟨?_,?_,rfl⟩
 ·cases lo with
  | none=>simp[sliceBounds,HT.sIx]
  | some i=>
   simp only[sliceBounds,HT.sIx,Option.getD_none,show(1:Int) > 0 by decide,if_true]
   by_cases h:i<0
   ·simp only[h,if_true] <;> lia
   ·simp only[h,if_false] <;> lia
 ·cases hi with
  | none=>simp[sliceBounds,HT.sIx]
  | some i=>
   simp only[sliceBounds,HT.sIx,Option.getD_none,show(1:Int) > 0 by decide,if_true]
   by_cases h:i<0
   ·simp only[h,if_true] <;> lia
   ·simp only[h,if_false] <;> lia
theorem c1r(its:List Value)(lo hi:Option Int):slicePick its.toArray lo hi none=((its.drop (HT.sIx its.length 0 lo)).take (HT.sIx its.length its.length hi-HT.sIx its.length 0 lo)).toArray:=by
 obtain⟨h1,h2,h3⟩:=c4y lo hi its.toArray.size;unfold slicePick;rw[h1,h2,h3];simp only[sliceRange_one,pick_run,List.size_toArray] <;> rfl
def e8m(K:Frag):V->Option Int->Option Int->Hp->VK->Prop:=λx lo hi H Q=>∃a xs,x=.ref a/\SqL K H a xs/\∀p,H p=none->Q (.ref p) (upd H p (.lst (d3j xs lo hi)))
theorem e0r:SlR X (e8m X.K):=by
 intro qa s σ H x v vl vu lo hi sl Q I rx hs pl pu h;obtain⟨a,xs,rfl,hx,q⟩:=h;cases rx;obtain⟨its,r,ht,hz⟩:=I.list hx;have hlen:=r.length;refine⟨"list",_,slot_list_getitem.lookup,ht.isList.typeIs,?_⟩;refine wpAny_getItem_list_slice ht.isList hs pl pu .none (by simp) ?_ (by rw[List.size_toArray] <;> lia)
 rw[c1r,<- hlen];refine⟨.ref s.heap.objs.size,_,I.laid (t':=s.toks) (o:=.lst (d3j xs lo hi)) (λb ob q=>Heap.get?_push_of_some _ q) (Nat.le_refl _) ?_,rfl,q _ (I.hok.fresh (Nat.le_refl _))⟩;exact⟨Nat.le_trans (c9u xs lo hi) hz,_,0,(r.drop (HT.sIx xs.length 0 lo)).take (HT.sIx xs.length xs.length hi-HT.sIx xs.length 0 lo),Heap.get?_push_size _ rfl⟩
def a5p:V->Bool
 | .non=>true
 | .bl _=>true
 | .int _=>true
 | .str _=>true
 | _=>false
def eqV:V->V->Bool
 | .non,.non=>true
 | .bl a,.bl b=>a == b
 | .bl a,.int b=>(if a then 1 else 0) == b
 | .int a,.bl b=>a == (if b then 1 else 0)
 | .int a,.int b=>a == b
 | .str a,.str b=>a == b
 | _,_=>false
theorem d9u{A:Around}{s:Shared}{y x:V}{u v:Value}(ry:RelV y u)(rx:RelV x v)(fy:a5p y=true)(fx:a5p x=true):SeqAt.EqAt A s u v (eqV y x):=by
 cases y with
 | non=>
  cases ry;cases x with
  | non=>cases rx;exact SeqAt.EqAt.same _
  | bl b=>cases rx;exact SeqAt.EqAt.none_bool b
  | int b=>obtain⟨t,rfl⟩:=rx;exact SeqAt.EqAt.none_int b t
  | str b=>obtain⟨t,rfl⟩:=rx;exact SeqAt.EqAt.none_str b t
  | _=>exact absurd (show false=true from fx) Bool.false_ne_true
 | bl a=>
  cases ry;cases x with
  | non=>cases rx;exact SeqAt.EqAt.bool_none a
  | bl b=>cases rx;exact SeqAt.EqAt.bool_bool a b
  | int b=>obtain⟨t,rfl⟩:=rx;exact SeqAt.EqAt.bool_int a b t
  | str b=>obtain⟨t,rfl⟩:=rx;exact SeqAt.EqAt.bool_str a b t
  | _=>exact absurd (show false=true from fx) Bool.false_ne_true
 | int a=>
  obtain⟨t',rfl⟩:=ry;cases x with
  | non=>cases rx;exact SeqAt.EqAt.int_none a t'
  | bl b=>cases rx;exact SeqAt.EqAt.int_bool a t' b
  | int b=>obtain⟨t,rfl⟩:=rx;exact SeqAt.EqAt.int_int a t' b t
  | str b=>obtain⟨t,rfl⟩:=rx;exact SeqAt.EqAt.int_str a t' b t
  | _=>exact absurd (show false=true from fx) Bool.false_ne_true
 | str a=>
  obtain⟨t',rfl⟩:=ry;cases x with
  | non=>cases rx;exact SeqAt.EqAt.str_none a t'
  | bl b=>cases rx;exact SeqAt.EqAt.str_bool a t' b
  | int b=>obtain⟨t,rfl⟩:=rx;exact SeqAt.EqAt.str_int a t' b t
  | str b=>obtain⟨t,rfl⟩:=rx;exact SeqAt.EqAt.str_str a t' b t
  | _=>exact absurd (show false=true from fx) Bool.false_ne_true
 | _=>exact absurd (show false=true from fy) Bool.false_ne_true
def eqU(x:V)(u:Value):Bool:=match u with
 | .none=>eqV .non x
 | .bool b=>eqV (.bl b) x
 | .int i _=>eqV (.int i) x
 | .str z _=>eqV (.str z) x
 | _=>false
theorem d1l{x y:V}{u:Value}(r:RelV y u)(f:a5p y=true):eqU x u=eqV y x:=by
 cases y with
 | non=>cases r;rfl
 | bl b=>cases r;rfl
 | int i=>obtain⟨t,rfl⟩:=r;rfl
 | str z=>obtain⟨t,rfl⟩:=r;rfl
 | _=>exact absurd (show false=true from f) Bool.false_ne_true
theorem b9v{x:V}:∀{xs:List V}{us:List Value},Vals xs us->xs.all a5p=true->us.any (eqU x)=xs.any λy=>eqV y x
 | _,_,.nil,_=>rfl
 | y::xs,u::us,.cons r t,f=>by
  rw[List.all_cons,Bool.and_eq_true] at f;rw[List.any_cons,List.any_cons,d1l r f.1,b9v t f.2]
theorem b0k{A:Around}{s:Shared}{x:V}{v:Value}(rx:RelV x v)(fx:a5p x=true):∀{xs:List V}{us:List Value},Vals xs us->xs.all a5p=true->∀u∈us,SeqAt.EqAt A s u v (eqU x u)
 | _,_,.nil,_=>λu hu=>by cases hu
 | y::xs,u::us,.cons r t,f=>λu' hu=>by
  rw[List.all_cons,Bool.and_eq_true] at f;rcases List.mem_cons.mp hu with rfl|hu
  ·rw[d1l r f.1];exact d9u r rx f.1 fx
  ·exact b0k rx fx t f.2 u' hu
def inV(x:V)(xs:List V):Bool:=xs.any λy=>eqV y x
def rIn(K:Frag)(neg:Bool):R2:=λx y H Q=>∃p xs,y=.ref p/\(SqL K H p xs\/SqT K H p xs)/\a5p x=true/\xs.all a5p=true/\Q (.bl (if neg then !inV x xs else inV x xs)) H
theorem d4t:OpR X (compareOp .In) (rIn X.K false):=by
 intro qa s σ H x y v u Q I rx ry h;obtain⟨p,xs,rfl,hq,fx,fs,q⟩:=h;cases ry;rcases hq with hq|hq
 ·obtain⟨its,r,pl,hz⟩:=I.list hq
  refine SeqAt.in_listAt (eqU x) pl.isList (λw hw=>b0k rx fx r fs w (by simpa using hw)) ⟨.bl _,H,I,rfl,?_⟩
  rw[show its.toArray.any (eqU x)=its.any (eqU x) by simp,b9v r fs]
  exact q
 ·obtain⟨its,r,pl,hz⟩:=I.tuple hq
  refine SeqAt.in_tupleAt (eqU x) pl (λw hw=>b0k rx fx r fs w (by simpa using hw)) ⟨.bl _,H,I,rfl,?_⟩
  rw[show its.toArray.any (eqU x)=its.any (eqU x) by simp,b9v r fs]
  exact q
theorem c5z:OpR X (compareOp .NotIn) (rIn X.K true):=by
 intro qa s σ H x y v u Q I rx ry h;obtain⟨p,xs,rfl,hq,fx,fs,q⟩:=h;cases ry;rcases hq with hq|hq
 ·obtain⟨its,r,pl,hz⟩:=I.list hq
  refine SeqAt.notIn_listAt (eqU x) pl.isList (λw hw=>b0k rx fx r fs w (by simpa using hw)) ⟨.bl _,H,I,rfl,?_⟩
  rw[show its.toArray.any (eqU x)=its.any (eqU x) by simp,b9v r fs]
  exact q
 ·obtain⟨its,r,pl,hz⟩:=I.tuple hq
  refine SeqAt.notIn_tupleAt (eqU x) pl (λw hw=>b0k rx fx r fs w (by simpa using hw)) ⟨.bl _,H,I,rfl,?_⟩
  rw[show its.toArray.any (eqU x)=its.any (eqU x) by simp,b9v r fs]
  exact q
theorem c7u:a5q X (.builtin "len") (λxs H Q=>∃p ys,xs=[.ref p]/\(SqL X.K H p ys\/SqT X.K H p ys)/\Q (.int ys.length) H):=by
 intro qa s σ H xs us Q I r h;obtain⟨p,ys,rfl,hq,q⟩:=h;obtain⟨u,rfl,rx⟩:=e0b r;cases rx;have hn:=d1a;rcases hq with hq|hq
 ·obtain⟨its,r',pl,hz⟩:=I.list hq
  have hlen:=r'.length;exact Calls.call_len_list pl.isList (by simp only[List.size_toArray] <;> lia) ⟨.int ys.length,H,I.tok _,⟨s.toks+1,by rw[List.size_toArray,hlen]⟩,q⟩
 ·obtain⟨its,r',pl,hz⟩:=I.tuple hq
  have hlen:=r'.length;exact len_tuple pl (by simp only[List.size_toArray] <;> lia) ⟨.int ys.length,H,I.tok _,⟨s.toks+1,by rw[List.size_toArray,hlen]⟩,q⟩
theorem c7t:a5q X (.type "list") (λxs H Q=>∃p ys,xs=[.ref p]/\(SqL X.K H p ys\/SqT X.K H p ys)/\∀l,H l=none->Q (.ref l) (upd H l (.lst ys))):=by
 intro qa s σ H xs us Q I r h;obtain⟨p,ys,rfl,hq,q⟩:=h;obtain⟨u,rfl,rx⟩:=e0b r;cases rx;have fin:∀(its:List Value),Vals ys its->ys.length<=sizeLine->∀(h':Heap)(c':Nat),(∀b o',s.heap.get? b=some o'->h'.get? b=some o') ->
   h'.get? s.heap.objs.size=some { cls:=.type "list",dict:=none,data:=.seq its.toArray c',slots:=#[] }->EP X qa σ Q (.ref s.heap.objs.size) { s with heap:=h' }:=λits r' hz h' c' kp e=>
  ⟨.ref s.heap.objs.size,_,I.laid (t':=s.toks) kp (Nat.le_refl _) (show ObjOk X.prog X.w _ h' _ (.lst ys) from⟨hz,its,c',r',e⟩),rfl,q _ (I.hok.fresh (Nat.le_refl _))⟩
 rcases hq with hq|hq
 ·obtain⟨its,r',pl,hz⟩:=I.list hq
  have hlen:=r'.length;obtain⟨o,ho,hc,n,hd⟩:=pl.isList;exact call_list_seq p (.inl rfl) ho hc hd (λh' c' kp e=>fin its r' hz h' c' kp e) (by simp only[List.size_toArray] <;> lia)
 ·obtain⟨its,r',pl,hz⟩:=I.tuple hq
  have hlen:=r'.length;obtain⟨o,ho,hc,n,hd⟩:=pl;exact call_list_seq p (.inr rfl) ho hc hd (λh' c' kp e=>fin its r' hz h' c' kp e) (by simp only[List.size_toArray] <;> lia)
theorem c4p:a5q X (.type "tuple") (λxs H Q=>∃p ys,xs=[.ref p]/\((SqL X.K H p ys/\∀l,H l=none->Q (.ref l) (upd H l (.tup ys)))\/(SqT X.K H p ys/\Q (.ref p) H))):=by
 intro qa s σ H xs us Q I r h;obtain⟨p,ys,rfl,h⟩:=h;obtain⟨u,rfl,rx⟩:=e0b r;cases rx;rcases h with ⟨hq,q⟩|⟨hq,q⟩
 ·obtain⟨its,r',pl,hz⟩:=I.list hq
  have hlen:=r'.length;refine call_tuple_list pl.isList (λh' kp=>?_) (by simp only[List.size_toArray] <;> lia)
  have I1:Inv X qa σ H { s with heap:=h' }:=I.kept (t':=s.toks) kp
  have I2:Inv X qa σ (upd H h'.objs.size (.tup ys)) { s with heap:=h'.push { cls:=.type "tuple",data:=.seq its.toArray } } :=
   I1.laid (t':=s.toks) (λb o e=>Heap.get?_push_of_some _ e) (Nat.le_refl _) (show ObjOk X.prog X.w _ _ _ (.tup ys) from⟨hz,its,r',IsTup.new _ _⟩)
  exact⟨.ref h'.objs.size,_,I2,rfl,q _ (I1.hok.fresh (Nat.le_refl _))⟩
 ·obtain⟨its,r',pl,hz⟩:=I.tuple hq
  exact call_tuple_same pl ⟨.ref p,H,I,rfl,q⟩
def tyV(K:Frag)(T:String)(x:V)(H:Hp):Prop:=match x with
 | .str _=>T="str"
 | .int _=>T="int"
 | .ref p=>(T="list"/\∃xs,SqL K H p xs)\/(T="tuple"/\∃o,K.lookup p=some o/\o.cls=.type "tuple"/\o.dict=none) \/
   (T="dict"/\((∃kvs,H p=some (.dK kvs)) \/ ∃kvs,H p=some (.dT kvs)))\/(T="set"/\∃S n,H p=some (.set S n))
 | _=>False
theorem d9h{qa:List (Addr×Obj)}{σ:St}{H:Hp}{s:Shared}{T:String}{x:V}{v:Value}(I:Inv X qa σ H s)(r:RelV x v)(ty:tyV X.K T x H):
  s.TypeIs v T/\∀a,v=.ref a->∃ob,s.heap.get? a=some ob/\ob.dict=none:=by
 cases x with
 | str z=>
  obtain⟨t,rfl⟩:=r;cases (show T="str" from ty);exact⟨typeIs_str s z t,λ_ e=>nomatch e⟩
 | int i=>
  obtain⟨t,rfl⟩:=r;cases (show T="int" from ty);exact⟨typeIs_int s i t,λ_ e=>nomatch e⟩
 | ref p=>
  cases r;rcases ty with ⟨rfl,xs,hq⟩|⟨rfl,o,hk,hc,hd⟩|⟨rfl,hk⟩|⟨rfl,S,n,hk⟩
  ·obtain⟨its,_,pl,_⟩:=I.list hq
   refine⟨pl.isList.typeIs,λa e=>?_⟩;cases e;obtain⟨o,n,e,c,hd,_⟩:=pl;exact⟨o,e,hd⟩
  ·refine⟨⟨o,I.kIn p o hk,hc⟩,λa e=>?_⟩
   cases e;exact⟨o,I.kIn _ o hk,hd⟩
  ·have z:∃o,s.heap.get? p=some o/\o.ExactDict:=by
    rcases hk with ⟨kvs,hk⟩|⟨kvs,hk⟩
    ·obtain⟨_,_,_,_,o,_,_,e,ex,_⟩:=I.hok p _ hk
     exact⟨o,e,ex⟩
    ·obtain⟨_,_,_,_,o,_,_,e,ex,_⟩:=I.hok p _ hk
     exact⟨o,e,ex⟩
   obtain⟨o,e,ex⟩:=z;refine⟨⟨o,e,ex.1⟩,λa e2=>?_⟩;cases e2;exact⟨o,e,ex.2.1⟩
  ·obtain⟨o,_,_,_,e,ex,_⟩:=I.hok p _ hk
   refine⟨⟨o,e,ex.1⟩,λa e2=>?_⟩;cases e2;exact⟨o,e,ex.2.1⟩
 | _=>exact False.elim ty
def e6o(K:Frag)(T:String)(r:V->List V->Hp->VK->Prop)(to:TE):TE:=λσ H Q=>to σ H λx H1=>tyV K T x H1/\r x [] H1 Q
def tBM(K:Frag)(T:String)(r:V->List V->Hp->VK->Prop)(to:TE)(t:TA):TE:=λσ H Q=>to σ H λx H1=>tyV K T x H1/\t σ H1 λxs H2=>r x xs H2 Q
variable{o e:Expr}{es:List Expr}{to:TE}{t:TA}{name:Str}{apos cpos:Pos}{T id:String}{r:V->List V->Hp->VK->Prop}
theorem e4c(pa:PlainAttrs T)(slot:Slot T name id)(hty:typeOf (.builtin id)=pure (.type "method_descriptor"))(hm:MtR X id r)(ho:PE X o to)(hbase:attributeBase o name X.env (eval o X.env)=eval o X.env:=by rfl)(hline:(apos.endLine == cpos.line)=true:=by rfl):PE X (.Call (.Attribute o name apos) [] [] cpos) (e6o X.K T r to):=by
 intro qa s σ H Q I h;refine wpAny_Call_method0_late hbase hline (thn (ho qa s σ H _ I h) λv s1 z0_=>?_);obtain⟨x,H1,I1,r1,ty,q1⟩:=z0_;obtain⟨h1,h2⟩:=d9h I1 r1 ty;exact⟨T,id,pa,slot,hty,h1,h2,Calls.callWith_builtin rfl (PySem.evalArgs_none (hm qa s1 σ H1 x [] v [] Q I1 r1 .nil q1))⟩
theorem e4d(pa:PlainAttrs T)(slot:Slot T name id)(hty:typeOf (.builtin id)=pure (.type "method_descriptor"))(hm:MtR X id r)(ho:PE X o to)(ha:PA X (e::es) t)(hbase:attributeBase o name X.env (eval o X.env)=eval o X.env:=by rfl)(hfew:((backTo cpos (starEach (e::es) X.env)).all (λx=>!x.1) && (backToKw cpos (keywordEach [] X.env)).all (λx=>x.1.isSome)
   && decide ((e::es).length+([]:List Keyword).length+(if ([]:List Keyword).isEmpty then 0 else 1)<30))=true:=by rfl)(hline:(apos.endLine == cpos.line)=true:=by rfl)(hs:starEach (e::es) X.env=(false,eval e X.env)::starEach es X.env:=by rfl)(hplain:(backTo cpos (starEach es X.env)).any (·.1)=false:=by rfl):
  PE X (.Call (.Attribute o name apos) (e::es) [] cpos) (tBM X.K T r to t):=by
 intro qa s σ H Q I h;refine wpAny_Call_method_late hbase hfew hline rfl (thn (ho qa s σ H _ I h) λv s1 z0_=>?_);obtain⟨x,H1,I1,r1,ty,q1⟩:=z0_;obtain⟨h1,h2⟩:=d9h I1 r1 ty;refine⟨T,id,pa,slot,hty,h1,h2,?_⟩;have hA:=ha cpos qa s1 σ H1 _ I1 q1;rw[hs] at hA ⊢;refine Calls.callWith_builtin (by show(false || (backTo cpos (starEach es X.env)).any (·.1))=false;rw[hplain] <;> rfl) (Calls.evalArgs_plain ?_)
 exact thn hA λus s2 z0_=>by obtain⟨vs,H2,I2,r2,q2⟩:=z0_;exact hm qa s2 σ H2 x vs v us Q I2 r1 r2 q2
end
def MtM(X:Cx)(id:String)(r:V->List V->Hp->VK->Prop):Prop :=
 ∀(qa:List (Addr×Obj))(s:Shared)(σ:St)(H:Hp)(x:V)(xs:List V)(v:Value)(us:List Value)(Q:VK),Inv X qa σ H s->RelV x v->Vals xs us->r x xs H Q ->
  wpAny (model X.prog X.w) X.A (call (.builtin id) (v::us)) (EP X qa σ Q) X.xe s
theorem Vals.one{x:V}{us:List Value}(h:Vals [x] us):∃u,us=[u]/\RelV x u:=by
 cases h with|cons r t=>cases t;exact⟨_,rfl,r⟩
theorem Vals.two{x y:V}{us:List Value}(h:Vals [x,y] us):∃u v,us=[u,v]/\RelV x u/\RelV y v:=by
 cases h with|cons r t=>cases t with|cons q t=>cases t;exact⟨_,_,rfl,r,q⟩
theorem Vals.zero:∀{us:List Value},Vals [] us->us=[]
 | _,.nil=>rfl
theorem Vals.rep{xs:List V}{us:List Value}(h:Vals xs us):∀k:Nat,Vals (List.replicate k xs).flatten (List.replicate k us).flatten
 | 0=>.nil
 | k+1=>by
  rw[List.replicate_succ,List.replicate_succ,List.flatten_cons,List.flatten_cons];exact Vals.append h (Vals.rep h k)
theorem c7m(its:List Value):∀(k:Nat)(acc:List Value),
  List.foldl (λx1 x2=>x1++x2) acc.toArray (List.replicate k its.toArray)=(acc++(List.replicate k its).flatten).toArray
 | 0,acc=>by simp
 | k+1,acc=>by
  have e:acc.toArray++its.toArray=(acc++its).toArray:=by simp
  have e2:(acc++its)++(List.replicate k its).flatten=acc++(List.replicate (k+1) its).flatten:=by
   rw[List.replicate_succ,List.flatten_cons,List.append_assoc]
  rw[<- e2,<- c7m its k (acc++its),<- e,List.replicate_succ,List.foldl_cons]
section
variable{X:Cx}{qa:List (Addr×Obj)}{σ:St}{H:Hp}{s:Shared}{l b:Addr}{xs ys zs:List V}
theorem Inv.lset{its its':List Value}{n:Nat}{f:Array Value->Array Value}{t':Nat}(I:Inv X qa σ H s)(hH:H l=some (.lst xs))(e:s.heap.get? l=some { cls:=.type "list",data:=.seq its.toArray n })(hf:f its.toArray=its'.toArray)(hv:Vals ys its')(hz:ys.length<=sizeLine):
  Inv X qa σ (upd H l (.lst ys)) { s with heap:=s.heap.update l (Obj.mapSeq f),toks:=t' }:=by
 have q:=PySem.IsL.update e f;rw[hf] at q;refine I.write (x:=l) (e:=l) (by rw[hH];exact trivial) (.inl rfl) (λb' u hb hu=>(Heap.get?_update_other s.heap (Obj.mapSeq f) (Ne.symm hb)).trans hu) ⟨_,q⟩ ?_
 exact⟨hz,its',_,hv,q⟩
theorem Inv.lnew{its:List Value}{t':Nat}(I:Inv X qa σ H s)(hv:Vals ys its)(hz:ys.length<=sizeLine):
  Inv X qa σ (upd H s.heap.objs.size (.lst ys)) { s with heap:=s.heap.push { cls:=.type "list",data:=.seq its.toArray },toks:=t' } :=
 I.laid (λ_ _ q=>Heap.get?_push_of_some _ q) (Nat.le_refl _) ⟨hz,its,0,hv,Heap.get?_push_size _ rfl⟩
theorem Inv.fresh(I:Inv X qa σ H s):H s.heap.objs.size=none:=I.hok.fresh (Nat.le_refl _)
theorem Inv.lstM(I:Inv X qa σ H s)(hH:H l=some (.lst xs)):xs.length<=sizeLine/\∃(its:List Value)(n:Nat),Vals xs its/\xs.length=its.length/\s.heap.get? l=some { cls:=.type "list",data:=.seq its.toArray n }:=by
 obtain⟨z,its,n,r,e⟩:=I.hok l _ hH;exact⟨z,its,n,r,r.length,e⟩
theorem d8a{n:Nat}(h:n<=sizeLine):Builtin.List.listTooLong n=false:=by
 unfold Builtin.List.listTooLong;exact decide_eq_false ↑3
end
section
variable{X:Cx}
def c2u:V->List V->Hp->VK->Prop:=λx vs H Q=>∃l xs y,x=.ref l/\vs=[y]/\H l=some (.lst xs)/\xs.length<sizeLine/\Q .non (upd H l (.lst (xs++[y])))
theorem c7d:MtM X "list.append" c2u:=by
 intro qa s σ H x vs v us Q I rx rv h;obtain⟨l,xs,y,rfl,rfl,hH,hz,q⟩:=h;cases rx;obtain⟨u,rfl,ru⟩:=rv.one;obtain⟨z,its,n,r,hl,e⟩:=I.lstM hH;refine call_meets F.slot_list_append ⟨_,e,rfl⟩ F.entry_list_append (F.args_list_append_2 _ _) (PySem.list_append l its.toArray n u (by rw[List.size_toArray];lia)) ⟨e,?_⟩
 refine⟨.non,_,I.lset (its':=its++[u]) hH e (by simp) (r.append (.cons ru .nil)) ?_,rfl,q⟩
 rw[List.length_append,List.length_singleton];lia
def d4c:V->List V->Hp->VK->Prop:=λx vs H Q=>∃l xs,x=.ref l/\vs=[]/\H l=some (.lst xs)/\Q .non (upd H l (.lst []))
theorem d8c:MtM X "list.clear" d4c:=by
 intro qa s σ H x vs v us Q I rx rv h;obtain⟨l,xs,rfl,rfl,hH,q⟩:=h;cases rx;have hus:=rv.zero;subst hus;obtain⟨z,its,n,r,hl,e⟩:=I.lstM hH;refine call_meets F.slot_list_clear ⟨_,e,rfl⟩ F.entry_list_clear (F.args_list_clear_1 _) (AutoSeq1.list_clear_list_0 l its.toArray n (by rw[List.size_toArray];lia)) ⟨e,?_⟩
 exact⟨.non,_,I.lset (its':=[]) (ys:=[]) hH e rfl .nil (Nat.zero_le _),rfl,q⟩
def e8r:R2:=λx y H Q=>∃l b xs zs,x=.ref l/\y=.ref b/\H l=some (.lst xs)/\H b=some (.lst zs)/\xs.length+zs.length<=sizeLine/\∀p,H p=none->Q (.ref p) (upd H p (.lst (xs++zs)))
theorem d0t:OpR X (binaryOp .Add) e8r:=by
 intro qa s σ H x y v u Q I rx ry h;obtain⟨l,b,xs,zs,rfl,rfl,hH,hB,hz,q⟩:=h;cases rx;cases ry;obtain⟨z,its,n,r,hl,e⟩:=I.lstM hH;obtain⟨z2,its2,n2,r2,hl2,e2⟩:=I.lstM hB;refine PySem.P.add_list e e2 ?_ (by rw[List.size_toArray,List.size_toArray];lia)
 have ea:its.toArray++its2.toArray=(its++its2).toArray:=by simp
 rw[ea];exact⟨.ref _,_,I.lnew (t':=s.toks) (r.append r2) (by rw[List.length_append];lia),rfl,q _ I.fresh⟩
def e9f:R2:=λx y H Q=>∃l k xs,x=.ref l/\y=.int k/\H l=some (.lst xs)/\-(2 ^ 63)<=k/\k<2 ^ 63/\xs.length*k.toNat<=sizeLine /\
 ∀p,H p=none->Q (.ref p) (upd H p (.lst (List.replicate k.toNat xs).flatten))
theorem c9m{α:Type}(xs:List α)(k:Nat):(List.replicate k xs).flatten.length=k*xs.length:=by
 induction k with
 | zero=>simp
 | succ k ih=>rw[List.replicate_succ,List.flatten_cons,List.length_append,ih,Nat.succ_mul,Nat.add_comm]
theorem d4r:OpR X (binaryOp .Mult) e9f:=by
 intro qa s σ H x y v u Q I rx ry h;obtain⟨l,k,xs,rfl,rfl,hH,h1,h2,hz,q⟩:=h;cases rx;obtain⟨t,rfl⟩:=ry;obtain⟨z,its,n,r,hl,e⟩:=I.lstM hH;have hlen:its.toArray.size*k.toNat<=sizeLine:=by rw[List.size_toArray,<- hl];exact hz
 have hcap:¬ its.toArray.size*k.toNat > (2 ^ 63-1) / 8:=by
  have:(sizeLine:Nat)<=(2 ^ 63-1) / 8:=by decide
  lia
 have hfit:¬ (!Builtin.List.listFitsIndex k)=true:=by
  rw[fitsIndex_both h1 h2];exact Bool.false_ne_true
 have hlong:¬ Builtin.List.listTooLong (its.toArray.size*k.toNat)=true:=by
  rw[d8a hlen];exact Bool.false_ne_true
 have hnew:List.foldl (λx1 x2=>x1++x2) #[] (List.replicate (if its.toArray.isEmpty=true then 0 else k.toNat) its.toArray)=(List.replicate k.toNat its).flatten.toArray:=by
  have f0:∀m:Nat,List.foldl (λx1 x2=>x1++x2) #[] (List.replicate m its.toArray)=(List.replicate m its).flatten.toArray:=λm=>by
   have:=c7m its m [];rw[List.nil_append] at this;exact this
  rw[f0];cases its with
  | nil=>simp
  | cons a r'=>rw[if_neg (by simp)]
 refine wpAny_binaryOp_repeat_ref (T:="list") (U:="int") ↑6 ⟨_,e,rfl⟩ (λs'=>typeIs_int s' k t) noFill_list_mul F.fills_int_mul F.slot_int_rmul repeat_list F.slot_int_index.lookup
  (call_meets F.slot_int_rmul (typeIs_int s k t) F.entry_int_rmul (F.args_int_rmul_2 _ _) (int___rmul___int_list k t l its.toArray n)
   ⟨e,rfl,⟨_,e,rfl⟩,call_meets F.slot_list_mul ⟨_,e,rfl⟩ F.entry_list_mul (F.args_list_mul_2 _ _) (AutoListH.list___mul___list_int_3 l its.toArray n k t hfit hcap hlong) ⟨e,?_⟩⟩)
 rw[hnew];exact⟨.ref _,_,I.lnew (t':=s.toks) (r.rep k.toNat) (by rw[c9m,Nat.mul_comm];exact hz),rfl,q _ I.fresh⟩
end
section
variable{prog:Program}{w:World}{A:Around}{E:Value->Shared->Prop}{s:Shared}
set_option maxRecDepth 100000 in
end
end L2
namespace Att
open PySem PySem.W PySem.Calls PyProof.Rows
theorem b9o{P:Params}{h:Heap}:∀(ns:List Int)(vs:List Value),WellAll P h vs (ns.map WData.int)->IntsAre vs ns:=by
 intro ns
 induction ns with
 | nil=>
  intro vs w;rw[List.map_nil] at w;cases w;exact .nil
 | cons n ns ih=>
  intro vs w;rw[List.map_cons] at w;cases w with
  | cons a b=>
   cases a;exact .cons _ _ (ih _ b)
theorem d3v{l:OpenLaw}{n:Nat}(hn:l.most=some n){P:Params}{h:Heap}{args:List WData}{vals:List Value}(hpre:l.row.toRowW.claim.pre args=true)(hwl:WellAll P h vals args):
  ∃a vs ns,vals=[Value.ref a]/\args=[WData.list (ns.map WData.int)]/\h.get? a=some { cls:=.type "list",data:=.seq vs.toArray }/\IntsAre vs ns/\ns.length<=n:=by
 have hsh:WShape.hasAll [] args [.list .int]=true:=(pre_splitW hpre).1;have hc:l.pre.holds [] { args:=args }=true:=(pre_splitW hpre).2;obtain⟨d,r,rfl,h1,h2⟩:=hasAllW_cons hsh;obtain rfl:=hasAllW_nil h2;obtain⟨xs,rfl,h3⟩:=hasW_list h1;obtain⟨ns,rfl⟩:=items_int h3;have hlen:ns.length<=n:=by
  unfold OpenLaw.pre at hc;have h4:(WTm.not (.lt (.lit (.int (n:Int))) (.len (.arg 0)))).holds [] { args:=[.list (ns.map .int)] }=true:=by
   have h4:=(holds_andW hc).1;rw[hn] at h4;exact h4
  have h5:=condW_of h4 (w_not (w_lt w_lit (w_len_list (w_arg rfl))));rw[List.length_map] at h5;refine Nat.le_of_not_lt λq=>?_;have q':(n:Int)<((ns.length:Nat):Int):=by lia
  first
   | (rw[decide_eq_true q'] at h5;exact absurd h5 ↑6)
   | (simp at h5;lia)
 cases hwl with
 | cons w1 w2=>
  cases w2;cases w1 with
  | list ho hall=>exact⟨_,_,ns,rfl,rfl,ho,b9o ns _ hall,hlen⟩
theorem d4g(l:OpenLaw)(args:List WData):l.row.toRowW.claim.post args (.bool true) args=true :=
 postW_of (r:=l.row.toRowW) (X:=(true == true))
  (show WShape.has [] (.bool true) .bool=true by first|rfl|decide|simp[WShape.has,WShape.arms,WShape.armsAll])
  (show(WTm.eq .res (.lit (.bool true))).value [] { args:=args,res:=some (.bool true),after:=args }=some (.bool (true == true)) from w_eq_bool (w_res rfl) w_lit) rfl
theorem attach_call{l:OpenLaw}{n:Nat}{q:Program}{loose:List Str}{XP:(Str->Option Value)->Heap->Prop}{YP:World->Heap->Prop}{d:DefRec}(hn:l.most=some n)(hdf:d.params.defaults=[])(call:∀(w:World) (s₀ s₁:Shared) (mg mb:Str->Option Value) (fa:Addr) (o:Obj) (pm cd doc:Value) (a:Addr) (vs:List Value) (ns:List Int),
   Ground q loose [] XP w s₀ mg mb s₁.heap->YP w s₁.heap ->
   s₁.heap.get? fa=some o->o.data=.func (docDef d.name d.params d.body d.scope pm cd doc)->s₁.heap.CodeRec cd d.name->mg d.name=some (.ref fa) ->
   s₁.heap.get? a=some { cls:=.type "list",data:=.seq vs.toArray }->IntsAre vs ns->ns.length<=n->s₁.gens=#[] ->
   codeAny (model l.prog w) callerA (.call (.ref fa) ⟨[.ref a],[]⟩) (λr s'=>r=.ok (.ret (.bool true))/\OldK s₁.heap s'.heap/\s'.os=s₁.os/\AllBare s'.gens) s₁):
  WalkO q loose XP YP l.row.toRowW d [] (λf vs=>PySem.call f vs):=by
 intro w s₀ s₁ mg mb G Y fa o pm cd doc dV kV ho hd hcd hD hmg hg args vals as hpre hlay hrd hwl hlo;obtain rfl:dV=.none:=Dflts.none hD hdf;obtain rfl:kV=.none:=Dflts.noKw hD;obtain⟨a,vs,ns,rfl,rfl,hobj,hints,hlen⟩:=d3v hn hpre hwl;refine enter_call (codeAny_mono (call w s₀ s₁ mg mb fa o pm cd doc a vs ns G Y ho (fd_plain hd) hcd hmg hobj hints hlen hg) λr s' hq=>?_);obtain⟨rfl,h2,h3,h4⟩:=hq;exact⟨.inl ⟨.bool true,.bool true,[],rfl,λ_=>rfl,.bool true,d4g l _,λ_=>⟨List.Pairwise.nil,λ_ hm=>(nomatch hm)⟩⟩,h2,h3,h4⟩
end Att
namespace L2
open PySem PySem.Spec PyProof.Rows
theorem b7y:∀{vs:List Value}{ns:List Int},IntsAre vs ns->Vals (ns.map V.int) vs
 | _,_,.nil=>.nil
 | _,_,.cons n t h=>.cons ⟨t,rfl⟩ (b7y h)
def e8a(H:Hp):Prop:=∀b,H b=none \/ ∃o xs,H b=some (.frz o (.lst xs))
theorem d8g{P:Program}{w:World}{K:Frag}{mg mb:Str->Option Value}{CX:CXT}{k:Nat}{fa a:Addr}{fd:FuncData}{x:Str}{sp:Sp}{s₁:Shared}{vs:List Value}{ns:List Int}(KX:K.In s₁.heap)(hns:s₁.heap.Ns mainGlobals mg)(hb:s₁.heap.Ns builtinsNs mb)(hbb:∀x:Str,x≠"__name__"->mb x=bootBuiltins x)(hlim:s₁.heap.NoLimit)(hg:s₁.gens=#[])(ha:s₁.heap.get? a=some { cls:=.type "list",data:=.seq vs.toArray })(hi:IntsAre vs ns)(hl:ns.length<=sizeLine)(hr:Room k callerA)(F:∀qb:Heap,K.In qb->qb.Ns mainGlobals mg->FnOk P w K mg qb CX k fa fd [x] sp)(hbind:∀(s:Shared) (u:Value),BindsTo s fd ⟨[u],[]⟩ [(x,u)])(hsp:∀H:Hp,e8a H->SqL K H a (ns.map V.int)->sp [.ref a] H (λv _=>v=.bl true) λ_ _ _=>False)(hCX:∀H e s',CX [] H s₁ (λ_ _ _=>False) e s'->False):
  codeAny (model P w) callerA (.call (.ref fa) ⟨[.ref a],[]⟩) (λr s'=>r=.ok (.ret (.bool true))/\OldK s₁.heap s'.heap/\s'.os=s₁.os/\AllBare s'.gens) s₁:=by
 have rv:=b7y hi;have lenV:=hi.length;have core:∀H:Hp,e8a H->SqL K H a (ns.map V.int)->HOk P w H s₁.heap->(∀b,H b≠none->b=a)->(H a≠none->K.lookup a=none) ->
   codeAny (model P w) callerA (.call (.ref fa) ⟨[.ref a],[]⟩) (λr s'=>r=.ok (.ret (.bool true))/\OldK s₁.heap s'.heap/\s'.os=s₁.os/\AllBare s'.gens) s₁:=by
  intro H hO hS hok hA hK;have base_of:∀{b:Addr}{o:Obj},s₁.heap.get? b=some o->H b=none->(d8l s₁.heap H).get? b=some o:=λe n=>d8k e n;have noA:∀{b:Addr}{o:Obj}{es:Array DictEntry}{ep:Nat},s₁.heap.get? b=some o->o.data=.dict es ep->H b=none:=λ{b o es ep} e d=>by
   cases q:H b with
   | none=>rfl
   | some u=>
    have e':b=a:=hA b (by rw[q];simp)
    subst e';rw[ha] at e;cases e;have d':Data.seq vs.toArray _=Data.dict es ep:=d;cases d'
  have nsK:∀{b:Addr}{m:Str->Option Value},s₁.heap.Ns b m->(d8l s₁.heap H).Ns b m:=λ{b m} ⟨o,es,ep,e,d,r⟩=>⟨o,es,ep,base_of e (noA e d),d,r⟩;have hKb:K.In (d8l s₁.heap H):=λb o e=>base_of (KX b o e) (by
   cases q:H b with
   | none=>rfl
   | some u=>
    have e':b=a:=hA b (by rw[q];simp)
    subst e';rw[hK (by rw[q];simp)] at e;cases e)
  have hM:Mod K mg (d8l s₁.heap H):=⟨hKb,nsK hns,⟨mb,nsK hb,hbb⟩,let ⟨mc,h1,h2⟩:=hlim;⟨mc,nsK h1,h2⟩⟩
  have e0:Env0 P w K mg (d8l s₁.heap H) callerA [] s₁ H:=⟨rfl,hM,λb o e=>e1j e,Nat.le_of_eq (d5k _ _),trivial,λb hb=>absurd (show b∈([]:List Addr) from hb) (by simp),hok,.of_eq hg⟩
  refine codeAny_mono ((F _ hKb (nsK hns)).run callerA [] s₁ H ⟨[.ref a],[]⟩ [.ref a] [.ref a] _ _ hr e0 (hbind s₁ (.ref a)) (.cons rfl .nil) (hsp H hO hS)) λr s' h=>?_;cases r with
  | error e=>exact(hCX H e s' h).elim
  | ok fl=>
   cases fl with
   | next=>exact False.elim h
   | brk=>exact False.elim h
   | cont=>exact False.elim h
   | ret u=>
    obtain⟨v,H',os,bare,un,hok',r',q⟩:=h;have q':v=.bl true:=q;subst q';obtain rfl:u=Value.bool true:=r';refine⟨rfl,OldK.of_keep λb o e=>?_,os,bare⟩;cases q:H b with
    | none=>exact un.keep b o e q (by intro z;exact absurd (show b∈([]:List Addr) from z) (by simp)) (by simp)
    | some u=>
     rcases hO b with z|⟨ob,xs,z⟩
     ·rw[q] at z;cases z
     ·have z2:=un.frzs b ob _ z
      obtain⟨e1,_⟩:=hok b _ z;obtain⟨e2,_⟩:=hok' b _ z2;rw[e] at e1;cases e1;exact e2
 cases hk:K.lookup a with
 | some o=>
  have e:=KX a o hk;rw[ha] at e;cases e;refine core (λ_=>none) (λ_=>.inl rfl) (.inr ⟨_,vs.toArray,_,hk,rfl,rfl,rfl,by rw[List.size_toArray,lenV];exact hl,by simpa using rv⟩) (λb u z=>by have z':(none:Option HO)=some u:=z;cases z') (λb z=>absurd rfl z) λz=>absurd rfl z
 | none=>
  refine core (λb=>if b=a then some (.frz { cls:=.type "list",data:=.seq vs.toArray } (.lst (ns.map V.int))) else none) (λb=>?_) (.inl (.inr ⟨{ cls:=.type "list",data:=.seq vs.toArray },if_pos rfl⟩)) (λb u z=>?_) (λb z=>?_) λ_=>hk
  ·by_cases hb:b=a
   ·exact .inr ⟨_,_,if_pos hb⟩
   ·exact .inl (if_neg hb)
  ·by_cases hb:b=a
   ·have z':=(if_pos hb).symm.trans z
    cases z';subst hb;exact⟨ha,by rw[List.length_map];exact hl,vs,_,rv,ha⟩
   ·have z':=(if_neg hb).symm.trans z
    cases z'
  ·by_cases hb:b=a
   ·exact hb
   ·exact absurd (if_neg hb) z
theorem walk_of{l:PySem.W.OpenLaw}{n k:Nat}{q:Program}{loose:List Str}{XP:(Str->Option Value)->Heap->Prop}{YP:World->Heap->Prop}{d:DefRec}{K:Params->Frag}{CX:World->CXT}{sp:World->Sp}{x:Str}(hn:l.most=some n)(hn2:n<=sizeLine)(hdf:d.params.defaults=[])(hr:Room k callerA)(hY:∀(w:World) (h:Heap),YP w h->(K w.params).In h)(F:∀(w:World) (mg:Str->Option Value) (fa:Addr) (h:Heap),(K w.params).In h->h.Ns mainGlobals mg->mg d.name=some (.ref fa) ->
   ∃fd:FuncData,(∀(s:Shared) (u:Value),BindsTo s fd ⟨[u],[]⟩ [(x,u)]) /\
    ∀qb:Heap,(K w.params).In qb->qb.Ns mainGlobals mg->FnOk l.prog w (K w.params) mg qb (CX w) k fa fd [x] (sp w))(hsp:∀(w:World) (H:Hp) (a:Addr) (ns:List Int),ns.length<=n->e8a H->SqL (K w.params) H a (ns.map V.int)->sp w [.ref a] H (λv _=>v=.bl true) λ_ _ _=>False)(hCX:∀(w:World) (H:Hp) (s:Shared) (e:Value) (s':Shared),CX w [] H s (λ_ _ _=>False) e s'->False):
  PySem.W.WalkO q loose XP YP l.row.toRowW d [] (λf vs=>PySem.call f vs):=by
 refine Att.attach_call hn hdf λw s₀ s₁ mg mb fa o pm cd doc a vs ns G Y ho hd hcd hmg hobj hints hlen hg=>?_;have KX:=hY w _ Y;obtain⟨fd,hb,hF⟩:=F w mg fa _ KX G.T.g hmg;exact d8g KX G.T.g G.T.b G.T.builtins G.T.nolimit hg hobj hints (Nat.le_trans hlen hn2) hr hF hb (λH hO hS=>hsp w H a ns hlen hO hS) λH e s'=>hCX w H s₁ e s'
def a1u(s:Stmt):Arguments:=match s with
 | .FunctionDef _ a _ _ _ _ _ _ _ _=>a
 | _=>{ posonlyargs:=[],args:=[],vararg:=none,kwonlyargs:=[],kw_defaults:=[],kwarg:=none,defaults:=[] }
def a0q(s:Stmt):List Stmt:=match s with
 | .FunctionDef _ _ b _ _ _ _ _ _ _=>b
 | _=>[]
def d8(s:Stmt):Scope:=match s with
 | .FunctionDef _ _ _ _ _ _ sc _ _ _=>sc
 | _=>{ kind:=.function,names:=[],isGenerator:=false,isCoroutine:=false }
abbrev E0:XK:=λ_ _ _=>False
structure Fun(K:Frag)(x qual:Str)(st:Stmt)(f:Addr)(fd:FuncData):Prop where
 ex:∃(oc:Value)(od:Option Addr)(kV doc pm:Value)(an:Option Addr)(cdv ct:Value)(osl:Array (Option Value)),
  fd=PySem.W.fnOf x qual (a1u st) (a0q st) (d8 st) .none kV doc pm an cdv ct/\K.lookup f=some ⟨oc,od,.func fd,osl⟩/\codeIn K cdv qual=true
 kp:keepIn K (.ref f)=true
section
variable{P:Program}{w:World}{K:Frag}{mg:Str->Option Value}{qb:Heap}
theorem Fun.binds{x qual:Str}{st:Stmt}{f:Addr}{fd:FuncData}{ps:List Str}(F:Fun K x qual st f fd)(h:∀(kV doc pm:Value) (an:Option Addr) (cdv ct:Value) (us:List Value),us.length=ps.length->bindArgs (PySem.W.fnOf x qual (a1u st) (a0q st) (d8 st) .none kV doc pm an cdv ct) ⟨us,[]⟩=pure (ps.zip us)):Binds K fd ps []:=by
 obtain⟨oc,od,kV,doc,pm,an,cdv,ct,osl,rfl,lk,hcd⟩:=F.ex;exact .all (h kV doc pm an cdv ct)
theorem d1f{x qual:Str}{st:Stmt}{f:Addr}{oc:Value}{od an:Option Addr}{osl:Array (Option Value)}{kV doc pm cdv ct:Value}(l:K.lookup f=some ⟨oc,od,.func (PySem.W.fnOf x qual (a1u st) (a0q st) (d8 st) .none kV doc pm an cdv ct),osl⟩)(c:codeIn K cdv qual=true)(k:keepIn K (.ref f)=true):Fun K x qual st f (PySem.W.fnOf x qual (a1u st) (a0q st) (d8 st) .none kV doc pm an cdv ct):=⟨⟨oc,od,kV,doc,pm,an,cdv,ct,osl,rfl,l,c⟩,k⟩
end
section
variable{X:Cx}
theorem pv(i:Nat){x:Str}{pos:Pos}(hN:X.N[i]?=some x:=by rfl)(hv:Vis X.env.scope x:=by first|exact Or.inl rfl|exact Or.inr (Or.inl rfl)|exact Or.inr (Or.inr rfl))(hd:(x == ("__debug__":Str))=false:=by decide)(hcd:(x == ("__classdict__":Str))=false:=by decide):PE X (.Name x pos) (e2z i):=d9k hN hv hd hcd
end
theorem e4p{A B:Prop}(h:B):if false=true then A else B:=by
 rw[if_neg Bool.false_ne_true];exact h
theorem e6f{A B:Prop}(h:A):if true=true then A else B:=by
 rw[if_pos rfl];exact h
theorem b3g{c A B:Prop}[Decidable c](h1:c->A)(h2:¬ c->B):if c then A else B:=by
 by_cases h:c
 ·rw[if_pos h]
  exact h1 h
 ·rw[if_neg h]
  exact h2 h
def Same(H H':Hp):Prop:=∀b o,H b=some o->H' b=some o
theorem Same.refl(H:Hp):Same H H:=λ_ _ h=>h
theorem Same.trans{H H1 H2:Hp}(a:Same H H1)(b:Same H1 H2):Same H H2:=λc o h=>b c o (a c o h)
theorem Same.free{H H':Hp}(e:Same H H'){l:Addr}(h:H' l=Option.none):H l=Option.none:=by
 cases q:H l with
 | none=>rfl
 | some o=>
  rw[e l o q] at h;cases h
theorem Same.seq{K:Frag}{H H':Hp}{a:Addr}{xs:List V}(e:Same H H')(h:SqL K H a xs):SqL K H' a xs:=by
 rcases h with (h|⟨o,h⟩)|h
 ·exact .inl (.inl (e _ _ h))
 ·exact .inl (.inr ⟨o,e _ _ h⟩)
 ·exact .inr h
theorem b9p{P:Program}{w:World}{H:Hp}{h h':Heap}(x:HOk P w H h)(k:∀b o u,H b=some o->h.get? b=some u->h'.get? b=some u):HOk P w H h' :=
 λb u e=>(x b u e).stay (λc v hc q=>by
  rcases hc with z|z
  ·subst z;exact k _ _ _ e q
  ·exact k _ _ _ z q) (λ_ q=>q) λ_ _ q=>q
structure d6t(B:Heap)(l:List Env)(H H':Hp)(h:Heap):Prop where
 tr:∀b o,H' b=some o->∃ob,B.get? b=some ob
 un:∀b o,h.get? b=some o->H b=none->b ∉ frs l->B.get? b=some o
 th:∀b o,h.get? b=some o->b ∉ frs l->∃ob,B.get? b=some ob
structure Fly(P:Program)(w:World)(l:List Env)(H H':Hp)(s s':Shared)(a:Addr)(C:Value):Prop where
 os:s'.os=s.os
 bare:AllBare s'.gens
 un:Un (frs l) [] H H' s.heap s'.heap
 hok:HOk P w H' s'.heap
 fl:∃(B:Heap)(a0:Value),Heap.FlyingW B l a C a0 s'.heap/\d6t B l H H' s.heap
def CXK(P:Program)(w:World):CXT:=λouter H s E e s'=>∃(a:Addr)(C:Value)(H':Hp),e=.ref a/\Fly P w outer H H' s s' a C/\E C none H'
theorem e6j{l:List Env}{H H':Hp}{h h' h'' B:Heap}{a:Addr}{C a0:Value}(u:Un (frs l) [] H H' h h')(fl:Heap.FlyingW B l a C a0 h')(k:d6t B l H H' h)(st:B.StaysIn h'')(up:h'.UpToSlots h''):Un (frs l) [] H H' h h'' where
 keep:=λb o q n hb _=>st b o (k.un b o q n hb)
 slot:=λb o q n hb hx=>by
  obtain⟨sl,e1⟩:=u.slot b o q n hb hx;obtain⟨_,o',ho',hd⟩:=fl.2.2.1.mem hb;rw[e1] at ho';cases ho';obtain⟨sl',e2⟩:=up b _ e1 hd;exact⟨sl',e2⟩
 free:=u.free
 there:=λb o q hx=>by
  by_cases hb:b∈frs l
  ·obtain⟨_,o',ho',hd⟩:=fl.2.2.1.mem hb
   obtain⟨sl',e2⟩:=up b _ ho' hd;exact⟨_,e2⟩
  ·obtain⟨ob,e⟩:=k.th b o q hb
   exact⟨ob,st b ob e⟩
 tups:=u.tups
 frzs:=u.frzs
 tbls:=u.tbls
theorem e4t{P:Program}{w:World}{l:List Env}{H H':Hp}{h h' h'' B:Heap}{a:Addr}{C a0:Value}(x:HOk P w H' h')(fl:Heap.FlyingW B l a C a0 h')(k:d6t B l H H' h)(st:B.StaysIn h''):HOk P w H' h'' :=
 b9p x λb o u e q=>by
  obtain⟨ob,e1⟩:=k.tr b o e;have e2:=fl.1 b ob e1;rw[q] at e2;cases e2;exact st b _ e1
section
variable{X:Cx}{qa:List (Addr×Obj)}{σ:St}{H H':Hp}{s:Shared}{h' h'' B:Heap}{a:Addr}{C a0:Value}
theorem Inv.left(I:Inv X qa σ H s)(hex:X.ex=[])(hst:X.stack=X.env::X.outer)(u:Un (frs X.stack) [] H H' s.heap h')(fl:Heap.FlyingW B X.stack a C a0 h')(k:d6t B X.stack H H' s.heap)(st:B.StaysIn h'')(up:h'.UpToSlots h''):Un X.fs [] X.H₀ H' X.s₀.heap h''/\d6t B X.outer X.H₀ H' X.s₀.heap:=by
 have u2:=e6j u fl k st up;have nx:∀b:Addr,b ∉ X.ex:=λb z=>by rw[hex] at z;cases z
 have sub:∀b o,X.s₀.heap.get? b=some o->b ∉ X.fs->b ∉ frs X.stack:=λb o e hb z=>by
  rcases List.mem_cons.mp (I.stkSub b z) with y|y
  ·exact absurd (Nat.lt_of_lt_of_le (Heap.lt_size e) I.ok.above) (by rw[y];exact Nat.lt_irrefl _)
  ·exact hb y
 have infs:∀b,b∈X.fs->b∈frs X.stack:=λb hb=>by
  rw[hst];obtain⟨env,he,hf⟩:=List.mem_filterMap.mp hb;exact List.mem_filterMap.mpr ⟨env,List.mem_cons_of_mem _ he,hf⟩
 refine⟨⟨λb o q n hb _=>?_,λb o q n hb _=>?_,λb o q n _=>?_,λb o q _=>?_,λb xs q=>u2.tups b xs (I.qb.tups b xs q),λb o xs q=>u2.frzs b o xs (I.qb.frzs b o xs q),λb ps q=>?_⟩,⟨k.tr,λb o q n hb=>?_,λb o q hb=>?_⟩⟩
 ·exact u2.keep b o (I.qb.keep b o q n hb (nx b)) (I.qb.free b o q n (nx b)) (sub b o q hb) (by simp)
 ·obtain⟨sl,e1⟩:=I.qb.slot b o q n hb (nx b)
  obtain⟨sl',e2⟩:=u2.slot b _ e1 (I.qb.free b o q n (nx b)) (infs b hb) (by simp)
  exact⟨sl',e2⟩
 ·obtain⟨o',e1⟩:=I.qb.there b o q (nx b)
  exact u2.free b o' e1 (I.qb.free b o q n (nx b)) (by simp)
 ·obtain⟨o',e1⟩:=I.qb.there b o q (nx b)
  exact u2.there b o' e1 (by simp)
 ·obtain⟨m1,e1⟩:=I.qb.tbls b ps q
  obtain⟨m2,e2⟩:=u2.tbls b _ e1;exact⟨m1++m2,by rw[e2,Array.append_assoc]⟩
 ·exact k.un b o (I.qb.keep b o q n hb (nx b)) (I.qb.free b o q n (nx b)) (sub b o q hb)
 ·obtain⟨o',e1⟩:=I.qb.there b o q (nx b)
  exact k.th b o' e1 (sub b o q hb)
end
section
variable{P:Program}{w:World}{K:Frag}{mg:Str->Option Value}{qb:Heap}{N:List Str}{qual:Str}{scope:Scope}{f:Addr}{cd:Value}{A:Around}{outer:List Env}{s₀:Shared}{H₀:Hp}{E₀:XK}
theorem i4:a3h (CXK P w) (c9t (CXK P w) P w K mg qb N qual scope f cd A outer s₀ H₀ E₀) E₀:=by
 intro qa σ H s e s' I h;obtain⟨a,C,H',rfl,F,q⟩:=h;obtain⟨B,a0,fl,k⟩:=F.fl;refine wpAny_leaves_onW (base:=B) I.ok.frames rfl fl λh'' x1 x2=>?_;obtain⟨u,k'⟩:=I.left rfl rfl F.un fl k x1.1 x2;exact⟨a,C,H',rfl,⟨F.os.trans I.os,F.bare,u,e4t F.hok fl k x1.1,⟨B,a0,x1,k'⟩⟩,q⟩
theorem a3u:PassesOwn (model (c9t (CXK P w) P w K mg qb N qual scope f cd A outer s₀ H₀ E₀).prog (c9t (CXK P w) P w K mg qb N qual scope f cd A outer s₀ H₀ E₀).w) (c9t (CXK P w) P w K mg qb N qual scope f cd A outer s₀ H₀ E₀).A (c9t (CXK P w) P w K mg qb N qual scope f cd A outer s₀ H₀ E₀).env (c9t (CXK P w) P w K mg qb N qual scope f cd A outer s₀ H₀ E₀).xe:=PassesOwn.leaving
end
abbrev e9c:List Value:=[.type "ValueError",.type "Exception",.type "BaseException",.type "object"]
def e9y(K:Frag)(C:Addr):Prop:=excIn K C e9c "ValueError.__new__" = true
def e8y(a:Addr)(C:Value):HO:=.ext λh=>∃o,h.get? a=some o/\o.cls=C
end L2
namespace L2
open PySem PySem.Spec PyProof.Rows Builtin Builtin.ObjectAttr Builtin.Getset_descriptor
structure ExK(K:Frag)(C:Addr):Prop where
 ex:e9y K C
 ga:findIn K (.ref C) "__getattribute__" = some (some (.builtin "BaseException.__getattribute__"))
 gn:findIn K (.ref C) "__getattr__" = some none
 cl:findIn K (.ref C) "__class__" = some (some (.builtin "object.__class__"))
 mb:mroIn K C (.type "BaseException")=some true
 mo:mroIn K C (.type "object")=some true
 ic:(clsIn K C).isSome=true
 sg:specialIn K (.builtin "object.__class__") "__get__" = some (some (.builtin "getset_descriptor.__get__"))
 tk:PySem.W.takesIn K (.builtin "object.__class__")=some true
section
variable{prog:Program}{w:World}{A:Around}{E:Value->Shared->Prop}{R:Result->Shared->Prop}{K:Frag}{C x:Addr}{s:Shared}
theorem e2u(X:K.In s.heap)(L0:PySem.W.Looks (model prog w) s.heap (typeOf (.ref x)) (.ref C))(hm:mroIn K C (.type "object")=some true)(h:R (.ok (.ret (.ref C))) s):
  codeAny (model prog w) A (.call (.builtin "getset_descriptor.__get__") ⟨[.builtin "object.__class__",.ref x,.ref C],[]⟩) R s:=by
 obtain⟨hh,g,dr,t,os⟩:=s;have L1:=PySem.W.looks_mroIn (M:=model prog w) X hm;have pl:=PySem.W.KF.slot_gs.plain;refine codeAny_call_builtin pl PySem.W.KF.entry_gs (PySem.W.KF.slot_gs.check _ _ _ _ _ _ _ _ PySem.W.KF.type_class (PySem.W.KF.args_gs _ _ _) ?_);unfold Builtin.«getset_descriptor.__get__» descrGet;rw[PySem.W.dga_obj];refine wpAny_bind (wpAny_pure ?_);unfold descrGetter descrCheckInstance descrNameAndClass isInstance;simp only[PySem.W.KF.owner_class]
 repeat lk
 refine⟨Code.quiet_builtin _ (by decide +kernel),codeAny_builtin PySem.W.KF.entry_class ?_⟩
 unfold Builtin.«object.__class__» shownTypeOf
 repeat lk
 exact h
theorem d9y(X:K.In s.heap)(k:ExK K C):PySem.W.Looks (model prog w) s.heap (find (.ref x) (.ref C) "__class__") (.bind (.builtin "getset_descriptor.__get__") (.builtin "object.__class__")):=by
 have L1:=PySem.W.looks_findIn (M:=model prog w) X k.cl;have L2:PySem.W.Looks (model prog w) s.heap (getOf (some (.builtin "object.__class__"))) (some (.builtin "getset_descriptor.__get__")):=PySem.W.looks_specialIn X k.sg;have L3:=PySem.W.looks_takesIn (M:=model prog w) X k.tk;refine L1.andThen (L2.andThen ?_);have L4:PySem.W.Looks (model prog w) s.heap (dataDescriptor? (some (.builtin "object.__class__")) (some (.builtin "getset_descriptor.__get__"))) (some (.builtin "getset_descriptor.__get__",.builtin "object.__class__")):=L3.andThen .now;exact L4.andThen (PySem.W.Looks.tag .now)
theorem d6y{tk:Tok}{Q:Fin->Shared->Prop}(X:K.In s.heap)(k:ExK K C)(L0:PySem.W.Looks (model prog w) s.heap (typeOf (.ref x)) (.ref C))(h:Q (.done (.ret (.ref C))) s):
  wpAny (model prog w) A (Builtin.«object.__getattribute__» ⟨[.ref x,.str "__class__" tk],[]⟩) Q E s:=by
 obtain⟨hh,g,dr,t,os⟩:=s;have L1:=d9y (prog:=prog) (w:=w) (x:=x) X k;unfold Builtin.«object.__getattribute__» slotArgs attrName
 repeat lk
 show wpAny _ _ (run (.call (.builtin "getset_descriptor.__get__") ⟨[.builtin "object.__class__",.ref x,.ref C],[]⟩) none) _ _ _;refine wpAny_run (A:=A) (e2u X L0 k.mo ?_);show wpAny _ _ (pure (Value.ref C)) _ _ _;exact wpAny_pure (wpAny_pure h)
theorem d6z{nameV:Value}{Q:Unit->Shared->Prop}(X:K.In s.heap)(k:ExK K C)(L0:PySem.W.Looks (model prog w) s.heap (typeOf (.ref x)) (.ref C))(h:Q () s):
  wpAny (model prog w) A (checkBuiltinCall "BaseException.__getattribute__" ⟨[.ref x,nameV],[]⟩) Q E s:=by
 obtain⟨hh,g,dr,t,os⟩:=s;have e1:builtinKind "BaseException.__getattribute__" = some .slot:=by decide +kernel
 have e2:splitId "BaseException.__getattribute__" = some ("BaseException","__getattribute__"):=by decide +kernel
 have L1:=PySem.W.looks_mroIn (M:=model prog w) X k.mb;have hz:=F.args_bexc_ga (.ref x) nameV;have L2:PySem.W.Looks (model prog w) hh (isInstance (.ref x) (.type "BaseException")) true:=L0.andThen L1;simp only[checkBuiltinCall,e1,e2];refine wpAny_bind (L2.at ?_)
 repeat (first|assumption|wp_step)
 all_goals exact h
theorem e6i{tk:Tok}{fill:Bool}{Q:Value->Shared->Prop}(X:K.In s.heap)(k:ExK K C)(L0:PySem.W.Looks (model prog w) s.heap (typeOf (.ref x)) (.ref C))(h:Q (.ref C) s):
  wpAny (model prog w) A (getAttrBy (.ref x) (.str "__class__" tk) fill) Q E s:=by
 obtain⟨hh,g,dr,t,os⟩:=s;have L1:=PySem.W.looks_findIn (M:=model prog w) X k.ga;have L2:=PySem.W.looks_findIn (M:=model prog w) X k.gn;have hb:=F.attr_ValueError.ga.bind (.ref x);unfold getAttrBy;refine wpAny_holding (wpAny_bind (L0.at (wpAny_bind (L1.at ?_))));dsimp only;have ne:(Value.builtin "BaseException.__getattribute__" == Value.builtin "object.__getattribute__")=false:=by decide +kernel
 have oh:onTheHeap (Value.ref C)=true:=rfl;rw[ne,Bool.and_false,if_neg Bool.false_ne_true];unfold getAttrByItsOwn hookBefore;rw[if_pos oh];refine wpAny_bind (L2.at (wpAny_bind (wpAny_attempt (wpAny_holding ?_))));unfold callGetattribute;rw[Bool.false_and,if_neg Bool.false_ne_true];unfold boundAndCalled;rw[hb];refine wpAny_bind (wpAny_pure ?_);refine wpAny_call (codeAny_call_builtin F.attr_ValueError.ga.plain F.entry_bexc_ga (d6z X k L0 (d6y X k L0 ?_)));exact wpAny_pure h
theorem d9z{Q:Option Value->Shared->Prop}(X:K.In s.heap)(k:ExK K C)(L0:PySem.W.Looks (model prog w) s.heap (typeOf (.ref x)) (.ref C))(h:Q (some (.ref C)) { s with toks:=s.toks+1 }):
  wpAny (model prog w) A (getAttr? (.ref x) "__class__") Q E s:=by
 obtain⟨hh,g,dr,t,os⟩:=s;unfold getAttr? getAttrBy?;exact wpAny_bind (wpAny_mkText (wpAny_bind (wpAny_attempt (e6i X k L0 (wpAny_pure h)))))
end
def ExAt(a C:Addr)(h:Heap):Prop:=∃o,h.get? a=some o/\o.cls=.ref C
theorem ExAt.ty{a C:Addr}{h:Heap}(M:Model)(p:ExAt a C h):PySem.W.Looks M h (typeOf (.ref a)) (.ref C):=by
 obtain⟨o,h1,h2⟩:=p;exact h2 ▸ (PySem.W.Looks.ld h1).andThen .now
theorem d8i{K:Frag}{a C:Addr}(k:ExK K C):PySem.W.KitX K (.ref a) (.ref C) (ExAt a C) where
 ty:=λM h _ p=>p.ty M
 it:=λM h X _=>by
  obtain⟨cd,hc⟩:=Option.isSome_iff_exists.mp k.ic;unfold clsIn at hc;split at hc
  case h_2=>cases hc
  case h_1 c' d' cd' sl' ho=>
   intro A' Q' E' s' kk q;unfold isType loadHead;exact wpAny_bind (wpAny_loadPart (kk _ _ (X _ _ ho)) (wpAny_pure q))
 ne:=λh tp dd its n sl X htp=>by
  obtain⟨cd,hc⟩:=Option.isSome_iff_exists.mp k.ic;cases hb:(Value.ref C == Value.ref tp) with
  | false=>rfl
  | true=>
   have e:C=tp:=Value.ref.inj (beq_iff_eq.mp hb);subst e;unfold clsIn at hc;split at hc
   case h_2=>cases hc
   case h_1 c' d' cd' sl' ho=>
    have z:=(X _ _ ho).symm.trans htp;cases z
 ca:=λX p h=>d9z X k (p.ty _) h
inductive TyX(K:Frag)(H:Hp):V->Value->Prop where
 | ty {x:V} {t:Value} (h:d3h K H x t):TyX K H x t
 | exc {a C:Addr} (e:H a=some (e8y a (.ref C))) (k:ExK K C):TyX K H (.ref a) (.ref C)
def e6g:V->Option Value
 | .ref a=>some (.ref a)
 | .ty n=>some (.type n)
 | _=>none
theorem d9e{c:V}{cv u:Value}(h:e6g c=some cv)(r:RelV c u):u=cv:=by
 cases c with
 | ref a=>cases h;exact r
 | ty n=>cases h;exact r
 | _=>cases h
section
variable{X:Cx}
theorem d9f:a5q X (.builtin "isinstance") (λxs H Q=>∃x c t cv b,xs=[x,c]/\TyX X.K H x t/\e6g c=some cv/\kitOne X.K t cv=some b/\Q (.bl b) H):=by
 intro qa s σ H xs us Q I r h;obtain⟨x,c,t,cv,b,rfl,ty,hc,hk,q⟩:=h;obtain⟨u,us',rfl,rx,r2⟩:∃u us',us=u::us'/\RelV x u/\Vals [c] us':=by cases r with|cons a b=>exact⟨_,_,rfl,a,b⟩
 obtain⟨v,rfl,rc⟩:∃v,us'=[v]/\RelV c v:=by cases r2 with|cons a b=>cases b;exact⟨_,rfl,a⟩
 have e:=d9e hc rc;subst e;cases ty with
 | ty ty=>exact d5i I rx ty hk λtk=>⟨.bl b,H,I.tok tk,rfl,q⟩
 | @exc a C ea k=>
  cases (show u=Value.ref a from rx);obtain⟨p,_⟩:=(show ObjOk X.prog X.w H s.heap a (e8y a (.ref C)) from I.hok a _ ea);exact kia_one (d8i k) I.kIn p hk (λz=>nomatch z) λtk=>⟨.bl b,H,I.tok tk,rfl,q⟩
end
end L2
namespace L2
open PySem PySem.Spec PyProof.Rows
inductive EqD(K:Frag)(H:Hp):Nat->V->V->Bool->Prop where
 | flat {n:Nat} {x y:V} (fx:a5p x=true) (fy:a5p y=true):EqD K H n x y (eqV x y)
 | lst {n:Nat} {p q:Addr} {xs ys:List V} {e:Nat->Bool} (ne:p≠q) (hp:SqL K H p xs) (hq:SqL K H q ys) (hl:xs.length=ys.length)
   (h:∀(j:Nat)(x y:V),xs[j]?=some x->ys[j]?=some y->EqD K H n x y (e j)):EqD K H (n+1) (.ref p) (.ref q) ((List.range xs.length).all e)
 | lstN {n:Nat} {p q:Addr} {xs ys:List V} (ne:p≠q) (hp:SqL K H p xs) (hq:SqL K H q ys) (hl:xs.length≠ys.length):EqD K H (n+1) (.ref p) (.ref q) false
 | tup {n:Nat} {p q:Addr} {xs ys:List V} {e:Nat->Bool} (ne:p≠q) (hp:SqT K H p xs) (hq:SqT K H q ys)
   (h:∀(j:Nat)(x y:V),xs[j]?=some x->ys[j]?=some y->EqD K H n x y (e j)):EqD K H (n+1) (.ref p) (.ref q) ((List.range (min xs.length ys.length)).all e && xs.length == ys.length)
 | self {n:Nat} {p:Addr} {xs:List V} (hp:SqT K H p xs):EqD K H n (.ref p) (.ref p) true
theorem Vals.at{xs:List V}{us:List Value}(r:Vals xs us){j:Nat}(h:j<us.toArray.size):∃x,xs[j]?=some x/\RelV x us.toArray[j]:=by
 have hl:j<xs.length:=by rw[r.length];simpa using h
 obtain⟨u,e,q⟩:=r.get (List.getElem?_eq_getElem hl);refine⟨xs[j],List.getElem?_eq_getElem hl,?_⟩;have:us.toArray[j]=u:=by
  simp only[List.getElem_toArray];have:=List.getElem?_eq_some_iff.mp e;exact this.2
 rw[this];exact q
section
variable{X:Cx}{qa:List (Addr×Obj)}{σ:St}{H:Hp}{s:Shared}
theorem d1k(I:Inv X qa σ H s){n:Nat}{x y:V}{b:Bool}(d:EqD X.K H n x y b):∀{A:Around}{u v:Value},RelV x u->RelV y v->A.units+n<cLine->SeqAt.EqAt A s u v b:=by
 induction d with
 | flat fx fy=>intro A u v rx ry hu;exact d9u rx ry fx fy
 | @lst n p q xs ys e ne hp hq hl h ih=>
  intro A u v rx ry hu;cases rx;cases ry;obtain⟨i1,r1,p1,z1⟩:=I.list hp;obtain⟨i2,r2,p2,z2⟩:=I.list hq;have e1:=r1.length;have e2:=r2.length;rw[show xs.length=i1.toArray.size by simpa using e1]
  refine SeqAt.EqAt.of_refs ne (SeqAt.RcAt.lists p1.isList p2.isList (by simp only[List.size_toArray];lia) ↑3 λj h1 h2=>?_)
  obtain⟨a,ea,ra⟩:=r1.at h1;obtain⟨c,ec,rc⟩:=r2.at h2;exact ih j a c ea ec ra rc (by show A.units+1+n<cLine;lia)
 | @lstN n p q xs ys ne hp hq hl=>
  intro A u v rx ry hu;cases rx;cases ry;obtain⟨i1,r1,p1,z1⟩:=I.list hp;obtain⟨i2,r2,p2,z2⟩:=I.list hq;have e1:=r1.length;have e2:=r2.length;exact SeqAt.EqAt.of_refs ne (SeqAt.RcAt.lists_lengths p1.isList p2.isList (by simp only[List.size_toArray,bne_iff_ne];lia) ↑3)
 | @tup n p q xs ys e ne hp hq h ih=>
  intro A u v rx ry hu;cases rx;cases ry;obtain⟨i1,r1,p1,z1⟩:=I.tuple hp;obtain⟨i2,r2,p2,z2⟩:=I.tuple hq;have e1:=r1.length;have e2:=r2.length;rw[show xs.length=i1.toArray.size by simpa using e1,show ys.length=i2.toArray.size by simpa using e2]
  refine SeqAt.EqAt.of_refs ne (SeqAt.RcAt.tuples p1 p2 ↑3 λj h1 h2=>?_);obtain⟨a,ea,ra⟩:=r1.at h1;obtain⟨c,ec,rc⟩:=r2.at h2;exact ih j a c ea ec ra rc (by show A.units+1+n<cLine;lia)
 | self hp=>
  intro A u v rx ry hu;cases rx;cases ry;exact SeqAt.EqAt.same _
theorem d1r(k:Nat):((List.range (min k k)).all (λ_=>true) && k == k)=true:=by simp
theorem e4h{n:Nat}(hu:X.A.units+(n+1)<cLine):OpR X (compareOp .Eq) (λx y H Q=>∃p q b,x=.ref p/\y=.ref q/\EqD X.K H (n+1) x y b/\Q (.bl b) H):=by
 intro qa s σ H x y v u Q I rx ry h;obtain⟨p,q,b,rfl,rfl,d,hq⟩:=h;cases rx;cases ry;cases d with
 | flat fx fy=>cases fx
 | @lst _ _ _ xs ys e ne h1 h2 hl h=>
  obtain⟨i1,r1,p1,z1⟩:=I.list h1;obtain⟨i2,r2,p2,z2⟩:=I.list h2;have e1:=r1.length;have e2:=r2.length;rw[show xs.length=i1.toArray.size by simpa using e1] at hq
  refine SeqAt.RcAt.lists p1.isList p2.isList (by simp only[List.size_toArray];lia) ↑3 (λj h1 h2=>?_) _ _ _ _ ⟨.bl _,H,I,rfl,hq⟩
  obtain⟨a,ea,ra⟩:=r1.at h1;obtain⟨c,ec,rc⟩:=r2.at h2;exact d1k I (h j a c ea ec) ra rc (by show X.A.units+1+n<cLine;lia)
 | @lstN _ _ _ xs ys ne h1 h2 hl=>
  obtain⟨i1,r1,p1,z1⟩:=I.list h1;obtain⟨i2,r2,p2,z2⟩:=I.list h2;have e1:=r1.length;have e2:=r2.length;exact SeqAt.RcAt.lists_lengths p1.isList p2.isList (by simp only[List.size_toArray,bne_iff_ne];lia) ↑3 _ _ _ _ ⟨.bl _,H,I,rfl,hq⟩
 | @tup _ _ _ xs ys e ne h1 h2 h=>
  obtain⟨i1,r1,p1,z1⟩:=I.tuple h1;obtain⟨i2,r2,p2,z2⟩:=I.tuple h2;have e1:=r1.length;have e2:=r2.length;rw[show xs.length=i1.toArray.size by simpa using e1,show ys.length=i2.toArray.size by simpa using e2] at hq
  refine SeqAt.RcAt.tuples p1 p2 ↑3 (λj h1 h2=>?_) _ _ _ _ ⟨.bl _,H,I,rfl,hq⟩;obtain⟨a,ea,ra⟩:=r1.at h1;obtain⟨c,ec,rc⟩:=r2.at h2;exact d1k I (h j a c ea ec) ra rc (by show X.A.units+1+n<cLine;lia)
 | @self _ _ xs hp=>
  obtain⟨i1,r1,p1,z1⟩:=I.tuple hp;rw[<- d1r i1.toArray.size] at hq;exact SeqAt.RcAt.tuples p1 p1 ↑3 (λj h1 h2=>SeqAt.EqAt.same _) _ _ _ _ ⟨.bl _,H,I,rfl,hq⟩
theorem e4e{n:Nat}(hu:X.A.units+(n+1)<cLine):OpR X (compareOp .NotEq) (λx y H Q=>∃p q b,x=.ref p/\y=.ref q/\EqD X.K H (n+1) x y b/\Q (.bl (!b)) H):=by
 intro qa s σ H x y v u Q I rx ry h;obtain⟨p,q,b,rfl,rfl,d,hq⟩:=h;cases rx;cases ry;cases d with
 | flat fx fy=>cases fx
 | @lst _ _ _ xs ys e ne h1 h2 hl h=>
  obtain⟨i1,r1,p1,z1⟩:=I.list h1;obtain⟨i2,r2,p2,z2⟩:=I.list h2;have e1:=r1.length;have e2:=r2.length;rw[show xs.length=i1.toArray.size by simpa using e1] at hq
  refine SeqAt.RcNeAt.lists p1.isList p2.isList (by simp only[List.size_toArray];lia) ↑3 (λj h1 h2=>?_) _ _ _ _ ⟨.bl _,H,I,rfl,hq⟩
  obtain⟨a,ea,ra⟩:=r1.at h1;obtain⟨c,ec,rc⟩:=r2.at h2;exact d1k I (h j a c ea ec) ra rc (by show X.A.units+1+n<cLine;lia)
 | @lstN _ _ _ xs ys ne h1 h2 hl=>
  obtain⟨i1,r1,p1,z1⟩:=I.list h1;obtain⟨i2,r2,p2,z2⟩:=I.list h2;have e1:=r1.length;have e2:=r2.length;exact SeqAt.RcNeAt.lists_lengths p1.isList p2.isList (by simp only[List.size_toArray,bne_iff_ne];lia) ↑3 _ _ _ _ ⟨.bl _,H,I,rfl,hq⟩
 | @tup _ _ _ xs ys e ne h1 h2 h=>
  obtain⟨i1,r1,p1,z1⟩:=I.tuple h1;obtain⟨i2,r2,p2,z2⟩:=I.tuple h2;have e1:=r1.length;have e2:=r2.length;rw[show xs.length=i1.toArray.size by simpa using e1,show ys.length=i2.toArray.size by simpa using e2] at hq
  refine SeqAt.RcNeAt.tuples p1 p2 ↑3 (λj h1 h2=>?_) _ _ _ _ ⟨.bl _,H,I,rfl,hq⟩;obtain⟨a,ea,ra⟩:=r1.at h1;obtain⟨c,ec,rc⟩:=r2.at h2;exact d1k I (h j a c ea ec) ra rc (by show X.A.units+1+n<cLine;lia)
 | @self _ _ xs hp=>
  obtain⟨i1,r1,p1,z1⟩:=I.tuple hp;rw[<- d1r i1.toArray.size] at hq;exact SeqAt.RcNeAt.tuples p1 p1 ↑3 (λj h1 h2=>SeqAt.EqAt.same _) _ _ _ _ ⟨.bl _,H,I,rfl,hq⟩
end
def eqL:List V->List V->Bool
 | [],[]=>true
 | x::xs,y::ys=>eqV x y && eqL xs ys
 | _,_=>false
theorem d5y:∀{xs ys:List V},xs.length≠ys.length->eqL xs ys=false
 | [],[],h=>absurd rfl h
 | [],_::_,_=>rfl
 | _::_,[],_=>rfl
 | x::xs,y::ys,h=>by
  show(eqV x y && eqL xs ys)=false;rw[d5y (λe=>h (by simp[e])),Bool.and_false]
theorem c0e(e:Nat->Bool)(n:Nat):(List.range (n+1)).all e=(e 0 && (List.range n).all λj=>e (j+1)):=by
 rw[List.range_succ_eq_map,List.all_cons,List.all_map]
 rfl
theorem c7p:∀{xs ys:List V},xs.length=ys.length->(List.range xs.length).all (λj=>eqV (xs.getD j .non) (ys.getD j .non))=eqL xs ys
 | [],[],_=>rfl
 | [],_::_,h=>by cases h
 | _::_,[],h=>by cases h
 | x::xs,y::ys,h=>by
  have h':xs.length=ys.length:=by simpa using h
  rw[List.length_cons,c0e];have e:=c7p h';simp only[List.getD_cons_zero,List.getD_cons_succ];rw[e]
  rfl
theorem d8y{K:Frag}{H:Hp}{p q:Addr}{xs ys:List V}(ne:p≠q)(hp:SqL K H p xs)(hq:SqL K H q ys)(fx:xs.all a5p=true)(fy:ys.all a5p=true):EqD K H 1 (.ref p) (.ref q) (eqL xs ys):=by
 by_cases h:xs.length=ys.length
 ·rw[<- c7p h]
  refine EqD.lst ne hp hq h λj x y hx hy=>?_;have e1:xs.getD j .non=x:=by rw[List.getD_eq_getElem?_getD,hx];rfl
  have e2:ys.getD j .non=y:=by rw[List.getD_eq_getElem?_getD,hy];rfl
  show EqD K H 0 x y (eqV (xs.getD j .non) (ys.getD j .non));rw[e1,e2];exact EqD.flat (List.all_eq_true.mp fx x (List.mem_of_getElem? hx)) (List.all_eq_true.mp fy y (List.mem_of_getElem? hy))
 ·rw[d5y h]
  exact EqD.lstN ne hp hq h
theorem d5z:∀(ns ms:List Bool),eqL (ns.map V.bl) (ms.map V.bl)=decide (ns=ms)
 | [],[]=>by simp[eqL]
 | [],_::_=>by simp[eqL]
 | _::_,[]=>by simp[eqL]
 | n::ns,m::ms=>by
  show(eqV (.bl n) (.bl m) && eqL (ns.map V.bl) (ms.map V.bl))=_;rw[d5z ns ms];show((n == m) && decide (ns=ms))=_;by_cases h:n=m
  ·subst h;simp
  ·simp[h]
theorem d1j(ns:List Bool):(ns.map V.bl).all a5p=true:=by simp[a5p]
def a3e(X:Cx)(N:List Str)(scope:Scope)(cl:List (Str×Addr))(C:Addr)(s:Shared)(H:Hp)(ex:List Addr)(pn:List (Addr×Obj)):Cx :=
 { prog:=X.prog,w:=X.w,K:=X.K,mg:=X.mg,qb:=X.qb,A:=X.A,N:=N,s₀:=s,H₀:=H,env:=compEnvC scope cl C X.env,outer:=X.stack,stack:=X.stack,ex:=ex,fn:=λ_=>false,calm:=X.calm,pn:=pn,xe:=λ_ _=>False }
def a1h(nt:Nat)(fr:List Nat)(σ:St):St:=List.replicate nt none++fr.map λj=>(σ[j]?).join
def e0p(wi:TI)(nt:Nat)(fr:List Nat)(g:TG)(te:TE):TE:=λσ H Q=>wi σ H λJ H1=>∀D,H1 D=none->∃(n:Nat)(W:Nat->List V->Hp->Prop),W 0 [] (upd H1 D (.lst [])) /\
 ∀i acc H,W i acc H->H D=some (.lst acc)/\acc.length<sizeLine /\
  ((J.stop i H/\Q (.ref D) H)\/(i<n/\J.go i H/\∀x H',J.yld i H x H'->g x (a1h nt fr σ) H' λσ2 H2=>te σ2 H2 λy H3=>H3 D=some (.lst acc)/\W (i+1) (acc++[y]) (upd H3 D (.lst (acc++[y])))))
def b9w(nt:Nat)(g:TG):Prop:=∀(x:V)(σ:St)(H:Hp)(Q:St->Hp->Prop),g x σ H Q->g x σ H λσ2 H2=>(∀j,nt<=j->σ2[j]?=σ[j]?)/\Q σ2 H2
theorem a6p{i nt:Nat}(h:i<nt):b9w nt (c7k i):=λx σ H Q q=>⟨λj hj=>List.getElem?_set_ne ↑3,q⟩
structure CompOk(X:Cx)(N:List Str)(scope:Scope)(cl:List (Str×Addr))(nt:Nat)(fr:List Nat):Prop where
 clos:closureFor scope X.env=pure cl
 kind:scope.kind=.function
 cell:∀y∈scope.names,y.2≠.cell
 names:∀y∈scope.names,y.2=.local->scope.names.lookup y.1=some .local
 sub:∀p∈cl,X.env.cells.lookup p.1=some p.2
 has:((relabel scope X.env).names.all λy=>!(y.2 == .cell || y.2 == .free) || (cl.lookup y.1).isSome)=true
 len:N.length=nt+fr.length
 frn:∀(j i:Nat),fr[j]?=some i->∃x,N[nt+j]?=some x/\X.N[i]?=some x/\(X.env.kindOf x=some .cell\/X.env.kindOf x=some .free)/\((relabel scope X.env).names.lookup x=some .cell\/(relabel scope X.env).names.lookup x=some .free)
section
variable{X:Cx}{qa:List (Addr×Obj)}{σ:St}{H:Hp}{s:Shared}{N:List Str}{scope:Scope}{cl:List (Str×Addr)}{nt:Nat}{fr:List Nat}
theorem CompOk.cl_at(k:CompOk X N scope cl nt fr){x:Str}{c:Addr}(h:cl.lookup x=some c):X.env.cells.lookup x=some c:=k.sub (x,c) (PySem.mem_of_lookup h)
theorem CompOk.start(k:CompOk X N scope cl nt fr)(I:Inv X qa σ H s){C:Addr}{h':Heap}{t':Nat}{ex:List Addr}(hex:∀b∈ex,d6u X qa H b/\b<s.heap.objs.size)(hC:s.heap.objs.size<=C)(hn:h'.Ns C λ_=>none)(hk:∀b o,s.heap.get? b=some o->h'.get? b=some o):
  Inv (a3e X N scope cl C s H ex (X.pn++qa)) [] (a1h nt fr σ) H { s with heap:=h',toks:=t' }:=by
 have ncell:∀x c,cl.lookup x=some c->c<s.heap.objs.size:=λx c e=>by
  obtain⟨v,z⟩:=I.cell x c (k.cl_at e);exact z.lt
 refine⟨⟨I.ok.mod,?_,I.ok.glob,I.ok.blt,hC,λx y c h1 h2=>I.ok.inj x y c (k.cl_at h1) (k.cl_at h2),λx hx=>?_,λx c hf _=>(nomatch hf),I.ok.hd,I.ok.frames,.inl rfl,λb hb=>⟨?_,λx c e=>?_⟩,I.bs,?_,λb o e hb=>?_,λb hb z=>?_,I.stack,I.stkFree⟩,
  rfl,I.bare,Un.kept hk,⟨_,hn,λi x v e1 e2 e3=>?_⟩,λx c e=>?_,I.hok.fresh hC,λx c e=>I.freeC x c (k.cl_at e),λp hp=>?_,I.hok.kept hk,?_⟩
 ·show(relabel scope X.env).kind=.function
  exact k.kind
 ·have hx:(relabel scope X.env).names.lookup x=some .cell\/(relabel scope X.env).names.lookup x=some .free:=hx
  have hall:=List.all_eq_true.mp k.has;rcases hx with hx|hx
  ·have:=hall _ (PySem.mem_of_lookup hx)
   simp only[beq_self_eq_true,Bool.true_or,Bool.not_true,Bool.false_or] at this;exact Option.isSome_iff_exists.mp this
  ·have:=hall _ (PySem.mem_of_lookup hx)
   simp only[beq_self_eq_true,Bool.or_true,Bool.not_true,Bool.false_or] at this;exact Option.isSome_iff_exists.mp this
 ·exact Nat.ne_of_lt (Nat.lt_of_lt_of_le (hex b hb).2 hC)
 ·exact(hex b hb).1.2.2.2.2.1 x c (k.cl_at e)
 ·exact Nat.le_trans I.ok.bsz I.sz
 ·obtain⟨_,_,_,h4,_⟩:=(hex b hb).1
  have hs:=(I.ok.bs b o e).1;rcases h4 with z|z
  ·exact I.ok.noex b o e z
  ·exact absurd (Nat.lt_of_lt_of_le (Heap.lt_size hs) z) (Nat.lt_irrefl _)
 ·rcases List.mem_cons.mp (I.stkSub b z) with y|y
  ·exact(hex b hb).1.2.1 y
  ·exact(hex b hb).1.2.2.1 y
 ·have hi:¬ i<nt:=λhi=>by
   unfold a1h at e2;rw[List.getElem?_append_left (by simpa using hi),List.getElem?_replicate] at e2
   split at e2 <;> cases e2
  obtain⟨j,rfl⟩:∃j,i=nt+j:=⟨i-nt,by lia⟩
  unfold a1h at e2;rw[List.getElem?_append_right (by simp),List.length_replicate,Nat.add_sub_cancel_left,List.getElem?_map] at e2
  cases hj:fr[j]? with
  | none=>rw[hj] at e2;cases e2
  | some i'=>
   rw[hj] at e2;have e2:(σ[i']?).join=some v:=Option.some.inj e2;have e4:σ[i']?=some (some v):=by
    cases z:σ[i']? with
    | none=>rw[z] at e2;cases e2
    | some y=>rw[z] at e2;rw[show y=some v from e2]
   obtain⟨x',n1,n2,n3,n4⟩:=k.frn j i' hj;have e1:N[nt+j]?=some x:=e1;rw[n1] at e1;cases e1;obtain⟨m,hm,hl⟩:=I.loc;obtain⟨u,r,l⟩:=hl i' x v n2 e4 (n3.elim (λz=>.inr (.inl z)) λz=>.inr (.inr z));refine⟨u,r,.inr ⟨n4,?_⟩⟩;rcases l with ⟨z,_⟩|⟨_,c,hc,hcell⟩
   ·rcases n3 with y|y <;> (rw[z] at y;cases y)
   ·have hall:=List.all_eq_true.mp k.has
    have hs:(cl.lookup x).isSome=true:=by
     rcases n4 with y|y
     ·have:=hall _ (PySem.mem_of_lookup y)
      simpa using this
     ·have:=hall _ (PySem.mem_of_lookup y)
      simpa using this
    obtain⟨c',hc'⟩:=Option.isSome_iff_exists.mp hs;have z:=k.cl_at hc';rw[hc] at z;cases z;exact⟨c,hc',hcell.elim λo ho=>⟨o,hk _ _ ho.1,ho.2⟩⟩
 ·obtain⟨v,o,ho,hd⟩:=I.cell x c (k.cl_at e)
  exact⟨v,o,hk _ _ ho,hd⟩
 ·obtain⟨e,n,ne,nf,d⟩:=I.pin p (by have hp:p∈(X.pn++qa)++[]:=hp;rw[List.append_nil] at hp;exact hp)
  refine⟨hk _ _ e,n,Nat.ne_of_lt (Nat.lt_of_lt_of_le (Heap.lt_size e) hC),λz=>?_,d⟩;rcases List.mem_cons.mp (I.stkSub _ z) with y|y
  ·exact ne y
  ·exact nf y
 ·show(a1h nt fr σ).length=N.length
  unfold a1h;rw[List.length_append,List.length_replicate,List.length_map,k.len]
theorem Inv.blockEnd{ex:List Addr}{C:Addr}{σ':St}{H H':Hp}{s':Shared}{h'':Heap}{pn' pins':List (Addr×Obj)}(I:Inv X qa σ H s)(hex:∀b∈ex,d6u X qa H b)(J:Inv (a3e X N scope cl C s H ex pn') pins' σ' H' s')(hC:s.heap.objs.size<=C)(hs:Heap.SameBut C s'.heap h''):Inv X qa σ H' { s' with heap:=h'' }:=by
 have ne:∀b o,s.heap.get? b=some o->b≠C:=λb o e=>Nat.ne_of_lt (Nat.lt_of_lt_of_le (Heap.lt_size e) hC);refine I.call' (s':={ s' with heap:=h'' }) (ch:=ex) J.os ⟨λb o e n hb hx=>?_,λb o e n hb hx=>?_,J.qb.free,λb o e hx=>?_,J.qb.tups,J.qb.frzs,J.qb.tbls⟩ ?_ J.bare λb hb=>⟨(hex b hb).2.2.2.1,(hex b hb).2.1,(hex b hb).2.2.2.2.1,(hex b hb).2.2.2.2.2⟩
 ·exact(hs.2 b (ne b o e)).trans (J.qb.keep b o e n hb hx)
 ·obtain⟨sl,e1⟩:=J.qb.slot b o e n hb hx
  exact⟨sl,(hs.2 b (ne b o e)).trans e1⟩
 ·obtain⟨o',e1⟩:=J.qb.there b o e hx
  exact⟨o',(hs.2 b (ne b o e)).trans e1⟩
 ·exact b9p J.hok λb o u e q=>(hs.2 b (λz=>by
   have:=J.free;rw[show(a3e X N scope cl C s H ex pn').env.locals=C from rfl,<- z,e] at this;cases this)).trans q
def b8a(wi:TI)(nt:Nat)(fr:List Nat)(g:TG)(tt:TT)(te:TE):TE:=λσ H Q=>wi σ H λJ H1=>∀D,H1 D=none->∃(n:Nat)(W:Nat->List V->Hp->Prop),W 0 [] (upd H1 D (.lst [])) /\
 ∀i acc H,W i acc H->H D=some (.lst acc)/\acc.length<sizeLine /\
  ((J.stop i H/\Q (.ref D) H)\/(i<n/\J.go i H/\∀x H',J.yld i H x H'->g x (a1h nt fr σ) H' λσ2 H2=>tt σ2 H2 λc H3=>if c=true then (te σ2 H3 λy H4=>H4 D=some (.lst acc)/\W (i+1) (acc++[y]) (upd H4 D (.lst (acc++[y])))) else W (i+1) acc H3))
def PTs(X:Cx)(ifs:List Expr)(t:TT):Prop:=∀(qa:List (Addr×Obj))(s:Shared)(σ:St)(H:Hp)(Q:Bool->Hp->Prop),Inv X qa σ H s->t σ H Q->wpAny (model X.prog X.w) X.A (forIn ifs true λc r=>if r=true then do let ok <- isTrue c X.env (eval c X.env);pure (ForInStep.yield ok) else pure (ForInStep.yield r)) (TP X qa σ Q) X.xe s
theorem e0u{e:Expr}{t:TT}(h:PT X e t):PTs X [e] t:=λ_ s σ H Q I q=>wpAny_tests_one (h _ s σ H Q I q)
theorem d4d:PTs X [] (λ_ H Q=>Q true H):=λ_ s σ H Q I q=>wpAny_tests_nil ⟨H,I,q⟩
theorem c7r{elt iter tg:Expr}{ifs:List Expr}{pos pos':Pos}{wi:TI}{g:TG}{te:TE}{tt:TT}{use:Option (Value->Sem Unit)}{PQ:Value->Shared->Prop}{Q:VK}(hc:X.calm=true)(k:CompOk X N scope cl nt fr)(hi:PI X tg iter wi)(gk:b9w nt g)(hg:∀C s H ex pn',PG (a3e X N scope cl C s H ex pn') tg g)(ht:∀C s H ex pn',PTs (a3e X N scope cl C s H ex pn') ifs tt)(he:∀C s H ex pn',PE (a3e X N scope cl C s H ex pn') elt te)(hs:∀x,foldedSetIterable iter X.env x=pure x)(I:Inv X qa σ H s)(h:b8a wi nt fr g tt te σ H Q)(fin:∀{H3:Hp} {s3:Shared} {C D:Addr} {fp:List Addr} {H6:Hp} {s7:Shared},Inv X qa σ H3 s3->(∀b∈fp,d6u X qa H3 b)->s3.heap.objs.size<=C->Inv (a3e X N scope cl C s3 H3 fp (X.pn++qa)) [] (a1h nt fr σ) H6 s7->Q (.ref D) H6->compPost (model X.prog X.w) X.A X.xe use PQ (.ref D) C (.ok .next) s7):
  wpAny (model X.prog X.w) X.A (comprehension (.ListComp elt [⟨tg,iter,ifs,0⟩] scope pos) scope X.env pos' (newList []) false (eval iter X.env) use) PQ X.xe s:=by
 refine wpAny_comprehension_free rfl hs k.clos k.kind k.names (thn (hi qa s σ H _ I h) λxv s1 h1=>thn h1 λitv s2 h2=>?_);obtain⟨it,fp,tn,J,H2,rfl,I2,T,st2,f2,R2⟩:=h2;obtain⟨n,W,w0,turn⟩:=R2 _ I2.fresh;have I3:Inv X qa σ (upd H2 s2.heap.objs.size (.lst [])) { s2 with heap:=s2.heap.push { cls:=.type "list",data:=.seq ([]:List Value).toArray } }:=I2.lnew (its:=[]) (t':=s2.toks) .nil (Nat.zero_le _)
 have fp2:∀b∈fp,b<s2.heap.objs.size:=λb hb=>by
  obtain⟨o,e,_⟩:=T.obj _ _ st2 b hb;exact Heap.lt_size e
 have f3:∀b∈fp,d6u X qa (upd H2 s2.heap.objs.size (.lst [])) b:=λb hb=>⟨by rw[c7 (Nat.ne_of_lt (fp2 b hb))];exact(f2 b hb).1,(f2 b hb).2⟩
 refine wpAny_newObj_type (hd:=by show(0:Nat)<=_;exact Nat.zero_le _) ?_
 have hsz:({ s2 with heap:=s2.heap.push { cls:=.type "list",data:=.seq ([]:List Value).toArray } }:Shared).heap.objs.size=s2.heap.objs.size+1:=Heap.size_push _ _
 have kp:∀b o,s2.heap.get? b=some o->({ s2 with heap:=s2.heap.push { cls:=.type "list",data:=.seq ([]:List Value).toArray } }:Shared).heap.get? b=some o:=λb o e=>Heap.get?_push_of_some _ e
 generalize ({ s2 with heap:=s2.heap.push { cls:=.type "list",data:=.seq ([]:List Value).toArray } }:Shared)=s3 at *
 have dn:∀b∈fp,b<s3.heap.objs.size:=λb hb=>by rw[hsz];exact Nat.lt_succ_of_lt (fp2 b hb)
 refine wpAny_newFunctionEnv k.cell (by intro y hy;cases hy) (λh4 hns hsb=>?_) k.kind
 have keep4:∀b o,s3.heap.get? b=some o->h4.get? b=some o:=λb o e=>(hsb.2 b (Nat.ne_of_lt (Heap.lt_size e))).trans (Heap.get?_push_of_some _ e);have I4:=k.start I3 (C:=s3.heap.objs.size) (h':=h4) (t':=s3.toks) (ex:=fp) (λb hb=>⟨f3 b hb,dn b hb⟩) (Nat.le_refl _) hns keep4;have st4:tn 0 h4:=T.keep _ _ _ st2 λb hb o e=>keep4 b o (kp b o e);generalize hC:s3.heap.objs.size=C at I4 hns;have hC3:s3.heap.objs.size<=C:=Nat.le_of_eq hC;generalize hH:upd H2 s2.heap.objs.size (.lst [])=H3 at *;generalize s2.heap.objs.size=D at *;have stat:∀{H':Hp},(∀b∈fp,H' b=none)->∀b∈fp,d6u (a3e X N scope cl C s3 H3 fp (X.pn++qa)) [] H' b:=λ{H'} hn b hb=>by
  refine⟨hn b hb,Nat.ne_of_lt (Nat.lt_of_lt_of_le (dn b hb) hC3),λz=>?_,.inl hb,λx c e=>(f2 b hb).2.2.2.2.1 x c (k.cl_at e),λp hp=>(f2 b hb).2.2.2.2.2 p (by have hp:p∈(X.pn++qa)++[]:=hp;rw[List.append_nil] at hp;exact hp)⟩
  rcases List.mem_cons.mp (I2.stkSub b z) with y|y
  ·exact(f2 b hb).2.1 y
  ·exact(f2 b hb).2.2.1 y
 have loop:∀s5:Shared,s5={ s3 with heap:=h4,toks:=s3.toks }->codeAny (model X.prog X.w) X.A (.compLoop (.ListComp elt [⟨tg,iter,ifs,0⟩] scope pos) 0 (.ref it) (.ref D) (compEnvC scope cl C X.env)) (compPost (model X.prog X.w) X.A X.xe use PQ (.ref D) C) s5:=by
  rintro s5 rfl;refine codeAny_loop rfl (λm s'=>∃i acc H',m=n-i/\Inv (a3e X N scope cl C s3 H3 fp (X.pn++qa)) [] (a1h nt fr σ) H' s'/\tn i s'.heap/\(∀b∈fp,H' b=none)/\W i acc H') ?_ n ⟨0,[],_,rfl,I4,st4,λb hb=>(f3 b hb).1,w0⟩;rintro m s6 ⟨i,acc,H6,rfl,I6,st6,fr6,w6⟩;show wpAny _ _ ((compTurn (.ListComp elt [⟨tg,iter,ifs,0⟩] scope pos) 0 (.ref it) (.ref D) (compEnvC scope cl C X.env)).onRaise (λx=>do noteFrame x (compEnvC scope cl C X.env);theTreesLotGoes x)) _ _ s6
  refine wpAny_noted ?_;rw[compTurn_list];refine wpAny_bind (wpAny_standAt (wpAny_bind ?_));obtain⟨hD6,hz6,alt⟩:=turn i acc H6 w6;rcases alt with ⟨stop,qn⟩|⟨hin,go,step⟩
  ·refine wpAny_mono (T.done (a3e X N scope cl C s3 H3 fp (X.pn++qa)) rfl rfl rfl hc i [] s6 (a1h nt fr σ) H6 (λ_ _=>False) I6 (stat fr6) st6 stop) (λr s7 z0_=>?_) (λ_ _ z=>z.elim)
   obtain⟨hr,I7⟩:=z0_;subst hr;exact wpAny_pure (fin I3 f3 hC3 I7 qn)
  ·refine wpAny_mono (T.item (a3e X N scope cl C s3 H3 fp (X.pn++qa)) rfl rfl rfl hc i [] s6 (a1h nt fr σ) H6 (λ_ _=>False) I6 (stat fr6) st6 go) (λr s7 z0_=>?_) (λ_ _ z=>z.elim)
   obtain⟨u,hr,h7⟩:=z0_;subst hr;refine wpAny_bind (wpAny_mono h7 (λ_ s8 z0_=>?_) (λ_ _ z=>z.elim));obtain⟨x,H8,I8,r8,y8,st8,fr8⟩:=z0_;refine wpAny_bind (wpAny_mono (hg _ _ _ _ _ _ s8 _ H8 x u _ (I8.pinned (stat fr8) (T.obj _ _ st8)) r8 (gk _ _ _ _ (step x H8 y8))) (λ_ s9 z0_=>?_) (λ_ _ z=>z.elim));obtain⟨σ9,H9,I9,k9,q9⟩:=z0_;refine wpAny_bind (wpAny_mono (ht _ _ _ _ _ _ s9 σ9 H9 _ I9 q9) (λok s12 z0_=>?_) (λ_ _ z=>z.elim));obtain⟨H12,I12,q12⟩:=z0_;have weak:∀{H11:Hp}{s11:Shared},Inv (a3e X N scope cl C s3 H3 fp (X.pn++qa)) ([]++c5x fp s8.heap) σ9 H11 s11->Inv (a3e X N scope cl C s3 H3 fp (X.pn++qa)) [] (a1h nt fr σ) H11 s11/\tn (i+1) s11.heap/\∀b∈fp,H11 b=none:=λ{H11 s11} I11=>by
    refine⟨(I11.unpinned (qa:=[])).weak ?_ λj v' e=>?_,?_,λb hb=>?_⟩
    ·rw[I11.len,<- I4.len]
    ·by_cases hj:nt<=j
     ·rw[k9 j hj];exact e
     ·unfold a1h at e
      rw[List.getElem?_append_left (by rw[List.length_replicate];lia),List.getElem?_replicate] at e
      split at e <;> cases e
    ·exact T.keep _ _ _ st8 λb hb o e=>(I11.pin (b,o) (List.mem_append_right _ (List.mem_append_right _ (b0j hb e)))).1
    ·obtain⟨o,e,d⟩:=T.obj _ _ st8 b hb
     exact(I11.pin (b,o) (List.mem_append_right _ (List.mem_append_right _ (b0j hb e)))).2.1
   cases ok with
   | false=>
    rw[if_neg Bool.false_ne_true] at q12;obtain⟨z1,z2,z3⟩:=weak I12;exact wpAny_pure ⟨rfl,n-(i+1),by lia,i+1,acc,_,rfl,z1,z2,z3,q12⟩
   | true=>
    rw[if_pos rfl] at q12;refine wpAny_bind (wpAny_bind (wpAny_mono (he _ _ _ _ _ _ s12 σ9 H12 _ I12 q12) (λv s10 z0_=>?_) (λ_ _ z=>z.elim)));obtain⟨y,H10,I10,r10,hD10,q10⟩:=z0_;refine wpAny_bind (wpAny_mono (c7d (X:=a3e X N scope cl C s3 H3 fp (X.pn++qa)) _ s10 σ9 H10 (.ref D) [y] (.ref D) [v] (λv' H'=>v'=.non/\H'=upd H10 D (.lst (acc++[y]))) I10 rfl (.cons r10 .nil) ⟨_,acc,y,rfl,rfl,hD10,hz6,rfl,rfl⟩) (λv' s11 z0_=>?_) (λ_ _ z=>z.elim));obtain⟨_,H11,I11,_,_,e11⟩:=z0_;subst e11;obtain⟨z1,z2,z3⟩:=weak I11;exact wpAny_pure (wpAny_pure ⟨rfl,n-(i+1),by lia,i+1,acc++[y],_,rfl,z1,z2,z3,q10⟩)
 exact codeAny_compStart_list (loop _ rfl) (T.self _ 0 _ _ _ st4 (loop _ rfl))
theorem d0r{elt iter tg:Expr}{ifs:List Expr}{pos:Pos}{wi:TI}{g:TG}{te:TE}{tt:TT}(hc:X.calm=true)(k:CompOk X N scope cl nt fr)(hi:PI X tg iter wi)(gk:b9w nt g)(hg:∀C s H ex pn',PG (a3e X N scope cl C s H ex pn') tg g)(ht:∀C s H ex pn',PTs (a3e X N scope cl C s H ex pn') ifs tt)(he:∀C s H ex pn',PE (a3e X N scope cl C s H ex pn') elt te)(hs:∀x,foldedSetIterable iter X.env x=pure x):
  PE X (.ListComp elt [⟨tg,iter,ifs,0⟩] scope pos) (b8a wi nt fr g tt te):=by
 intro qa s σ H Q I h;rw[eval_ListComp];refine c7r hc k hi gk hg ht he hs I h λI3 f3 hC3 I7 qn=>?_;obtain⟨m7,hn7,_⟩:=id I7.loc;exact⟨m7,hn7,λh8 hs8=>⟨.ref _,_,I3.blockEnd f3 I7 hC3 hs8,rfl,qn⟩⟩
theorem b2v{elt iter tg:Expr}{pos:Pos}{wi:TI}{g:TG}{te:TE}(hc:X.calm=true)(k:CompOk X N scope cl nt fr)(hi:PI X tg iter wi)(gk:b9w nt g)(hg:∀C s H ex pn',PG (a3e X N scope cl C s H ex pn') tg g)(he:∀C s H ex pn',PE (a3e X N scope cl C s H ex pn') elt te)(hs:∀x,foldedSetIterable iter X.env x=pure x:=by intro _;rfl):
  PE X (.ListComp elt [⟨tg,iter,[],0⟩] scope pos) (e0p wi nt fr g te):=d0r hc k hi gk hg (λ_ _ _ _ _=>d4d) he hs
theorem d4m{elt iter tg ce:Expr}{pos:Pos}{wi:TI}{g:TG}{te:TE}{tt:TT}(hc:X.calm=true)(k:CompOk X N scope cl nt fr)(hi:PI X tg iter wi)(gk:b9w nt g)(hg:∀C s H ex pn',PG (a3e X N scope cl C s H ex pn') tg g)(ht:∀C s H ex pn',PT (a3e X N scope cl C s H ex pn') ce tt)(he:∀C s H ex pn',PE (a3e X N scope cl C s H ex pn') elt te)(hs:∀x,foldedSetIterable iter X.env x=pure x:=by intro _;rfl):
  PE X (.ListComp elt [⟨tg,iter,[ce],0⟩] scope pos) (b8a wi nt fr g tt te):=d0r hc k hi gk hg (λC s H ex pn'=>e0u (ht C s H ex pn')) he hs
end
structure FnT(P:Program)(w:World)(K:Frag)(mg:Str->Option Value)(qb:Heap)(x:Str)(k:Nat)(ps:List Str)(sp:Sp):Prop where
 ex:∃(f:Addr)(fd:FuncData),FnOk P w K mg qb (CXK P w) k f fd ps sp/\mg x=some (.ref f)/\keepIn K (.ref f)=true/\Binds K fd ps []
theorem Fun.okX{P:Program}{w:World}{K:Frag}{mg:Str->Option Value}{qb:Heap}{x qual:Str}{st:Stmt}{f:Addr}{fd:FuncData}{N ps:List Str}{k:Nat}{sp:Sp}(F:Fun K x qual st f fd)(S:g7 N ps (d8 st))(len:∀vs H Q E,sp vs H Q E->vs.length=ps.length)(hbody:∀(cdv:Value) (A:Around) (outer:List Env) (s:Shared) (H:Hp) (vs:List V) (Q:VK) (E:XK),Room k (A.deeper (envOfC qual (d8 st) s.heap.objs.size f cdv))->sp vs H Q E ->
   ∃t,PSs (c9t (CXK P w) P w K mg qb N qual (d8 st) f cdv A outer s H E) (a0q st) t/\t { nx:=λ_ H'=>Q .non H',rt:=Q } (start N vs) H):FnOk P w K mg qb (CXK P w) (k+1) f fd ps sp:=by
 obtain⟨oc,od,kV,doc,pm,an,cdv,ct,osl,rfl,lk,hcd⟩:=F.ex;exact e7w lk hcd S len λA outer s H vs Q E hr hsp=>hbody cdv A outer s H vs Q E hr hsp
structure DefT(K:Frag)(mg:Str->Option Value)(x:Str)(st:Stmt)(ps:List Str):Prop where
 ex:∃(f:Addr)(fd:FuncData),Fun K x x st f fd/\mg x=some (.ref f)/\Binds K fd ps []
theorem DefT.fn{P:Program}{w:World}{K:Frag}{mg:Str->Option Value}{qb:Heap}{x:Str}{st:Stmt}{N ps:List Str}{k:Nat}{sp:Sp}(D:DefT K mg x st ps)(S:g7 N ps (d8 st))(len:∀vs H Q E,sp vs H Q E->vs.length=ps.length)(hbody:∀(f:Addr) (cdv:Value) (A:Around) (outer:List Env) (s:Shared) (H:Hp) (vs:List V) (Q:VK) (E:XK),Room k (A.deeper (envOfC x (d8 st) s.heap.objs.size f cdv))->sp vs H Q E ->
   ∃t,PSs (c9t (CXK P w) P w K mg qb N x (d8 st) f cdv A outer s H E) (a0q st) t/\t { nx:=λ_ H'=>Q .non H',rt:=Q } (start N vs) H):FnT P w K mg qb x (k+1) ps sp:=by
 obtain⟨f,fd,F,hm,hb⟩:=D.ex;exact⟨f,fd,F.okX S len (hbody f),hm,F.kp,hb⟩
theorem DefT.mk'{K:Frag}{h:Heap}{mg:Str->Option Value}{x:Str}{st:Stmt}{ps:List Str}{f:Addr}{oc:Value}{od an:Option Addr}{osl:Array (Option Value)}{kV doc pm cdv ct:Value}(X:K.In h)(G:h.Ns mainGlobals mg)(a:nsIn K mainGlobals x=some (some (.ref f)))(l:K.lookup f=some ⟨oc,od,.func (PySem.W.fnOf x x (a1u st) (a0q st) (d8 st) .none kV doc pm an cdv ct),osl⟩)(c:codeIn K cdv x=true)(k:keepIn K (.ref f)=true)(hb:∀(kV doc pm:Value) (an:Option Addr) (cdv ct:Value) (us:List Value),us.length=ps.length->bindArgs (PySem.W.fnOf x x (a1u st) (a0q st) (d8 st) .none kV doc pm an cdv ct) ⟨us,[]⟩=pure (ps.zip us)):DefT K mg x st ps :=
 have F:=d1f (st:=st) (x:=x) (qual:=x) l c k
 ⟨_,_,F,mg_of X G a,F.binds hb⟩
def tFn(sp:Sp)(E:XK)(t:TA):TE:=λσ H Q=>t σ H λvs H1=>sp vs H1 Q E
section
variable{X:Cx}{k j:Nat}{ps:List Str}{sp:Sp}{E:XK}{J:St->XK}{x:Str}{p pos:Pos}{e:Expr}{es:List Expr}{t:TA}
theorem k7(G:FnT X.prog X.w X.K X.mg X.qb x k ps sp)(hr:Room j X.A)(hj:k<=j)(hg:Gl X x)(hx:a3h (CXK X.prog X.w) X E)(ha:PA X (e::es) t)(hdb:(x == ("__debug__":Str))=false:=by decide)(he:starEach (e::es) X.env=(false,eval e X.env)::starEach es X.env:=by rfl)(hpl:(backTo pos (starEach es X.env)).any (·.1)=false:=by rfl):PE X (.Call (.Name x p) (e::es) [] pos) (tFn sp E t):=by
 obtain⟨f,fd,F,hm,hk,hb⟩:=G.ex;intro qa s σ H Q I h;refine e1e F (hr.mono hj) hg hm hk hb .nil hx ha hdb he hpl qa s σ H Q I ?_;show t σ H λvs H1=>sp (vs++[]) H1 Q E;simp only[List.append_nil];exact h
theorem d2h{N:List Str}{scope:Scope}{cl:List (Str×Addr)}{C:Addr}{s:Shared}{H:Hp}{ex:List Addr}{pn':List (Addr×Obj)}:a3h (CXK X.prog X.w) (a3e X N scope cl C s H ex pn') E0:=by
 intro qa σ H' s' e s'' I h;obtain⟨_,_,_,_,_,q⟩:=h;exact q.elim
end
section
variable{X:Cx}
theorem v5{x:Str}{n:Int}{pos:Pos}(hm:∃t,X.mg x=some (.int n t))(hg:Gl X x)(hd:(x == ("__debug__":Str))=false:=by decide):PE X (.Name x pos) (tC (.int n)):=by
 obtain⟨t,h⟩:=hm;exact c8u hg h ⟨t,rfl⟩ hd
theorem d4l{x:Str}{n:String}{pos:Pos}(hm:X.mg x=none)(hv:bootBuiltins x=some (.type n))(hg:Gl X x)(hn:x≠"__name__":=by decide)(hd:(x == ("__debug__":Str))=false:=by decide):PE X (.Name x pos) (tC (.ty n)):=e1f hg hm hv rfl hn hd
theorem d4p{o e:Expr}{to:TE}{t:TA}{apos cpos:Pos}(ho:PE X o to)(ha:PA X [e] t)(hbase:attributeBase o "append" X.env (eval o X.env)=eval o X.env:=by rfl)(hfew:((backTo cpos (starEach [e] X.env)).all (λx=>!x.1) && (backToKw cpos (keywordEach [] X.env)).all (λx=>x.1.isSome) && decide ([e].length+([]:List Keyword).length+(if ([]:List Keyword).isEmpty then 0 else 1)<30))=true:=by rfl)(hline:(apos.endLine == cpos.line)=true:=by rfl)(hs:starEach [e] X.env=(false,eval e X.env)::starEach [] X.env:=by rfl)(hplain:(backTo cpos (starEach [] X.env)).any (·.1)=false:=by rfl):
  PE X (.Call (.Attribute o "append" apos) [e] [] cpos) (tBM X.K "list" c2u to t) :=
 e4d PySem.F.plainAttrs_list PySem.F.slot_list_append PySem.F.type_list_append (λqa s σ H x xs v us Q I rx rs q=>c7d qa s σ H x xs v us Q I rx rs q) ho ha hbase hfew hline hs hplain
theorem d6l(hc:X.calm=true):a5q X (.builtin "all") (λxs H Q=>∃(p:Addr)(bs:List Bool),xs=[.ref p]/\SqL X.K H p (bs.map V.bl)/\Q (.bl (bs.all id)) H):=by
 intro qa s σ H xs us Q I r h;obtain⟨p,bs,rfl,hq,q⟩:=h;obtain⟨u,rfl,rx⟩:=r.one;cases rx;obtain⟨its,ri,pl,hz⟩:=I.list hq;have hl:=pl.isList;have hlt:p<s.heap.objs.size:=by obtain⟨_,e,_⟩:=hl;exact Heap.lt_size e
 have hn:its.toArray.size=bs.length:=by have:=ri.length;simpa using this.symm
 have wl:=Walks.list (prog:=X.prog) (w:=X.w) (A:=X.A.in1) (I.ok.hd hc) s.heap.objs.size p (Nat.ne_of_lt hlt) its.toArray;refine call_all_walk (wpAny_pyIter_list hl ⟨_,_,_,_,_,_,(λi=>(bs[i]?).getD true),rfl,wl,⟨⟨_,Heap.get?_push_size _ rfl,rfl,rfl⟩,hl.push _⟩,?_,?_⟩)
 ·intro i v s' Q' E' hP hQ
  have hP:its.toArray[i]?=some v:=hP;have hP:its[i]?=some v:=by simpa using hP
  have hi:i<(bs.map V.bl).length:=by
   have:=(List.getElem?_eq_some_iff.mp hP).1;rw[ri.length];exact this
  obtain⟨u,e,q'⟩:=ri.get (List.getElem?_eq_getElem hi);rw[hP] at e;cases e;have hi':i<bs.length:=by simpa using hi
  have e2:(bs.map V.bl)[i]=V.bl bs[i]:=List.getElem_map _;rw[e2] at q';cases (show v=Value.bool bs[i] from q');simp only[List.getElem?_eq_getElem hi',Option.getD_some] at hQ;exact wpAny_truthy_bool hQ
 ·intro h' tk hk
  have e:((List.range its.toArray.size).all λi=>(bs[i]?).getD true)=bs.all id:=by rw[hn];exact LSm.range_all bs
  rw[e];exact⟨.bl _,H,I.kept (t':=tk) (LSm.kept_iter hk),rfl,q⟩
def e8d(_ j:Int):Prop:=0<j/\j.natAbs.log2<9000
theorem b4l:OpR X (binaryOp .FloorDiv) (rI e8d λi j=>.int (i / j)):=opI λi j _ _ _ _ _ hc q=>by
 have e:i / j=i.fdiv j:=(Int.fdiv_eq_ediv_of_nonneg i (Int.le_of_lt hc.1)).symm;rw[e] at q;exact floordiv_int (by have:=hc.1;lia) q (.inl (PyProof.noPylong_of_log2 hc.2))
theorem j4{K:Frag}(h:X.K=K:=by rfl):IxR X (e6t K):=h ▸ e1n
theorem b7q{K:Frag}(h:X.K=K:=by rfl):SlR X (e8m K):=h ▸ e0r
theorem d9l{K:Frag}(h:X.K=K:=by rfl):OpR X (compareOp .In) (rIn K false):=h ▸ d4t
theorem c6a{K:Frag}(h:X.K=K:=by rfl):OpR X (compareOp .NotIn) (rIn K true):=h ▸ c5z
def e8q(K:Frag)(n:Nat):R2:=λx y H Q=>∃p q b,x=.ref p/\y=.ref q/\EqD K H (n+1) x y b/\Q (.bl b) H
def e8n(K:Frag)(n:Nat):R2:=λx y H Q=>∃p q b,x=.ref p/\y=.ref q/\EqD K H (n+1) x y b/\Q (.bl (!b)) H
theorem e4g{K:Frag}{n:Nat}(hu:X.A.units+(n+1)<cLine)(h:X.K=K:=by rfl):OpR X (compareOp .Eq) (e8q K n):=h ▸ e4h hu
theorem b7c{K:Frag}{n:Nat}(hu:X.A.units+(n+1)<cLine)(h:X.K=K:=by rfl):OpR X (compareOp .NotEq) (e8n K n):=h ▸ e4e hu
def e8p(K:Frag):List V->Hp->VK->Prop:=λxs H Q=>∃x c t cv b,xs=[x,c]/\TyX K H x t/\e6g c=some cv/\kitOne K t cv=some b/\Q (.bl b) H
def e8o(K:Frag):List V->Hp->VK->Prop:=λxs H Q=>∃p ys,xs=[.ref p]/\(SqL K H p ys\/SqT K H p ys)/\Q (.int ys.length) H
def d4a(K:Frag):List V->Hp->VK->Prop:=λxs H Q=>∃p ys,xs=[.ref p]/\(SqL K H p ys\/SqT K H p ys)/\∀l,H l=none->Q (.ref l) (upd H l (.lst ys))
def e9h(K:Frag):List V->Hp->VK->Prop:=λxs H Q=>∃(p:Addr)(bs:List Bool),xs=[.ref p]/\SqL K H p (bs.map V.bl)/\Q (.bl (bs.all id)) H
theorem b9u{K:Frag}(h:X.K=K:=by rfl):a5q X (.builtin "isinstance") (e8p K):=h ▸ d9f
theorem n5{K:Frag}(h:X.K=K:=by rfl):a5q X (.builtin "len") (e8o K):=h ▸ c7u
theorem a7e{K:Frag}(h:X.K=K:=by rfl):a5q X (.type "list") (d4a K):=h ▸ c7t
theorem d6k{K:Frag}(hc:X.calm=true)(h:X.K=K:=by rfl):a5q X (.builtin "all") (e9h K):=h ▸ d6l hc
theorem a1l{K:Frag}{tg l:Expr}{tl:TE}(hl:PE X l tl)(h:X.K=K:=by rfl):PI X tg l (e1p K tl):=h ▸ e0z hl
theorem a0o{K:Frag}{o e:Expr}{to:TE}{t:TA}{apos cpos:Pos}(ho:PE X o to)(ha:PA X [e] t)(hK:X.K=K:=by rfl)(hbase:attributeBase o "append" X.env (eval o X.env)=eval o X.env:=by rfl)(hfew:((backTo cpos (starEach [e] X.env)).all (λx=>!x.1) && (backToKw cpos (keywordEach [] X.env)).all (λx=>x.1.isSome) && decide ([e].length+([]:List Keyword).length+(if ([]:List Keyword).isEmpty then 0 else 1)<30))=true:=by rfl)(hline:(apos.endLine == cpos.line)=true:=by rfl)(hs:starEach [e] X.env=(false,eval e X.env)::starEach [] X.env:=by rfl)(hplain:(backTo cpos (starEach [] X.env)).any (·.1)=false:=by rfl):
  PE X (.Call (.Attribute o "append" apos) [e] [] cpos) (tBM K "list" c2u to t):=hK ▸ d4p ho ha hbase hfew hline hs hplain
theorem b0q{N:List Str}{scope:Scope}{nt:Nat}(clos:closureFor scope X.env=pure [])(kind:scope.kind=.function)(cell:∀y∈scope.names,y.2≠.cell)(names:∀y∈scope.names,y.2=.local->scope.names.lookup y.1=some .local)(has:((relabel scope X.env).names.all λy=>!(y.2 == .cell || y.2 == .free) || (([]:List (Str×Addr)).lookup y.1).isSome)=true)(len:N.length=nt):CompOk X N scope [] nt [] :=
 ⟨clos,kind,cell,names,λp hp=>(nomatch hp),has,len,λj i h=>by simp at h⟩
end
theorem huN{k:Nat}{A:Around}(hr:Room k A)(n:Nat)(h:n<=100:=by decide):A.units+n<cLine:=by
 have:=hr.un;lia
theorem b9t{K:Frag}{a:Addr}{xs:List V}{f:V->V}{nt:Nat}{fr:List Nat}{g:TG}{te:TE}{σ:St}{H:Hp}{Q:Addr->Hp->Prop}(hs:SqL K H a xs)(hz:xs.length<sizeLine)(ha:∃o,H a=some o)(he:∀(i:Nat) (x:V) (H':Hp) (k:VK),xs[i]?=some x->Same H H'->k (f x) H'->g x (a1h nt fr σ) H' λσ2 H2=>te σ2 H2 k)(hq:∀D,H D=none->Q D (upd H D (.lst (xs.map f)))):
  ∀D,H D=none->∃(n:Nat)(W:Nat->List V->Hp->Prop),W 0 [] (upd H D (.lst []))/\∀i acc H',W i acc H'->H' D=some (.lst acc)/\acc.length<sizeLine /\
   (((Itl K a).stop i H'/\Q D H')\/(i<n/\(Itl K a).go i H'/\∀x H2,(Itl K a).yld i H' x H2->g x (a1h nt fr σ) H2 λσ2 H3=>te σ2 H3 λy H4=>H4 D=some (.lst acc)/\W (i+1) (acc++[y]) (upd H4 D (.lst (acc++[y]))))):=by
 intro D hD;have sm:∀o,Same H (upd H D o):=λo b u e=>by rw[c7 (g9 e hD)];exact e
 refine⟨xs.length,λi acc H'=>i<=xs.length/\acc=(xs.take i).map f/\H'=upd H D (.lst acc),⟨Nat.zero_le _,rfl,rfl⟩,?_⟩;rintro i acc H' ⟨hi,rfl,rfl⟩;have hl:((xs.take i).map f).length=i:=by rw[List.length_map,List.length_take];lia
 refine⟨d7,by lia,?_⟩
 by_cases h:i<xs.length
 ·refine .inr ⟨h,⟨xs,xs[i],(sm _).seq hs,List.getElem?_eq_getElem h⟩,?_⟩
  rintro x H2 ⟨rfl,hy⟩;have hx:=hy xs ((sm _).seq hs);refine he i x _ _ hx (sm _) ⟨d7,by lia,?_,by rw[d3l]⟩
  have e:xs.take (i+1)=xs.take i++[x]:=by
   rw[List.take_succ,hx];rfl
  rw[e,List.map_append]
  rfl
 ·have e:i=xs.length:=by lia
  subst e;refine .inl ⟨⟨xs,(sm _).seq hs,Nat.le_refl _⟩,?_⟩;rw[List.take_length];exact hq D hD
section
variable{X:Cx}{qa:List (Addr×Obj)}{σ:St}{H:Hp}{s:Shared}{N:List Str}{scope:Scope}{cl:List (Str×Addr)}{nt:Nat}{fr:List Nat}
theorem c8s{elt iter tg:Expr}{ifs:List Expr}{pos py spos:Pos}{y:Str}{ix:Nat}{wi:TI}{g:TG}{te:TE}{tt:TT}(hc:X.calm=true)(k:CompOk X N scope cl nt fr)(hi:PI X tg iter wi)(gk:b9w nt g)(hg:∀C s H ex pn',PG (a3e X N scope cl C s H ex pn') tg g)(ht:∀C s H ex pn',PTs (a3e X N scope cl C s H ex pn') ifs tt)(he:∀C s H ex pn',PE (a3e X N scope cl C s H ex pn') elt te)(hN:X.N.Nodup)(hi2:X.N[ix]?=some y)(hy:X.env.scope.names.lookup y=some .local)(hsw:swapsWith (.ListComp elt [⟨tg,iter,ifs,0⟩] scope pos) (some (.Name y py)) spos.line X.env=pure true)(hs:∀x,foldedSetIterable iter X.env x=pure x):
  PS X (.Assign [.Name y py] (.ListComp elt [⟨tg,iter,ifs,0⟩] scope pos) spos) (e3m (b8a wi nt fr g tt te) (c7k ix)):=by
 intro qa s σ H DD I h;rw[exec_Assign_Name_used _ _ _ _ hsw];refine wpAny_bind (wpAny_standAt (wpAny_bind ?_));show wpAny _ X.A (do let _ <- comprehension (.ListComp elt [⟨tg,iter,ifs,0⟩] scope pos) scope X.env _ (newList []) false (eval iter X.env) (some (assign (.Name y py) X.env))) _ _ s
 refine wpAny_bind (wpAny_mono (c7r (PQ:=λ_ s'=>SP X qa DD .next s') hc k hi gk hg ht he hs I h λ{H3 s3 C D fp H6 s7} I3 f3 hC3 I7 qn=>?_) (λ_ s' hq=>wpAny_pure (wpAny_pure hq)) λ_ _ e=>e);obtain⟨m7,hn7,_⟩:=id I7.loc;have I7x:Inv X qa σ H6 s7:=I3.blockEnd (h'':=s7.heap) f3 I7 hC3 (.refl ..);show wpAny _ X.A (assign (.Name y py) X.env (.ref D)) _ _ _;refine wpAny_assign_Name (c4w (v:=.ref D) I7x hN hi2 (Or.inl hy) rfl (λs8 I8 z0_=>?_) (Or.inr hy));obtain⟨a8,sb8,or8⟩:=z0_;have no:∀{a:Addr},a<s3.heap.objs.size->a≠C:=λh z=>absurd (Nat.lt_of_lt_of_le (z ▸ h) hC3) (Nat.lt_irrefl _);have ne8:C≠a8:=λz=>by
  rcases or8 with q|q
  ·exact no I3.lt (q.symm.trans z.symm)
  ·obtain⟨v8,q8⟩:=I3.cell _ _ q
   exact no q8.lt z.symm
 refine⟨m7,hn7.sameBut sb8 ne8,λh9 hs9=>⟨_,H6,?_,qn⟩⟩;refine I8.turned (it:=C) (t':=s8.toks) (λb o hb e=>(hs9.2 b hb).trans e) I7.free (Nat.ne_of_gt (Nat.lt_of_lt_of_le I3.lt hC3)) (.inr (Nat.le_trans I3.sz hC3)) (λx c e z=>?_) (λp hp z=>no (Heap.lt_size (I3.pin p hp).1) z);obtain⟨v8,q8⟩:=I3.cell x c e;exact no q8.lt z
theorem c0z{elt iter tg:Expr}{pos py spos:Pos}{y:Str}{ix:Nat}{wi:TI}{g:TG}{te:TE}(hc:X.calm=true)(k:CompOk X N scope cl nt fr)(hi:PI X tg iter wi)(gk:b9w nt g)(hg:∀C s H ex pn',PG (a3e X N scope cl C s H ex pn') tg g)(he:∀C s H ex pn',PE (a3e X N scope cl C s H ex pn') elt te)(hN:X.N.Nodup)(hi2:X.N[ix]?=some y)(hy:X.env.scope.names.lookup y=some .local)(hsw:swapsWith (.ListComp elt [⟨tg,iter,[],0⟩] scope pos) (some (.Name y py)) spos.line X.env=pure true:=by rfl)(hs:∀x,foldedSetIterable iter X.env x=pure x:=by intro _;rfl):
  PS X (.Assign [.Name y py] (.ListComp elt [⟨tg,iter,[],0⟩] scope pos) spos) (e3m (e0p wi nt fr g te) (c7k ix)):=c8s hc k hi gk hg (λ_ _ _ _ _=>d4d) he hN hi2 hy hsw hs
end
theorem b7x{X:Cx}{N:List Str}{scope:Scope}{x:Str}{c:Addr}{nt i:Nat}(clos:closureFor scope X.env=pure [(x,c)])(kind:scope.kind=.function)(cell:∀y∈scope.names,y.2≠.cell)(names:∀y∈scope.names,y.2=.local->scope.names.lookup y.1=some .local)(sub:X.env.cells.lookup x=some c)(has:((relabel scope X.env).names.all λy=>!(y.2 == .cell || y.2 == .free) || ([(x,c)].lookup y.1).isSome)=true)(len:N.length=nt+1)(hN:N[nt]?=some x)(hX:X.N[i]?=some x)(hk:X.env.kindOf x=some .cell)(hr:(relabel scope X.env).names.lookup x=some .cell):CompOk X N scope [(x,c)] nt [i] :=
 ⟨clos,kind,cell,names,λp hp=>(by
  rw[List.mem_singleton] at hp;subst hp;exact sub),has,len,λj i' h=>(by
  cases j with
  | zero=>cases h;exact⟨x,hN,hX,.inl hk,.inl hr⟩
  | succ j=>cases h)⟩
section
variable{X:Cx}
theorem c3a{K:Frag}{es:List Expr}{k:Nat}{t:TGs}{n:Nat}{pos:Pos}(hc:X.calm=true)(h:PGs X es t)(hK:X.K=K:=by rfl)(hn:(assignEach es X.env).length=n:=by rfl)(hst:(assignEach es X.env).findIdx? (·.1)=none:=by rfl):PG X (.Tuple es k pos) (e7v K n t):=hK ▸ e3z hc h hn hst
end
structure ExM(mg:Str->Option Value)(x:Str)(C:Addr):Prop where
 m:mg x=some (.ref C)
theorem d4n{X:Cx}{K:Frag}{o:Expr}{to:TE}{apos cpos:Pos}(ho:PE X o to)(hK:X.K=K:=by rfl)(hbase:attributeBase o "clear" X.env (eval o X.env)=eval o X.env:=by rfl)(hline:(apos.endLine == cpos.line)=true:=by rfl):
  PE X (.Call (.Attribute o "clear" apos) [] [] cpos) (e6o K "list" d4c to) :=
 hK ▸ e4c PySem.F.plainAttrs_list PySem.F.slot_list_clear PySem.F.type_list_clear (λqa s σ H x xs v us Q I rx rs q=>d8c qa s σ H x xs v us Q I rx rs q) ho hbase hline
end L2
namespace L2
open PySem PySem.Spec PyProof.Rows SeqAt
def e2l(s:Stmt):List Stmt:=match s with
 | .ClassDef _ _ _ b ..=>b
 | _=>[]
def m9(s:Stmt)(j:Nat):Stmt:=(e2l s).getD j (.Pass ⟨0,0,0,0⟩)
structure MethT(P:Program)(w:World)(K:Frag)(mg:Str->Option Value)(qb:Heap)(C:Addr)(m:Str)(k:Nat)(ps:List Str)(sp:Sp):Prop where
 ex:∃(f:Addr)(fd:FuncData),FnOk P w K mg qb (CXK P w) k f fd ps sp/\e5x K C m f/\Binds K fd ps []
structure DefM(K:Frag)(C:Addr)(m qual:Str)(st:Stmt)(ps:List Str):Prop where
 ex:∃(f:Addr)(fd:FuncData),Fun K m qual st f fd/\e5x K C m f/\Binds K fd ps []
theorem DefM.fn{P:Program}{w:World}{K:Frag}{mg:Str->Option Value}{qb:Heap}{C:Addr}{m qual:Str}{st:Stmt}{N ps:List Str}{k:Nat}{sp:Sp}(D:DefM K C m qual st ps)(S:g7 N ps (d8 st))(len:∀vs H Q E,sp vs H Q E->vs.length=ps.length)(hbody:∀(f:Addr) (cdv:Value) (A:Around) (outer:List Env) (s:Shared) (H:Hp) (vs:List V) (Q:VK) (E:XK),Room k (A.deeper (envOfC qual (d8 st) s.heap.objs.size f cdv))->sp vs H Q E ->
   ∃t,PSs (c9t (CXK P w) P w K mg qb N qual (d8 st) f cdv A outer s H E) (a0q st) t/\t { nx:=λ_ H'=>Q .non H',rt:=Q } (start N vs) H):MethT P w K mg qb C m (k+1) ps sp:=by
 obtain⟨f,fd,F,hm,hb⟩:=D.ex;exact⟨f,fd,F.okX S len (hbody f),hm,hb⟩
theorem DefM.mk'{K:Frag}{C:Addr}{m qual:Str}{st:Stmt}{ps:List Str}{f:Addr}{oc:Value}{od an:Option Addr}{osl:Array (Option Value)}{kV doc pm cdv ct:Value}(a:findIn K (.ref C) m=some (some (.ref f)))(i:isFn K (.ref f)=true)(l:K.lookup f=some ⟨oc,od,.func (PySem.W.fnOf m qual (a1u st) (a0q st) (d8 st) .none kV doc pm an cdv ct),osl⟩)(c:codeIn K cdv qual=true)(k:keepIn K (.ref f)=true)(hb:∀(kV doc pm:Value) (an:Option Addr) (cdv ct:Value) (us:List Value),us.length=ps.length->bindArgs (PySem.W.fnOf m qual (a1u st) (a0q st) (d8 st) .none kV doc pm an cdv ct) ⟨us,[]⟩=pure (ps.zip us)):DefM K C m qual st ps :=
 have F:=d1f (st:=st) (x:=m) (qual:=qual) l c k
 ⟨_,_,F,⟨a,i,k⟩,F.binds hb⟩
structure MakeT(P:Program)(w:World)(K:Frag)(mg:Str->Option Value)(qb:Heap)(x:Str)(C:Addr)(k:Nat)(ps:List Str)(sp:Sp):Prop where
 ex:∃(f:Addr)(fd:FuncData),FnOk P w K mg qb (CXK P w) k f fd ps sp/\Mk K C f/\mg x=some (.ref C)/\Binds K fd ps []
theorem MethT.make{P:Program}{w:World}{K:Frag}{mg:Str->Option Value}{qb:Heap}{x:Str}{C:Addr}{k:Nat}{ps:List Str}{sp:Sp}(M:MethT P w K mg qb C "__init__" k ps sp)(mk:makesIn K C=true)(kp:keepIn K (.ref C)=true)(hm:mg x=some (.ref C)):
  MakeT P w K mg qb x C k ps sp:=by
 obtain⟨f,fd,F,hM,hb⟩:=M.ex;exact⟨f,fd,F,⟨mk,hM.at_,hM.fn,kp⟩,hm,hb⟩
def tMt(C:Addr)(m:Str)(sp:Sp)(E:XK)(ta:TE)(t:TA):TE:=λσ H Q=>ta σ H λx H1=>∃a dx fs,x=.ref a/\H1 a=some (.ins C dx fs)/\fs.lookup m=none/\t σ H1 λvs H2=>sp (x::vs) H2 Q E
def tMk(C:Addr)(sp:Sp)(E:XK)(t:TA):TE:=λσ H Q=>t σ H λvs H1=>∀x dx,H1 x=none->H1 dx=none->dx≠x ->
 sp (.ref x::vs) (upd (upd H1 dx (.own x)) x (.ins C dx [])) (λv H2=>v=.non/\Q (.ref x) H2) E
section
variable{X:Cx}{k j:Nat}{C:Addr}{ps:List Str}{sp:Sp}{E:XK}{J:St->XK}{x m:Str}{p pos apos:Pos}{e o:Expr}{es:List Expr}{ta:TE}{t:TA}{pl:Sem Bool}
theorem a1f(he:PE X o ta)(c:Cls X.K C)(G:MethT X.prog X.w X.K X.mg X.qb C m k ps sp)(hr:Room j X.A)(hj:k<=j)(hx:a3h (CXK X.prog X.w) X E)(ha:PA X (e::es) t)(hst:starEach (e::es) X.env=(false,eval e X.env)::starEach es X.env:=by rfl)(hpl:(backTo pos (starEach es X.env)).any (·.1)=false:=by rfl)(ht:eval (.Call (.Attribute o m apos) (e::es) [] pos) X.env=(do
   let ov <- eval o X.env
   standAt apos.atName
   let (f,first) <- holding [ov] (getMethod ov m pl)
   callWith pos f first (backTo pos (starEach (e::es) X.env)) (backToKw pos (keywordEach [] X.env))):=by rfl):
  PE X (.Call (.Attribute o m apos) (e::es) [] pos) (tMt C m sp E ta t):=by
 obtain⟨f,fd,F,hm,hb⟩:=G.ex;intro qa s σ H Q I h;refine e1b (ds:=[]) (dvs:=[]) he c hm F (hr.mono hj) hb .nil hx ha hst hpl ht qa s σ H Q I ?_;show ta σ H λx H1=>∃a dx fs,x=.ref a/\H1 a=some (.ins C dx fs)/\fs.lookup m=none/\t σ H1 λvs H2=>sp (x::(vs++[])) H2 Q E;simp only[List.append_nil];exact h
theorem a0m(he:PE X o ta)(c:Cls X.K C)(G:MethT X.prog X.w X.K X.mg X.qb C m k ps sp)(hr:Room j X.A)(hj:k<=j)(hx:a3h (CXK X.prog X.w) X E)(ht:eval (.Call (.Attribute o m apos) [] [] pos) X.env=(do
   let ov <- eval o X.env
   standAt apos.atName
   let (f,first) <- holding [ov] (getMethod ov m pl)
   callWith pos f first (backTo pos (starEach [] X.env)) (backToKw pos (keywordEach [] X.env))):=by rfl):
  PE X (.Call (.Attribute o m apos) [] [] pos) (tMt C m sp E ta d9i):=by
 obtain⟨f,fd,F,hm,hb⟩:=G.ex;exact d7v (ds:=[]) (dvs:=[]) he c hm F (hr.mono hj) hb .nil hx ht
theorem c5y(G:MakeT X.prog X.w X.K X.mg X.qb x C k ps sp)(hr:Room j X.A)(hj:k+1<=j)(hg:Gl X x)(hx:a3h (CXK X.prog X.w) X E)(ha:PA X (e::es) t)(hdb:(x == ("__debug__":Str))=false:=by decide)(he:starEach (e::es) X.env=(false,eval e X.env)::starEach es X.env:=by rfl)(hpl:(backTo pos (starEach es X.env)).any (·.1)=false:=by rfl):PE X (.Call (.Name x p) (e::es) [] pos) (tMk C sp E t):=by
 obtain⟨f,fd,F,M,hm,hb⟩:=G.ex;intro qa s σ H Q I h;refine e1c (ds:=[]) (dvs:=[]) M F (hr.mono hj) hg hm hb .nil hx ha hdb he hpl qa s σ H Q I ?_;show t σ H λvs H1=>∀x dx,H1 x=none->H1 dx=none->dx≠x->sp (.ref x::(vs++[])) (upd (upd H1 dx (.own x)) x (.ins C dx [])) (λv H2=>v=.non/\Q (.ref x) H2) E;simp only[List.append_nil];exact h
end
section
variable{X:Cx}{o e value:Expr}{f:Str}{pos pos' tpos:Pos}{ta tv:TE}
theorem a0c{K:Frag}(he:PE X e ta)(hK:X.K=K:=by rfl)(hb:attributeBase e f X.env (eval e X.env)=eval e X.env:=by rfl):PE X (.Attribute e f pos) (e6n K ta f):=hK ▸ e4b he hb
theorem m6{K:Frag}(ha:PE X o ta)(hv:PE X value tv)(hK:X.K=K:=by rfl)(hs:swapsWith value (some (.Attribute o f pos')) pos.line X.env=pure false:=by rfl):PS X (.Assign [.Attribute o f pos'] value pos) (e6p K ta tv f):=hK ▸ e3v ha hv hs
theorem d2f{K:Frag}{op:Operator}{rd:V->V->Hp->VK->Prop}(ha:PE X o ta)(hv:PE X value tv)(hop:e8b X op rd)(hK:X.K=K:=by rfl):PS X (.AugAssign (.Attribute o f tpos) op value pos) (c8n K ta tv rd f):=hK ▸ d4e ha hv hop
end
def KTup(K:Frag)(p:Addr)(xs:List V):Prop:=∃(its:Array Value)(n:Nat)(sl:Array (Option Value)),K.lookup p=some ⟨.type "tuple",none,.seq its n,sl⟩/\its.size<=sizeLine/\Vals xs its.toList
theorem KTup.sq{K:Frag}{p:Addr}{xs:List V}{H:Hp}(h:KTup K p xs):SqT K H p xs:=by obtain⟨its,n,sl,a,b,c⟩:=h;exact .inr ⟨_,its,n,a,rfl,rfl,b,c⟩
theorem KTup.ty{K:Frag}{p:Addr}{xs:List V}{H:Hp}(h:KTup K p xs):tyV K "tuple" (.ref p) H:=by obtain⟨_,_,_,a,_,_⟩:=h;exact .inr (.inl ⟨rfl,_,a,rfl,rfl⟩)
theorem a2h{X:Cx}{x:Str}{a:Addr}{pos:Pos}(hm:X.mg x=some (.ref a))(hg:Gl X x)(hd:(x == ("__debug__":Str))=false:=by decide):PE X (.Name x pos) (tC (.ref a)):=c8u hg hm rfl hd
theorem c4s(l:Addr)(a b:Value)(n:Nat)(dd:Option Addr)(sl:Array (Option Value))(x:Value)(e:Value->Bool)(j:Nat)(hj:j=if e a then 0 else 1)(hit:e a=true\/e b=true):
  Meets (Builtin.«tuple.index» ⟨[.ref l,x],[]⟩)
   (λA R s=>s.heap.get? l=some { cls:=.type "tuple",dict:=dd,data:=.seq #[a,b] n,slots:=sl }/\(∀y,y ∈ #[a,b]->EqAt A.in1 s y x (e y))/\R (.ok (.ret (.int j s.toks))) { s with toks:=s.toks+1 }):=by
 intro prog w A R s h;obtain⟨hp,g,d,tk,os⟩:=s;obtain⟨hl,he,h⟩:=h;unfold Builtin.«tuple.index»;simp only[Std.Legacy.Range.forIn_eq_forIn_range']
 wp_walk using wpAny_loadPart' hl
 have e0:[:min #[a,b].size #[a,b].size].size=2:=by simp[Std.Legacy.Range.size]
 generalize hL:[:min #[a,b].size #[a,b].size].size=N at e0 ⊢;subst e0;change wpAny (model prog w) A.in1 (List.forIn'.loop [0,1] _ [0,1] (none,()) _) _ _ _;change wpAny (model prog w) A.in1 ((eqBool a x >>= _) >>= _) _ _ _;refine wpAny_bind ?_;refine wpAny_bind (he a (by simp) prog w _ _ ?_)
 cases ea:e a with
 | true=>
  rw[ea] at hj;subst hj
  wp_walk
  exact h
 | false=>
  rw[ea] at hj;subst hj;refine wpAny_pure ?_;change wpAny (model prog w) A.in1 ((eqBool b x >>= _) >>= _) _ _ _;refine wpAny_bind ?_;refine wpAny_bind (he b (by simp) prog w _ _ ?_)
  rw[hit.resolve_left (by rw[ea];exact Bool.false_ne_true)]
  wp_walk
  exact h
def d4b(K:Frag):V->List V->Hp->VK->Prop:=λx vs H Q=>∃p y z1 z2,x=.ref p/\vs=[y]/\KTup K p [z1,z2]/\a5p z1=true/\a5p z2=true/\a5p y=true/\(eqV z1 y=true\/eqV z2 y=true)/\Q (.int (if eqV z1 y then 0 else 1)) H
section
variable{X:Cx}
theorem d4z:MtM X "tuple.index" (d4b X.K):=by
 intro qa s σ H x vs v us Q I rx rv h;obtain⟨p,y,z1,z2,rfl,rfl,⟨its,n,sl,lk,hz,r⟩,f1,f2,fy,hit,q⟩:=h;cases rx;obtain⟨u,rfl,ru⟩:=rv.one;obtain⟨u1,u2,eu,r1,r2⟩:=r.two;have hi:its=#[u1,u2]:=by apply Array.toList_inj.mp;rw[eu]
 subst hi;have e:=I.kIn _ _ lk;have fx:([z1,z2]:List V).all a5p=true:=by simp[f1,f2]
 have h1:eqU y u1=eqV z1 y:=d1l r1 f1;have h2:eqU y u2=eqV z2 y:=d1l r2 f2;refine call_meets F.slot_tuple_index ⟨_,e,rfl⟩ F.entry_tuple_index (F.args_tuple_index_2 _ _) (c4s p u1 u2 n none sl u (eqU y) (if eqU y u1 then 0 else 1) rfl (by rw[h1,h2];exact hit)) ⟨e,λw hw=>b0k ru fy r fx w (by simpa using hw),?_⟩
 rw[h1];refine⟨.int (if eqV z1 y then 0 else 1),H,I.tok _,?_,q⟩;by_cases c:eqV z1 y=true
 ·rw[if_pos c,if_pos c];exact⟨_,rfl⟩
 ·rw[if_neg c,if_neg c];exact⟨_,rfl⟩
theorem d2g{K:Frag}{o e:Expr}{to:TE}{t:TA}{apos cpos:Pos}(ho:PE X o to)(ha:PA X [e] t)(hK:X.K=K:=by rfl)(hbase:attributeBase o "index" X.env (eval o X.env)=eval o X.env:=by rfl)(hfew:((backTo cpos (starEach [e] X.env)).all (λx=>!x.1) && (backToKw cpos (keywordEach [] X.env)).all (λx=>x.1.isSome) && decide ([e].length+([]:List Keyword).length+(if ([]:List Keyword).isEmpty then 0 else 1)<30))=true:=by rfl)(hline:(apos.endLine == cpos.line)=true:=by rfl)(hs:starEach [e] X.env=(false,eval e X.env)::starEach [] X.env:=by rfl)(hplain:(backTo cpos (starEach [] X.env)).any (·.1)=false:=by rfl):
  PE X (.Call (.Attribute o "index" apos) [e] [] cpos) (tBM K "tuple" (d4b K) to t) :=
 hK ▸ e4d PySem.F.plainAttrs_tuple PySem.F.slot_tuple_index PySem.F.type_tuple_index (λqa s σ H x xs v us Q I rx rs q=>d4z qa s σ H x xs v us Q I rx rs q) ho ha hbase hfew hline hs hplain
end
end L2
namespace L2
open PySem PySem.Spec PyProof.Rows
section
variable{K:Frag}{σ:St}{H:Hp}{Q:VK}{i:Nat}{v x y:V}{r:R2}{ta tb:TE}{nx bk ct:St->Hp->Prop}{rt:VK}{E:XK}{C:Addr}{m:Str}{sp:Sp}{t:TA}{J:St->XK}
theorem e7c(h:σ[i]?=some (some v))(q:Q v H):e2z i σ H Q:=⟨v,h,q⟩
theorem g_c(q:Q v H):tC v σ H Q:=q
theorem e9m(q:ta σ H λx H1=>tb σ H1 λy H2=>r x y H2 Q):tOp r ta tb σ H Q:=q
theorem e9j{r:V->Hp->VK->Prop}(q:ta σ H λx H1=>r x H1 Q):tUn r ta σ H Q:=q
theorem e9v{g:Int->Int->V}{a b:Int}(q:Q (g a b) H):rI0 g (.int a) (.int b) H Q:=⟨a,b,rfl,rfl,q⟩
theorem g_I{c:Int->Int->Prop}{g:Int->Int->V}{a b:Int}(h:c a b)(q:Q (g a b) H):rI c g (.int a) (.int b) H Q:=⟨a,b,rfl,rfl,h,q⟩
theorem g_U{g:Int->V}{a:Int}(q:Q (g a) H):rU g (.int a) H Q:=⟨a,rfl,q⟩
theorem e8u(h:e6a x y=true)(q:Q (.bl (decide (x=y))) H):rEq x y H Q:=⟨h,q⟩
theorem e9n(h:e6a x y=true)(q:Q (.bl (!decide (x=y))) H):rNe x y H Q:=⟨h,q⟩
theorem e7q{n:Nat}{p q:Addr}{b:Bool}(h:EqD K H (n+1) (.ref p) (.ref q) b)(z:Q (.bl b) H):e8q K n (.ref p) (.ref q) H Q:=⟨p,q,b,rfl,rfl,h,z⟩
theorem c4i{n:Nat}{p q:Addr}{b:Bool}(h:EqD K H (n+1) (.ref p) (.ref q) b)(z:Q (.bl (!b)) H):e8n K n (.ref p) (.ref q) H Q:=⟨p,q,b,rfl,rfl,h,z⟩
theorem a0w{p:Addr}{xs:List V}{j:Int}(h:H p=some (.lst xs))(e:atI xs j=some v)(q:Q v H):e6t K (.ref p) (.int j) H Q:=⟨p,xs,j,v,rfl,rfl,SqL.of h,e,q⟩
theorem e5j{p:Addr}{xs:List V}(h:H p=some (.lst xs))(q:Q (.int xs.length) H):e8o K [.ref p] H Q:=⟨p,xs,rfl,.inl (SqL.of h),q⟩
theorem e5i{p:Addr}{xs:List V}(h:H p=some (.lst xs))(q:∀l,H l=none->Q (.ref l) (upd H l (.lst xs))):d4a K [.ref p] H Q:=⟨p,xs,rfl,.inl (SqL.of h),q⟩
theorem e9s{r:List V->Hp->VK->Prop}(q:t σ H λvs H1=>r vs H1 Q):tCB r t σ H Q:=q
theorem e7k{Q:List V->Hp->Prop}(q:Q [] H):d9i σ H Q:=q
theorem e5p{Q:List V->Hp->Prop}(q:ta σ H λx H1=>t σ H1 λxs H2=>Q (x::xs) H2):d7m ta t σ H Q:=q
theorem e7e(q:t σ H λxs H1=>xs.length<=sizeLine/\∀p,H1 p=none->Q (.ref p) (upd H1 p (.tup xs))):e8f t σ H Q:=q
theorem e7m(q:t σ H λxs H1=>xs.length<=sizeLine/\∀p,H1 p=none->Q (.ref p) (upd H1 p (.lst xs))):e8j t σ H Q:=q
theorem e9r(q:t σ H λvs H1=>sp vs H1 Q E):tFn sp E t σ H Q:=q
theorem e7p{f:Str}(q:ta σ H λx H1=>∃a C dx fs v,x=.ref a/\H1 a=some (.ins C dx fs)/\Cls K C/\NoAttr K C f/\fs.lookup f=some v/\Q v H1):e6n K ta f σ H Q:=q
theorem e5l{f:Str}{a dx:Addr}{fs:List (Str×V)}{R:V->Prop}(h:H a=some (.ins C dx fs))(c:Cls K C)(n:NoAttr K C f)(l:fs.lookup f=some v)(q:R v):
  ∃a' C dx fs v,V.ref a=.ref a'/\H a'=some (.ins C dx fs)/\Cls K C/\NoAttr K C f/\fs.lookup f=some v/\R v:=⟨a,C,dx,fs,v,rfl,h,c,n,l,q⟩
theorem e9o(q:ta σ H λx H1=>∃a dx fs,x=.ref a/\H1 a=some (.ins C dx fs)/\fs.lookup m=none/\t σ H1 λvs H2=>sp (x::vs) H2 Q E):tMt C m sp E ta t σ H Q:=q
theorem e7l{a dx:Addr}{fs:List (Str×V)}{R:Prop}(h:H a=some (.ins C dx fs))(l:fs.lookup m=none)(q:R):∃a' dx fs,V.ref a=.ref a'/\H a'=some (.ins C dx fs)/\fs.lookup m=none/\R:=⟨a,dx,fs,rfl,h,l,q⟩
theorem e9p(q:t σ H λvs H1=>∀x dx,H1 x=none->H1 dx=none->dx≠x->sp (.ref x::vs) (upd (upd H1 dx (.own x)) x (.ins C dx [])) (λv H2=>v=.non/\Q (.ref x) H2) E):tMk C sp E t σ H Q:=q
theorem e4w{Q:Bool->Hp->Prop}(q:ta σ H λx H'=>∃k,x=.bl k/\Q k H'):d7l ta σ H Q:=q
theorem e9k{Q:Bool->Hp->Prop}(q:ta σ H λx H'=>∃k,x=.bl k/\Q k H'):tB ta σ H Q:=q
theorem e9u{Q:Bool->Prop}{b:Bool}(q:Q b):∃k,V.bl b=.bl k/\Q k:=⟨b,rfl,q⟩
theorem e7u{u w:TT}{Q:Bool->Hp->Prop}(q:u σ H λc H1=>if c=true then w σ H1 Q else Q false H1):e8l u w σ H Q:=q
theorem e9l{u w:TT}{Q:Bool->Hp->Prop}(q:u σ H λc H1=>if c=true then Q true H1 else w σ H1 Q):tOr u w σ H Q:=q
theorem e7j{u:TT}{Q:Bool->Hp->Prop}(q:u σ H λc H1=>Q (!c) H1):e8i u σ H Q:=q
theorem e5u(q:ta σ H λx H1=>∃c,x=.bl c/\if c=true then tb σ H1 Q else Q (.bl false) H1):e3n ta tb σ H Q:=q
theorem e7i(q:ta σ H λx H1=>∃c,x=.bl c/\if c=true then Q (.bl true) H1 else tb σ H1 Q):e8h ta tb σ H Q:=q
theorem e5d(q:ta σ H λx H1=>∃c,x=.bl c/\Q (.bl (!c)) H1):e3c ta σ H Q:=q
theorem e7n{u:TT}(q:u σ H λc H1=>if c=true then ta σ H1 Q else tb σ H1 Q):tIf u ta tb σ H Q:=q
theorem e5e(q:nx σ H):e0n ⟨nx,rt,bk,ct⟩ σ H:=q
theorem e5m(q:ta σ H λ_ H1=>nx σ H1):e3f ta ⟨nx,rt,bk,ct⟩ σ H:=q
theorem e7h(q:ta σ H rt):e8g ta ⟨nx,rt,bk,ct⟩ σ H:=q
theorem e9q{c:TT}{s u:TS}{D:d6x}(q:c σ H λb H1=>if b=true then s D σ H1 else u D σ H1):e6m c s u D σ H:=q
theorem e7t{g:TG}(q:ta σ H λx H1=>g x σ H1 nx):e3m ta g ⟨nx,rt,bk,ct⟩ σ H:=q
theorem e5f{k:St->Hp->Prop}(q:k (σ.set i (some v)) H):c7k i v σ H k:=q
theorem e7f{ts:e2q}{k:St->Hp->Prop}(q:ta σ H λo H1=>tb σ H1 λj H2=>ts o j v H2 λH3=>k σ H3):e8v ta tb ts v σ H k:=q
theorem d9q{p:Addr}{xs:List V}{z:Int}{j:Nat}{k:Hp->Prop}(h:H p=some (.lst xs))(e:ixN xs.length z=some j)(q:k (upd H p (.lst (xs.set j v)))):e3s (.ref p) (.int z) v H k:=⟨p,xs,z,j,rfl,rfl,h,e,q⟩
theorem e4x{f:Str}(q:tb σ H λy H1=>ta σ H1 λx H2=>∃a C dx fs,x=.ref a/\H2 a=some (.ins C dx fs)/\Cls K C/\NoAttr K C f/\fs.length<1000/\nx σ (upd H2 a (.ins C dx (a4e f y fs)))):e6p K ta tb f ⟨nx,rt,bk,ct⟩ σ H:=q
theorem e2d{f:Str}{a dx:Addr}{fs:List (Str×V)}{R:Addr->Addr->Addr->List (Str×V)->Prop}(h:H a=some (.ins C dx fs))(c:Cls K C)(n:NoAttr K C f)(l:fs.length<1000)(q:R a C dx fs):
  ∃a' C dx fs,V.ref a=.ref a'/\H a'=some (.ins C dx fs)/\Cls K C/\NoAttr K C f/\fs.length<1000/\R a' C dx fs:=⟨a,C,dx,fs,rfl,h,c,n,l,q⟩
theorem e7s{f:Str}{rd:V->V->Hp->VK->Prop}(q:ta σ H λx H1=>∃a C dx fs v,x=.ref a/\H1 a=some (.ins C dx fs)/\Cls K C/\NoAttr K C f/\fs.lookup f=some v /\
  tb σ H1 λy H2=>rd v y H2 λz H3=>∃dx' fs',H3 a=some (.ins C dx' fs')/\fs'.length<1000/\nx σ (upd H3 a (.ins C dx' (a4e f z fs')))):c8n K ta tb rd f ⟨nx,rt,bk,ct⟩ σ H:=q
theorem e5t{f:Str}{a dx:Addr}{fs:List (Str×V)}{R:Addr->Addr->V->Prop}(h:H a=some (.ins C dx fs))(c:Cls K C)(n:NoAttr K C f)(l:fs.lookup f=some v)(q:R a C v):
  ∃a' C dx fs v,V.ref a=.ref a'/\H a'=some (.ins C dx fs)/\Cls K C/\NoAttr K C f/\fs.lookup f=some v/\R a' C v:=⟨a,C,dx,fs,v,rfl,h,c,n,l,q⟩
theorem e5s{a dx:Addr}{fs:List (Str×V)}{R:Addr->List (Str×V)->Prop}(h:H a=some (.ins C dx fs))(l:fs.length<1000)(q:R dx fs):
  ∃dx' fs',H a=some (.ins C dx' fs')/\fs'.length<1000/\R dx' fs':=⟨dx,fs,h,l,q⟩
theorem e5b{a b:Int}(q:Q (.int (a+b)) H):e8s (.int a) (.int b) H Q:=⟨a,b,rfl,rfl,q⟩
theorem e2e{t cv:Value}{c:V}{b:Bool}(ty:TyX K H x t)(hc:e6g c=some cv)(hk:kitOne K t cv=some b)(q:Q (.bl b) H):e8p K [x,c] H Q:=⟨x,c,t,cv,b,rfl,ty,hc,hk,q⟩
theorem e9t{T:String}{r:V->List V->Hp->VK->Prop}(q:ta σ H λx H1=>tyV K T x H1/\t σ H1 λxs H2=>r x xs H2 Q):tBM K T r ta t σ H Q:=q
theorem c4k{p:Addr}{xs:List V}(h:H p=some (.lst xs))(l:xs.length<sizeLine)(q:Q .non (upd H p (.lst (xs++[y])))):c2u (.ref p) [y] H Q:=⟨p,xs,y,rfl,rfl,h,l,q⟩
theorem e7d{p:Addr}{xs:List V}{R:Prop}(h:H p=some (.lst xs))(q:R):tyV K "list" (.ref p) H/\R:=⟨.inl ⟨rfl,xs,SqL.of h⟩,q⟩
theorem d5s{p q:Addr}{xs ys:List V}(h:H p=some (.lst xs))(h':H q=some (.lst ys))(l:xs.length+ys.length<=sizeLine)(k:∀z,H z=none->Q (.ref z) (upd H z (.lst (xs++ys)))):e8r (.ref p) (.ref q) H Q:=⟨p,q,xs,ys,rfl,rfl,h,h',l,k⟩
end
theorem a3b{c:Prop}[Decidable c]{A B:Prop}(h1:c->A)(h2:¬ c->B):if decide c=true then A else B:=by
 by_cases h:c
 ·rw[decide_eq_true h];exact e6f (h1 h)
 ·rw[decide_eq_false h];exact e4p (h2 h)
theorem d9s{c:Prop}[Decidable c]{A B:Prop}(h1:¬ c->A)(h2:c->B):if (!decide c)=true then A else B:=by
 by_cases h:c
 ·rw[decide_eq_true h];exact e4p (h2 h)
 ·rw[decide_eq_false h];exact e6f (h1 h)
theorem c7j{b:Bool}{A B:Prop}(h1:b=true->A)(h2:b=false->B):if b=true then A else B:=by
 cases b
 ·exact e4p (h2 rfl)
 ·exact e6f (h1 rfl)
section
variable{K:Frag}{σ:St}{H:Hp}{ta:TE}{t:TA}
theorem e7o{wi:TI}{g:TG}{tb:TS}{D:d6x}(q:wi σ H λJ H1=>∃W:Nat->Nat->St->Hp->Prop,(∃m,W 0 m σ H1)/\∀i m σ H,W i m σ H ->
  (J.stop i H/\D.nx σ H)\/(J.go i H/\∃N:St->Hp->Prop,(∀σ' H',N σ' H'->∃m',m'<m/\W (i+1) m' σ' H')/\∀x H',J.yld i H x H'->g x σ H' λσ2 H2=>tb { D with nx:=N,ct:=N,bk:=D.nx } σ2 H2)):e8k wi g tb D σ H:=q
theorem e5a{R:It->Hp->Prop}(q:t σ H λvs H1=>∃j:Int,vs=[.int j]/\-(2 ^ 62)<=j/\j<2 ^ 62/\R (Itr 0 j.toNat) H1):e4s t σ H R:=q
theorem e4z{R:It->Hp->Prop}(q:t σ H λvs H1=>∃i j:Int,vs=[.int i,.int j]/\(-(2 ^ 62)<=i/\i<2 ^ 62/\-(2 ^ 62)<=j/\j<2 ^ 62)/\R (Itr i (j-i).toNat) H1):e4r t σ H R:=q
theorem d9r{N:Int}{R:Int->Prop}(h1:-(2 ^ 62)<=N)(h2:N<2 ^ 62)(q:R N):∃j,[V.int N]=[.int j]/\-(2 ^ 62)<=j/\j<2 ^ 62/\R j:=⟨N,rfl,h1,h2,q⟩
theorem e5g{R:It->Hp->Prop}(q:ta σ H λx H1=>∃a,x=.ref a/\(∃xs,SqL K H1 a xs)/\R (Itl K a) H1):e1p K ta σ H R:=q
theorem e5h{a:Addr}{xs:List V}{R:Addr->Prop}(h:SqL K H a xs)(q:R a):∃a',V.ref a=.ref a'/\(∃xs,SqL K H a' xs)/\R a':=⟨a,rfl,⟨xs,h⟩,q⟩
theorem e5q{wi:TI}{nt:Nat}{fr:List Nat}{g:TG}{te:TE}{Q:VK}(q:wi σ H λJ H1=>∀D,H1 D=none->∃(n:Nat) (W:Nat->List V->Hp->Prop),W 0 [] (upd H1 D (.lst [])) /\
 ∀i acc H,W i acc H->H D=some (.lst acc)/\acc.length<sizeLine /\
  ((J.stop i H/\Q (.ref D) H)\/(i<n/\J.go i H/\∀x H',J.yld i H x H'->g x (a1h nt fr σ) H' λσ2 H2=>te σ2 H2 λy H3=>H3 D=some (.lst acc)/\W (i+1) (acc++[y]) (upd H3 D (.lst (acc++[y])))))):e0p wi nt fr g te σ H Q:=q
theorem d7n{a b:TS}{nx bk ct:St->Hp->Prop}{rt:VK}(M:St->Hp->Prop)(hb:∀σ' H',M σ' H'->b ⟨nx,rt,bk,ct⟩ σ' H')(ha:∀R:St->Hp->Prop,(∀σ' H',M σ' H'->R σ' H')->a ⟨R,rt,bk,ct⟩ σ H):e3a a b ⟨nx,rt,bk,ct⟩ σ H:=ha _ hb
theorem e7r{T:String}{r:V->List V->Hp->VK->Prop}{Q:VK}(q:ta σ H λx H1=>tyV K T x H1/\r x [] H1 Q):e6o K T r ta σ H Q:=q
theorem e2f{p:Addr}{xs:List V}{Q:VK}(h:H p=some (.lst xs))(q:Q .non (upd H p (.lst []))):d4c (.ref p) [] H Q:=⟨p,xs,rfl,rfl,h,q⟩
theorem e6y{A B:Prop}(h:B):if (!true)=true then A else B:=h
theorem e6z{A B:Prop}(h:A):if (!false)=true then A else B:=h
theorem a7d{a:Addr}{xs:List V}{nt:Nat}{fr:List Nat}{g:TG}{te:TE}{Q:Addr->Hp->Prop}(hz:xs.length<sizeLine)(Pv:Addr->Nat->List V->Hp->Prop)(h0:∀D,H D=none->Pv D 0 [] (upd H D (.lst [])))(hk:∀D i acc H',Pv D i acc H'->H' D=some (.lst acc)/\acc.length=i/\SqL K H' a xs)(hs:∀D i x acc H',H D=none->xs[i]?=some x->Pv D i acc H'->g x (a1h nt fr σ) H' λσ2 H2=>te σ2 H2 λy H3=>H3 D=some (.lst acc)/\Pv D (i+1) (acc++[y]) (upd H3 D (.lst (acc++[y]))))(hd:∀D acc H',H D=none->Pv D xs.length acc H'->Q D H'):
  ∀D,H D=none->∃(m:Nat)(W:Nat->List V->Hp->Prop),W 0 [] (upd H D (.lst []))/\∀i acc H',W i acc H'->H' D=some (.lst acc)/\acc.length<sizeLine /\
   (((Itl K a).stop i H'/\Q D H')\/(i<m/\(Itl K a).go i H'/\∀x H2,(Itl K a).yld i H' x H2->g x (a1h nt fr σ) H2 λσ2 H3=>te σ2 H3 λy H4=>H4 D=some (.lst acc)/\W (i+1) (acc++[y]) (upd H4 D (.lst (acc++[y]))))):=by
 intro D hD;refine⟨xs.length,λi acc H'=>i<=xs.length/\(i<xs.length->Pv D i acc H')/\(i=xs.length->Pv D i acc H'),⟨Nat.zero_le _,λ_=>h0 D hD,λ_=>h0 D hD⟩,?_⟩;rintro i acc H' ⟨hi,p1,p2⟩;have p:Pv D i acc H':=by
  by_cases h:i<xs.length
  ·exact p1 h
  ·exact p2 ↑3
 obtain⟨k1,k2,k3⟩:=hk D i acc H' p;refine⟨k1,by lia,?_⟩
 by_cases h:i<xs.length
 ·refine .inr ⟨h,⟨xs,xs[i],k3,List.getElem?_eq_getElem h⟩,?_⟩
  rintro x H2 ⟨rfl,hy⟩;have ex:xs[i]?=some x:=hy xs k3;have key:=hs D i x acc _ hD ex p;have e:(λ(σ2:St) (H2:Hp)=>te σ2 H2 λy H3=>H3 D=some (.lst acc)/\Pv D (i+1) (acc++[y]) (upd H3 D (.lst (acc++[y]))))=(λ(σ2:St) (H3:Hp)=>te σ2 H3 λy H4=>H4 D=some (.lst acc)/\i+1<=xs.length/\(i+1<xs.length->Pv D (i+1) (acc++[y]) (upd H4 D (.lst (acc++[y]))))/\(i+1=xs.length->Pv D (i+1) (acc++[y]) (upd H4 D (.lst (acc++[y]))))):=by
   funext σ2 H3;have:(λ(y:V) (H3:Hp)=>H3 D=some (.lst acc)/\Pv D (i+1) (acc++[y]) (upd H3 D (.lst (acc++[y]))))=(λ(y:V) (H4:Hp)=>H4 D=some (.lst acc)/\i+1<=xs.length/\(i+1<xs.length->Pv D (i+1) (acc++[y]) (upd H4 D (.lst (acc++[y]))))/\(i+1=xs.length->Pv D (i+1) (acc++[y]) (upd H4 D (.lst (acc++[y]))))):=by
    funext y H4;apply propext;constructor
    ·rintro⟨z1,z2⟩
     exact⟨z1,h,λ_=>z2,λ_=>z2⟩
    ·rintro⟨z1,z2,z3,z4⟩
     refine⟨z1,?_⟩;by_cases hh:i+1<xs.length
     ·exact z3 hh
     ·exact z4 ↑3
   rw[this]
  rw[e] at key;exact key
 ·have hi':i=xs.length:=by lia
  subst hi';exact .inl ⟨⟨xs,k3,Nat.le_refl _⟩,hd D acc H' hD p⟩
end
def KDict(P:Program)(w:World)(K:Frag)(d:Addr)(kvs:List (Str×Value)):Prop :=
 (d == sysModules)=false/\∃(es:Array DictEntry)(ep:Nat),K.lookup d=some ⟨.type "dict",none,.dict es ep,#[]⟩/\KeysOf (strKind P w) es/\Pairs (strKind P w) es.toList kvs/\(kvs.map (·.1)).Nodup
theorem KDict.at{P:Program}{w:World}{K:Frag}{d:Addr}{kvs:List (Str×Value)}{h:Heap}(x:KDict P w K d kvs)(k:K.In h):h.DictOf (strKind P w) d kvs:=by
 obtain⟨_,es,ep,lk,a,b,c⟩:=x;exact⟨_,es,ep,k _ _ lk,⟨rfl,rfl,rfl⟩,rfl,a,b,c⟩
def d9a(w:World)(ps:List (Str×Tok×Value)):List DictEntry:=ps.map λp=>⟨hashStr w p.1,.str p.1 p.2.1,p.2.2⟩
theorem KDict.mk'{P:Program}{w:World}{K:Frag}{d:Addr}{ps:List (Str×Tok×Value)}{ep:Nat}(hd:(d == sysModules)=false)(l:K.lookup d=some ⟨.type "dict",none,.dict (d9a w ps).toArray ep,#[]⟩)(n:(ps.map (·.1)).Nodup):
  KDict P w K d (ps.map λp=>(p.1,p.2.2)):=by
 refine⟨hd,_,ep,l,?_,?_,?_⟩
 ·intro e he
  simp only[List.mem_toArray] at he;obtain⟨p,_,rfl⟩:=List.mem_map.mp he;exact⟨p.1,strKind_is P w p.1 p.2.1,rfl⟩
 ·show Pairs _ (d9a w ps) _
  clear l n
  induction ps with
  | nil=>exact .nil
  | cons p ps ih=>exact .cons (strKind_is P w p.1 p.2.1) rfl ih
 ·rw[List.map_map]
  exact n
section
variable{X:Cx}
def e9g(P:Program)(w:World)(K:Frag):R2:=λx y H Q=>∃(d:Addr)(z:Str)(kvs:List (Str×Value)),x=.str z/\y=.ref d/\KDict P w K d kvs/\Q (.bl (valueAt kvs z).isSome) H
theorem c3c{K:Frag}(h:X.K=K:=by rfl):OpR X (compareOp .In) (e9g X.prog X.w K):=by
 subst h;intro qa s σ H x y v u Q I rx ry hq;obtain⟨d,z,kvs,rfl,rfl,kd,q⟩:=hq;obtain⟨t,rfl⟩:=rx;cases ry;exact wpAny_in_of (strKind_is X.prog X.w z t) kd.1 (kd.at I.kIn).mapOf ⟨.bl _,H,I.tok _,rfl,q⟩
def e6s(P:Program)(w:World)(K:Frag):R2:=λx y H Q=>∃(d:Addr)(z:Str)(kvs:List (Str×Value))(u:Value)(v:V),x=.ref d/\y=.str z/\KDict P w K d kvs/\valueAt kvs z=some u/\RelV v u/\Q v H
theorem c9p{K:Frag}(h:X.K=K:=by rfl):IxR X (e6s X.prog X.w K):=by
 subst h;intro value slice qa s σ H x y v u Q I rx ry hq hs;obtain⟨d,z,kvs,u',v',rfl,rfl,kd,hv,rv,q⟩:=hq;cases rx;obtain⟨t,rfl⟩:=ry;have dd:=kd.at (P:=X.prog) (w:=X.w) I.kIn;exact subscriptTail_builtinR (x:=u') dd.typeIs PySem.F.slot_dict_getitem.lookup (wpAny_getItem_of (strKind_is X.prog X.w z t) dd.mapOf hv ⟨rfl,v',H,I.tok _,rv,q⟩) hs
structure FnV(P:Program)(w:World)(K:Frag)(mg:Str->Option Value)(qb:Heap)(f:Addr)(k:Nat)(ps:List Str)(sp:Sp):Prop where
 ex:∃fd:FuncData,FnOk P w K mg qb (CXK P w) k f fd ps sp/\keepIn K (.ref f)=true/\Binds K fd ps []
theorem FnV.mono{P:Program}{w:World}{K:Frag}{mg:Str->Option Value}{qb:Heap}{f:Addr}{j k:Nat}{ps:List Str}{sp:Sp}(F:FnV P w K mg qb f j ps sp)(h:j<=k):FnV P w K mg qb f k ps sp:=by
 obtain⟨fd,F,a,b⟩:=F.ex;exact⟨fd,F.mono h,a,b⟩
def e3j(P:Program)(w:World)(K:Frag)(mg:Str->Option Value)(qb:Heap)(k i:Nat)(E:XK)(t:TA):TE:=λσ H Q=>∃f ps sp,σ[i]?=some (some (.ref f))/\FnV P w K mg qb f k ps sp/\t σ H λvs H1=>sp vs H1 Q E
variable{k j i:Nat}{E:XK}{x:Str}{p pos:Pos}{e:Expr}{es:List Expr}{t:TA}
theorem b7u(hi:X.N[i]?=some x)(hv:Vis X.env.scope x)(hr:Room j X.A)(hj:k<=j)(hx:a3h (CXK X.prog X.w) X E)(ha:PA X (e::es) t)(hd:(x == ("__debug__":Str))=false:=by decide)(hcd:(x == ("__classdict__":Str))=false:=by decide)(he:starEach (e::es) X.env=(false,eval e X.env)::starEach es X.env:=by rfl)(hpl:(backTo pos (starEach es X.env)).any (·.1)=false:=by rfl):
  PE X (.Call (.Name x p) (e::es) [] pos) (e3j X.prog X.w X.K X.mg X.qb k i E t):=by
 intro qa s σ H Q I h;obtain⟨f,ps,sp,ef,F,q⟩:=h;obtain⟨fd,F,hk,hb⟩:=F.ex;have hp:=d9k hi hv hd hcd (pos:=p) qa s σ H (λv H'=>v=.ref f/\H'=H) I ⟨.ref f,ef,rfl,rfl⟩;refine wpAny_Call_Name_kw (thn hp λu s1 z0_=>?_);obtain⟨v,H',I1,rv,ev,eH⟩:=z0_;subst ev;subst eH;cases rv;refine callWith_K (h₀:=X.qb) I.ok.mod.kin hk (thn (ha pos qa s1 σ H' _ I1 q) λus s2 z0_=>?_) he hpl;obtain⟨vs,H1,I2,r,q2⟩:=z0_;refine⟨I2.kIn,?_⟩;refine b6z (ds:=[]) (dvs:=[]) F (hr.mono hj) hb .nil hx I2 r ?_;simp only[List.append_nil];exact q2
structure e9b(K:Frag)(C:Addr)(m:Str)(f:Addr):Prop where
 ga:specialIn K (.ref C) "__getattribute__" = some (some (.builtin "type.__getattribute__"))
 mc:∃mc,PySem.W.readsIn K C mc=true/\PySem.W.findCls K (.ref C) mc m=some (.val (.ref f))
 kp:keepIn K (.ref f)=true
structure d6v(P:Program)(w:World)(K:Frag)(mg:Str->Option Value)(qb:Heap)(x:Str)(m:Str)(k:Nat)(ps:List Str)(sp:Sp):Prop where
 ex:∃(C f:Addr)(fd:FuncData),FnOk P w K mg qb (CXK P w) k f fd ps sp/\e9b K C m f/\mg x=some (.ref C)/\Binds K fd ps []
variable{m:Str}{apos:Pos}{ps:List Str}{sp:Sp}{pl:Sem Bool}
theorem d4o(G:d6v X.prog X.w X.K X.mg X.qb x m k ps sp)(hr:Room j X.A)(hj:k<=j)(hg:Gl X x)(hx:a3h (CXK X.prog X.w) X E)(ha:PA X (e::es) t)(hdb:(x == ("__debug__":Str))=false:=by decide)(hst:starEach (e::es) X.env=(false,eval e X.env)::starEach es X.env:=by rfl)(hpl:(backTo pos (starEach es X.env)).any (·.1)=false:=by rfl)(ht:eval (.Call (.Attribute (.Name x p) m apos) (e::es) [] pos) X.env=(do
   let ov <- eval (.Name x p) X.env
   standAt apos.atName
   let (f,first) <- holding [ov] (getMethod ov m pl)
   callWith pos f first (backTo pos (starEach (e::es) X.env)) (backToKw pos (keywordEach [] X.env))):=by rfl):
  PE X (.Call (.Attribute (.Name x p) m apos) (e::es) [] pos) (tFn sp E t):=by
 obtain⟨C,f,fd,F,M,hm,hb⟩:=G.ex;intro qa s σ H Q I h;have hp:=c8u (X:=X) (x:=x) (v:=.ref C) (pos:=p) hg hm rfl hdb qa s σ H (λv H'=>v=.ref C/\H'=H) I ⟨rfl,rfl⟩;refine PySem.W.methodCall_KW (pl:=pl) (thn hp λu s1 z0_=>?_) ht;obtain⟨v,H',I1,rv,ev,eH⟩:=z0_;subst ev;subst eH;cases rv;obtain⟨mc,hrd,hfc⟩:=M.mc;refine PySem.W.method_cls I1.kIn M.ga (PySem.W.cls_value I1.kIn hrd hfc rfl ?_);have I2:=I1.tok (s1.toks+1);refine callWith_K (h₀:=X.qb) I.ok.mod.kin M.kp (thn (ha pos qa _ σ H' _ I2 h) λus s2 z0_=>?_) hst hpl;obtain⟨vs,H2,I3,r,q2⟩:=z0_;refine⟨I3.kIn,?_⟩;refine b6z (ds:=[]) (dvs:=[]) F (hr.mono hj) hb .nil hx I3 r ?_;simp only[List.append_nil];exact q2
end
def e6k(P:Program)(w:World)(K:Frag)(mg:Str->Option Value)(qb:Heap)(k:Nat)(m:Str)(E:XK)(ta:TE)(t:TA):TE:=λσ H Q=>ta σ H λx H1=>∃a C dx fs ps sp,x=.ref a/\H1 a=some (.ins C dx fs)/\fs.lookup m=none/\Cls K C/\MethT P w K mg qb C m k ps sp/\t σ H1 λvs H2=>sp (x::vs) H2 Q E
section
variable{X:Cx}{k j:Nat}{E:XK}{m:Str}{pos apos:Pos}{e o:Expr}{es:List Expr}{ta:TE}{t:TA}{pl:Sem Bool}
theorem b8z(he:PE X o ta)(hr:Room j X.A)(hj:k<=j)(hx:a3h (CXK X.prog X.w) X E)(ha:PA X (e::es) t)(hst:starEach (e::es) X.env=(false,eval e X.env)::starEach es X.env:=by rfl)(hpl:(backTo pos (starEach es X.env)).any (·.1)=false:=by rfl)(ht:eval (.Call (.Attribute o m apos) (e::es) [] pos) X.env=(do
   let ov <- eval o X.env
   standAt apos.atName
   let (f,first) <- holding [ov] (getMethod ov m pl)
   callWith pos f first (backTo pos (starEach (e::es) X.env)) (backToKw pos (keywordEach [] X.env))):=by rfl):
  PE X (.Call (.Attribute o m apos) (e::es) [] pos) (e6k X.prog X.w X.K X.mg X.qb k m E ta t):=by
 intro qa s σ H Q I h;refine PySem.W.methodCall_KW (pl:=pl) (thn (he qa s σ H _ I h) λu s1 z0_=>?_) ht;obtain⟨x,H1,I1,rx,a,C,dx,fs,ps,sp,ex,ea,l,c,G,q⟩:=z0_;obtain⟨f,fd,F,hm,hb⟩:=G.ex;subst ex;obtain rfl:u=Value.ref a:=rx;refine b0m I1 ea c hm l ?_;refine callWith_K (first:=[.ref a]) (h₀:=X.qb) I.ok.mod.kin hm.kp (thn (ha pos qa s1 σ H1 _ I1 q) λus s2 z0_=>?_) hst hpl
 obtain⟨vs,H2,I2,r,q2⟩:=z0_;refine⟨I2.kIn,?_⟩;refine b6z (us:=.ref a::us) (vs:=.ref a::vs) (ds:=[]) (dvs:=[]) F (hr.mono hj) hb .nil hx I2 (.cons rfl r) ?_;simp only[List.append_nil];exact q2
theorem l9(he:PE X o ta)(hr:Room j X.A)(hj:k<=j)(hx:a3h (CXK X.prog X.w) X E)(ht:eval (.Call (.Attribute o m apos) [] [] pos) X.env=(do
   let ov <- eval o X.env
   standAt apos.atName
   let (f,first) <- holding [ov] (getMethod ov m pl)
   callWith pos f first (backTo pos (starEach [] X.env)) (backToKw pos (keywordEach [] X.env))):=by rfl):
  PE X (.Call (.Attribute o m apos) [] [] pos) (e6k X.prog X.w X.K X.mg X.qb k m E ta d9i):=by
 intro qa s σ H Q I h;refine PySem.W.methodCall_KW (pl:=pl) (thn (he qa s σ H _ I h) λu s1 z0_=>?_) ht;obtain⟨x,H1,I1,rx,a,C,dx,fs,ps,sp,ex,ea,l,c,G,q⟩:=z0_;obtain⟨f,fd,F,hm,hb⟩:=G.ex;subst ex;obtain rfl:u=Value.ref a:=rx;refine b0m I1 ea c hm l ?_;refine PySem.W.callWith_K0 (first:=[.ref a]) I1.kIn hm.kp (b6z (us:=[.ref a]) (vs:=[.ref a]) (ds:=[]) (dvs:=[]) F (hr.mono hj) hb .nil hx I1 (.cons rfl .nil) ?_)
 exact q
end
theorem c4j{P:Program}{w:World}{K:Frag}{mg:Str->Option Value}{qb:Heap}{k:Nat}{m:Str}{E:XK}{ta:TE}{t:TA}{σ:St}{H:Hp}{Q:VK}(q:ta σ H λx H1=>∃a C dx fs ps sp,x=.ref a/\H1 a=some (.ins C dx fs)/\fs.lookup m=none/\Cls K C/\MethT P w K mg qb C m k ps sp/\t σ H1 λvs H2=>sp (x::vs) H2 Q E):e6k P w K mg qb k m E ta t σ H Q:=q
def e8x(K:Frag)(ta:TE)(f:Str):TG:=λv σ H Q=>ta σ H λx H1=>∃a C dx fs,x=.ref a/\H1 a=some (.ins C dx fs)/\Cls K C/\NoAttr K C f/\fs.length<1000/\Q σ (upd H1 a (.ins C dx (a4e f v fs)))
theorem d4j{X:Cx}{K:Frag}{o:Expr}{f:Str}{pos:Pos}{ta:TE}(ha:PE X o ta)(hK:X.K=K:=by rfl):PG X (.Attribute o f pos) (e8x K ta f):=by
 subst hK;intro qa s σ H v u Q I r h;rw[assign_Attribute];refine wpAny_bind (wpAny_holding (thn (ha qa s σ H _ I h) λov s1 z0_=>?_));obtain⟨x,H1,I1,rx,a,C,dx,fs,ex,ea,c,n,l,q⟩:=z0_;subst ex;obtain rfl:ov=Value.ref a:=rx;refine wpAny_bind (wpAny_standAt (wpAny_bind (wpAny_holding (b5g I1 ea c n l r λs2 I2=>?_))));exact wpAny_release ⟨σ,_,I2,q⟩
theorem b1f(r:Addr)(a b c i:Int)(t u v ti:Tok):
  Meets (Builtin.«range.__contains__» ⟨[.ref r,.int i ti],[]⟩) (λ_ R s=>s.heap.get? r=some { cls:=.type "range",dict:=none,data:=.fields #[.int a t,.int b u,.int c v],slots:=#[] }/\R (.ok (.ret (.bool (Builtin.Range.rangePlace? a b c i).isSome))) s) :=
 .of_wp λprog w A R s h=>by obtain⟨hp,g,d,tk,os⟩:=s;obtain⟨hl,h⟩:=h;wp_walk;exact⟨_,rfl,h⟩
theorem b9x{prog:Program}{w:World}{A:Around}{E:Value->Shared->Prop}{s:Shared}{r:Addr}{a b c i:Int}{t u v ti:Tok}{Q:Value->Shared->Prop}(hr:IsRange s.heap r a b c t u v)(h:Q (.bool (Builtin.Range.rangePlace? a b c i).isSome) s):wpAny (model prog w) A (compareOp .In (.int i ti) (.ref r)) Q E s:=by
 have hT:s.TypeIs (.ref r) "range":=⟨_,hr,rfl⟩;show wpAny _ _ (do return .bool (<- contains (.ref r) (.int i ti))) Q E s
 refine wpAny_bind ?_;unfold contains
 try with_reducible refine wpAny_holding ?_
 refine wpAny_bind (wpAny_specialOf hT F.slot_range_contains.lookup ?_);show wpAny _ _ (if (some (Value.builtin "range.__contains__") == some Value.none)=true then _ else _) _ E s;rw[if_neg (by rw[beq_builtin_none];exact Bool.false_ne_true)]
 refine wpAny_bind (wpAny_callSpecialUnlessNone?_slot (name:=Str.ofString "__contains__") hT F.slot_range_contains
  (call_meets F.slot_range_contains hT F.entry_range_contains (F.args_range_contains_2 _ _) (b1f r a b c i t u v ti) ⟨hr,?_⟩))
 exact wpAny_truthy_bool (wpAny_pure h)
def d9j(ta:TE)(tn:TA):TE:=λσ H Q=>ta σ H λx H1=>tn σ H1 λvs H2=>∃i n:Int,x=.int i/\vs=[.int n]/\Q (.bl (decide (0<=i/\i<n))) H2
theorem c5w(i n:Int):(Builtin.Range.rangePlace? 0 n 1 i).isSome=decide (0<=i/\i<n):=by
 unfold Builtin.Range.rangePlace?;by_cases h:0<=i/\i<n
 ·simp[h]
 ·simp[h]
theorem d0p{X:Cx}{a e:Expr}{ta:TE}{tn:TA}{p cp pos:Pos}(hg:Gl X "range")(hm:X.mg "range" = none)(ha:PE X a ta)(he:PA X [e] tn)(hb:behindInMarks .In (.Call (.Name "range" p) [e] [] cp)=false:=by rfl)(hs:starEach [e] X.env=[(false,eval e X.env)]:=by rfl):
  PE X (.Compare a [.In] [.Call (.Name "range" p) [e] [] cp] pos) (d9j ta tn):=by
 intro qa s σ H Q I h;refine wpAny_Compare1 (thn (ha qa s σ H _ I h) λiv s1 z0_=>?_) hb;obtain⟨x,H1,I1,rx,q1⟩:=z0_;refine Call_ (b9l I1 hg hm boot_range (PyProof.Rows.callWith_type1 (thn (he cp qa s1 σ H1 _ I1 q1) λus s2 z0_=>?_) hs rfl));obtain⟨vs,H2,I2,r2,q2⟩:=z0_;obtain⟨i,n,ex,ev,q⟩:=q2;subst ex;subst ev;obtain⟨ti,rfl⟩:=rx;cases r2 with
 | cons r rr=>
  cases rr;obtain⟨t,rfl⟩:=r;refine call_range_1 (b9x (IsRange.new ..) ?_);rw[c5w];exact⟨.bl _,H2,I2.kept (λb o e=>Heap.get?_push_of_some _ e),rfl,q⟩
section
variable{κ:Type}[DecidableEq κ]
def c7z(kvs:List (κ×V))(k:κ):Option V:=(kvs.find? λkv=>decide (kv.1=k)).map (·.2)
def c2w(kvs:List (κ×V))(k:κ)(v:V):List (κ×V) :=
 if (kvs.any λkv=>decide (kv.1=k))=true then kvs.map (λkv=>if kv.1=k then (kv.1,v) else kv) else kvs++[(k,v)]
theorem c1l{p:κ×V}{r:List (κ×V)}{k:κ}(e:p.1=k):c7z (p::r) k=some p.2:=by simp[c7z,List.find?_cons,e]
theorem c1m{p:κ×V}{r:List (κ×V)}{k:κ}(e:¬ p.1=k):c7z (p::r) k=c7z r k:=by simp[c7z,List.find?_cons,e]
theorem b7o(k:κ):∀kvs:List (κ×V),(kvs.any λkv=>decide (kv.1=k))=(c7z kvs k).isSome
 | []=>rfl
 | p::r=>by
  rw[List.any_cons];by_cases e:p.1=k
  ·simp only[c1l e,decide_eq_true e,Bool.true_or,Option.isSome_some]
  ·rw[c1m e,decide_eq_false e,Bool.false_or];exact b7o k r
theorem b3f(kvs:List (κ×V))(k:κ)(v:V):(c2w kvs k v).length<=kvs.length+1:=by
 unfold c2w;split
 ·rw[List.length_map];lia
 ·rw[List.length_append,List.length_cons,List.length_nil];lia
theorem d7t{kvs:List (κ×V)}{k:κ}(v:V)(h:c7z kvs k=none):c2w kvs k v=kvs++[(k,v)]:=by
 unfold c2w;rw[b7o,h];exact if_neg ↑6
theorem RelO.isSome_eq{o:Option V}{u:Option Value}(r:RelO o u):o.isSome=u.isSome:=by
 cases o with
 | none=>cases u with
  | none=>rfl
  | some _=>exact(show False from r).elim
 | some _=>cases u with
  | none=>exact(show False from r).elim
  | some _=>rfl
theorem KV.val{kvs:List (κ×V)}{vs:List (κ×Value)}(r:KV kvs vs)(k:κ):RelO (c7z kvs k) (valueAt vs k):=by
 unfold KV at r
 induction r with
 | nil=>exact True.intro
 | @cons p q ps qs h t ih=>
  obtain⟨h1,h2⟩:=h;by_cases e:p.1=k
  ·have e':q.1=k:=h1.symm.trans e
   have b:valueAt (q::qs) k=some q.2:=by simp[valueAt,List.find?_cons,e']
   rw[c1l e,b];exact h2
  ·have e':¬ q.1=k:=λz=>e (h1.trans z)
   have b:valueAt (q::qs) k=valueAt qs k:=by simp[valueAt,List.find?_cons,e']
   rw[c1m e,b];exact ih
theorem KV.any{kvs:List (κ×V)}{vs:List (κ×Value)}(r:KV kvs vs)(k:κ):(kvs.any λkv=>decide (kv.1=k))=vs.any λkv=>decide (kv.1=k):=by
 unfold KV at r
 induction r with
 | nil=>rfl
 | cons h t ih=>rw[List.any_cons,List.any_cons,ih,h.1]
theorem KV.repl{kvs:List (κ×V)}{vs:List (κ×Value)}(r:KV kvs vs)(k:κ){y:V}{u:Value}(ry:RelV y u):
  KV (kvs.map λkv=>if kv.1=k then (kv.1,y) else kv) (vs.map λkv=>if kv.1=k then (kv.1,u) else kv):=by
 unfold KV at r ⊢
 induction r with
 | nil=>exact .nil
 | @cons p q ps qs h t ih=>
  rw[List.map_cons,List.map_cons];refine .cons ?_ ih;obtain⟨h1,h2⟩:=h;by_cases e:p.1=k
  ·rw[if_pos e,if_pos (h1.symm.trans e)];exact⟨h1,ry⟩
  ·rw[if_neg e,if_neg (λz=>e (h1.trans z))];exact⟨h1,h2⟩
theorem KV.put{kvs:List (κ×V)}{vs:List (κ×Value)}(r:KV kvs vs)(k:κ){y:V}{u:Value}(ry:RelV y u):KV (c2w kvs k y) (stored vs k u):=by
 unfold c2w stored;rw[r.any k];by_cases e:(vs.any λkv=>decide (kv.1=k))=true
 ·rw[if_pos e,if_pos e];exact r.repl k ry
 ·rw[if_neg e,if_neg e];exact Paired.snoc r ⟨rfl,ry⟩
theorem KV.keys{kvs:List (κ×V)}{vs:List (κ×Value)}(r:KV kvs vs):kvs.map (·.1)=vs.map (·.1):=by
 unfold KV at r
 induction r with
 | nil=>rfl
 | cons h t ih=>rw[List.map_cons,List.map_cons,ih,h.1]
theorem KV.length{kvs:List (κ×V)}{vs:List (κ×Value)}(r:KV kvs vs):kvs.length=vs.length:=Paired.length r
end
theorem d5f{P:Program}{w:World}{k:Key}{u:Value}(r:RelV (kV k) u):(a0v P w).is k u=true:=by
 cases k with
 | inl i=>obtain⟨t,e⟩:=(show ∃t,u=Value.int i t from r);subst e;exact c9l P w i t
 | inr x=>obtain⟨t,e⟩:=(show ∃t,u=Value.str x t from r);subst e;exact c9k P w x t
theorem c7g{P:Program}{w:World}:∀{ks:List Key}{us:List Value},Vals (ks.map kV) us->ItemsAre (a0v P w) ks us
 | [],_,r=>by rw[List.map_nil] at r;cases r;exact .nil
 | k::ks,_,r=>by
  rw[List.map_cons] at r;cases r with
  | cons h t=>exact .cons (d5f h) (c7g t)
abbrev KT(H:Hp):List (List Key×V)->List (List Key×Addr×Value)->Prop:=Paired λp q=>p.1=q.1/\H q.2.1=some (.tup (p.1.map kV))/\RelV p.2 q.2.2
theorem KT.val{H:Hp}{kvs:List (List Key×V)}{xs:List (List Key×Addr×Value)}(r:KT H kvs xs)(k:List Key):RelO (c7z kvs k) ((atKey xs k).map (·.2)):=by
 induction r with
 | nil=>exact True.intro
 | @cons p q ps qs h t ih=>
  obtain⟨h1,_,h2⟩:=h;by_cases e:p.1=k
  ·have e':q.1=k:=h1.symm.trans e
   have b:atKey (q::qs) k=some q.2:=by simp[atKey,List.find?_cons,e']
   rw[c1l e,b];exact h2
  ·have e':¬ q.1=k:=λz=>e (h1.trans z)
   have b:atKey (q::qs) k=atKey qs k:=by simp[atKey,List.find?_cons,e']
   rw[c1m e,b];exact ih
theorem KT.repl{H:Hp}{kvs:List (List Key×V)}{xs:List (List Key×Addr×Value)}(r:KT H kvs xs)(k:List Key){y:V}{u:Value}(ry:RelV y u):
  KT H (kvs.map λkv=>if kv.1=k then (kv.1,y) else kv) (xs.map (putAt k u)):=by
 induction r with
 | nil=>exact .nil
 | @cons p q ps qs h t ih=>
  rw[List.map_cons,List.map_cons];refine .cons ?_ ih;obtain⟨h1,h2,h3⟩:=h;unfold putAt;by_cases e:p.1=k
  ·rw[if_pos e,if_pos (h1.symm.trans e)];exact⟨h1,h2,ry⟩
  ·rw[if_neg e,if_neg (λz=>e (h1.trans z))];exact⟨h1,h2,h3⟩
theorem KT.put{H:Hp}{kvs:List (List Key×V)}{xs:List (List Key×Addr×Value)}(r:KT H kvs xs)(k:List Key){b:Addr}{y:V}{u:Value}(hb:H b=some (.tup (k.map kV)))(ry:RelV y u):
  KT H (c2w kvs k y) (storedH xs k b u):=by
 have e:(kvs.any λkv=>decide (kv.1=k))=(atKey xs k).isSome:=by
  rw[b7o,(r.val k).isSome_eq,Option.isSome_map]
 unfold c2w storedH;rw[e];by_cases q:(atKey xs k).isSome=true
 ·rw[if_pos q,if_pos q];exact r.repl k ry
 ·rw[if_neg q,if_neg q];exact Paired.snoc r ⟨rfl,hb,ry⟩
theorem KT.keeps{H H':Hp}{kvs:List (List Key×V)}{xs:List (List Key×Addr×Value)}(r:KT H kvs xs)(ht:∀b ys,H b=some (.tup ys)->H' b=some (.tup ys)):KT H' kvs xs :=
 Paired.mapP r λ_ _ z=>⟨z.1,ht _ _ z.2.1,z.2.2⟩
section
variable{P:Program}{w:World}{H:Hp}{h:Heap}{a:Addr}
theorem e3q{u:HO}(ok:HOk P w H h)(e:Rd H a u):ObjOk P w H h a u:=e.ok ok
theorem d9c{kvs:List (Key×V)}(ok:HOk P w H h)(e:Rd H a (.dK kvs)):kvs.length<=sizeLine/\(a == sysModules)=false/\∃vs,KV kvs vs/\h.DictOf (a0v P w) a vs :=
 show ObjOk P w H h a (.dK kvs) from e3q ok e
theorem e2i{kvs:List (Key×V)}(ok:HOk P w H h)(e:H a=some (.dK kvs)):kvs.length<=sizeLine/\(a == sysModules)=false/\∃vs,KV kvs vs/\h.DictOf (a0v P w) a vs:=d9c ok (.inl e)
theorem d1b{ks:List Key}(ok:HOk P w H h)(e:H a=some (.tup (ks.map kV))):(tupleKind (a0v P w)).is h ks a:=by
 obtain⟨_,its,r,o,h1,h2,n,h3⟩:=(show ObjOk P w H h a (.tup (ks.map kV)) from ok a _ e);exact⟨o,its.toArray,n,h1,h2,h3,by simpa using c7g r⟩
theorem d9b{kvs:List (List Key×V)}(ok:HOk P w H h)(e:Rd H a (.dT kvs)):kvs.length<=sizeLine/\(a == sysModules)=false /\
  ∃xs,KT H kvs xs/\h.DictOfH (tupleKind (a0v P w)) a xs:=by
 obtain⟨z,y,xs,r,o,es,ep,h1,h2,h3,h4,h5⟩:=(show ObjOk P w H h a (.dT kvs) from e3q ok e);refine⟨z,y,xs,r,o,es,ep,h1,h2,h3,h4,λx hx=>?_,h5⟩;have all:∀{l:List (List Key×V)}{m:List (List Key×Addr×Value)},KT H l m->∀x∈m,(tupleKind (a0v P w)).is h x.1 x.2.1:=by
  intro l m q
  induction q with
  | nil=>intro x hx;exact nomatch hx
  | @cons p q ps qs hq t ih=>
   intro x hx;rcases List.mem_cons.mp hx with e|hx
   ·subst e
    exact d1b ok (by rw[<- hq.1];exact hq.2.1)
   ·exact ih x hx
 exact all r x hx
theorem e7x{kvs:List (List Key×V)}(ok:HOk P w H h)(e:H a=some (.dT kvs)):kvs.length<=sizeLine/\(a == sysModules)=false /\
  ∃xs,KT H kvs xs/\h.DictOfH (tupleKind (a0v P w)) a xs:=d9b ok (.inl e)
end
def DGet(H:Hp)(a:Addr)(y:V)(r:Option V):Prop :=
 (∃kvs k,Rd H a (.dK kvs)/\y=kV k/\r=c7z kvs k) \/ ∃kvs k b,Rd H a (.dT kvs)/\y=.ref b/\H b=some (.tup (k.map kV))/\r=c7z kvs k
def DPut(H:Hp)(a:Addr)(y v:V)(H':Hp):Prop :=
 (∃kvs k,H a=some (.dK kvs)/\y=kV k/\kvs.length<sizeLine/\H'=upd H a (.dK (c2w kvs k v))) \/
 ∃kvs k b,H a=some (.dT kvs)/\y=.ref b/\H b=some (.tup (k.map kV))/\kvs.length<sizeLine/\H'=upd H a (.dT (c2w kvs k v))
theorem DGet.k{H:Hp}{a:Addr}{kvs:List (Key×V)}{k:Key}(e:H a=some (.dK kvs)):DGet H a (kV k) (c7z kvs k):=.inl ⟨kvs,k,.inl e,rfl,rfl⟩
theorem DPut.k{H:Hp}{a:Addr}{kvs:List (Key×V)}{k:Key}{v:V}(e:H a=some (.dK kvs))(hl:kvs.length<sizeLine):DPut H a (kV k) v (upd H a (.dK (c2w kvs k v))):=.inl ⟨kvs,k,e,rfl,hl,rfl⟩
section
variable{X:Cx}{qa:List (Addr×Obj)}{σ:St}{H:Hp}{s:Shared}{a:Addr}{y v:V}{u r:Value}{o:Option V}{A:Around}{E:Value->Shared->Prop}
theorem Inv.big(I:Inv X qa σ H s):sysModules<s.heap.objs.size:=by
 have h:mainGlobals<s.heap.objs.size:=(I.mod.glob.keeps I.bk).lt;exact Nat.lt_trans ↑6 h
theorem d6e{Q:Value->Shared->Prop}(hu:A.units+1<cLine)(I:Inv X qa σ H s)(g:DGet H a y (some v))(ry:RelV y u)(h:∀w' s',Inv X qa σ H s'->RelV v w'->Q w' s'):
  wpAny (model X.prog X.w) A (getItem (.ref a) u) Q E s:=by
 rcases g with ⟨kvs,k,e,ey,l⟩|⟨kvs,k,b,e,ey,eb,l⟩
 ·subst ey
  obtain⟨z,hd,vs,rel,dd⟩:=d9c I.hok e;obtain⟨w',hw,rw'⟩:=RelO.some_of (v:=v) (o:=valueAt vs k) (by rw[l];exact rel.val k)
  exact wpAny_getItem_of (d5f ry) dd.mapOf hw (h w' _ (I.tok _) rw')
 ·subst ey
  cases (show u=Value.ref b from ry);obtain⟨z,hd,xs,rel,dd⟩:=d9b I.hok e;obtain⟨w',hw,rw'⟩:=RelO.some_of (v:=v) (o:=(atKey xs k).map (·.2)) (by rw[l];exact rel.val k)
  obtain⟨p,hp,hp2⟩:=Option.map_eq_some_iff.mp hw;refine wpAny_getItem_heap (tupleKind_room_in1 hu) (d1b I.hok eb) dd hp ?_;rw[hp2];exact h w' _ (I.tok _) rw'
theorem e2j{Q:Value->Shared->Prop}(hu:A.units+1<cLine)(I:Inv X qa σ H s)(g:DGet H a y o)(ry:RelV y u)(h:∀s',Inv X qa σ H s'->Q (.bool (!o.isSome)) s'):
  wpAny (model X.prog X.w) A (compareOp .NotIn u (.ref a)) Q E s:=by
 rcases g with ⟨kvs,k,e,ey,l⟩|⟨kvs,k,b,e,ey,eb,l⟩
 ·subst ey
  obtain⟨z,hd,vs,rel,dd⟩:=d9c I.hok e;refine wpAny_notIn_of (d5f ry) hd dd.mapOf ?_;rw[<- (rel.val k).isSome_eq,<- l];exact h _ (I.tok _)
 ·subst ey
  cases (show u=Value.ref b from ry);obtain⟨z,hd,xs,rel,dd⟩:=d9b I.hok e;refine wpAny_notIn_heap (tupleKind_room_in1 hu) (d1b I.hok eb) hd dd ?_;have q:=(rel.val k).isSome_eq;rw[Option.isSome_map] at q;rw[<- q,<- l];exact h _ (I.tok _)
theorem c9s{h':Heap}{t':Nat}{ob:HO}(I:Inv X qa σ H s)(mu:Mut (H a))(hs:Heap.SameBut a s.heap h')(he:∃q,h'.get? a=some q)(new:ObjOk X.prog X.w (upd H a ob) h' a ob):
  Inv X qa σ (upd H a ob) { s with heap:=h',toks:=t' } :=
 I.write (x:=a) (e:=a) mu (.inl rfl) (λb q hb z=>(hs.2 b hb).trans z) he new
theorem d9v{P:Program}{w:World}{H':Hp}{h':Heap}{kvs:List (Key×V)}{vs:List (Key×Value)}(z:kvs.length<=sizeLine)(hd:(a == sysModules)=false)(rel:KV kvs vs)(dd:h'.DictOf (a0v P w) a vs):
  ObjOk P w H' h' a (.dK kvs):=⟨z,hd,vs,rel,dd⟩
theorem d6d{H':Hp}{Q:Unit->Shared->Prop}(hu:A.units+1<cLine)(I:Inv X qa σ H s)(g:DPut H a y v H')(ry:RelV y u)(rv:RelV v r)(h:∀s',Inv X qa σ H' s'->Q () s'):
  wpAny (model X.prog X.w) A (setItem (.ref a) u r) Q E s:=by
 rcases g with ⟨kvs,k,e,ey,l,eH⟩|⟨kvs,k,b,e,ey,eb,l,eH⟩
 ·subst ey eH
  obtain⟨z,hd,vs,rel,dd⟩:=e2i I.hok e;have hz:vs.length<=sizeLine:=by rw[<- rel.length];exact z
  have hl:(c2w kvs k v).length<=sizeLine:=by have:=b3f kvs k v;lia
  refine wpAny_setItem_pairs (hsz:=hz) (d5f ry) dd λh' dd' hs=>h _ ?_;have he:∃q,h'.get? a=some q:=let ⟨q,_,_,hq,_⟩:=dd';⟨q,hq⟩
  exact c9s I (by rw[e];exact True.intro) hs he (d9v hl hd (rel.put k rv) dd')
 ·subst ey eH
  cases (show u=Value.ref b from ry);obtain⟨z,hd,xs,rel,dd⟩:=e7x I.hok e;have hz:xs.length<=sizeLine:=by rw[<- Paired.length rel];exact z
  have hl:(c2w kvs k v).length<=sizeLine:=by have:=b3f kvs k v;lia
  refine wpAny_setItem_heap (hsz:=hz) (tupleKind_room_in1 hu) (d1b I.hok eb) dd λh' dd' hs=>h _ ?_;obtain⟨q,es,ep,hq,h2,h3,h4,_,h5⟩:=dd';refine c9s I (by rw[e];exact True.intro) hs ⟨q,hq⟩ ⟨hl,hd,_,(rel.put k eb rv).keeps λc ys ec=>?_,q,es,ep,hq,h2,h3,h4,h5⟩
  rw[c7 (a7b ec e (λz=>nomatch z))];exact ec
end
def e9a(i:Expr):Prop:=∀ov iv,subscripted i false ov iv=operate [ov,iv] (getItem ov iv)
theorem e0q{prog:Program}{w:World}{A:Around}{E:Value->Shared->Prop}{s:Shared}{env:Env}{value slice:Expr}{pos:Pos}{T id:String}{Q:Value->Shared->Prop}(hl:typeLookup (.type T) "__getitem__" = pure (some (.builtin id)))(hs:e9a slice)(h:wpAny (model prog w) A (eval value env) (λo s₁=>wpAny (model prog w) A (eval slice env) (λi s₂=>s₂.TypeIs o T/\wpAny (model prog w) A (getItem o i) Q E s₂) E s₁) E s):
  wpAny (model prog w) A (eval (.Subscript value slice pos) env) Q E s:=by
 refine Subscript_ (wpAny_mono h (λo s₁ h₁=>wpAny_mono h₁ (λi s₂ h₂=>?_) λ_ _ x=>x) λ_ _ x=>x);obtain⟨hT,h₂⟩:=h₂;unfold subscriptTail;refine wpAny_bind ?_;rw[getitemInPython_of_ne hT.not_modules];refine wpAny_bind (wpAny_specialOf hT hl ?_);have fin:wpAny (model prog w) A (subscripted slice false o i) (λr s₃=>wpAny (model prog w) A (letTemporaryGo value o r >>= λ_=>pure r) Q E s₃) E s₂:=by
  rw[hs o i];exact wpAny_operating (wpAny_mono h₂ (λr s₃ h₃=>wpAny_bind (wpAny_letTemporaryGo (wpAny_pure h₃))) λ_ _ x=>x)
 first
  | exact wpAny_pure (wpAny_bind fin)
  | exact wpAny_bind (wpAny_pure (wpAny_bind fin))
  | exact wpAny_bind fin
theorem c9r{X:Cx}{qa:List (Addr×Obj)}{σ:St}{H:Hp}{s:Shared}{a:Addr}{y:V}{o:Option V}(I:Inv X qa σ H s)(g:DGet H a y o):s.TypeIs (.ref a) "dict":=by
 rcases g with ⟨kvs,k,e,_,_⟩|⟨kvs,k,b,e,_,_,_⟩
 ·obtain⟨_,_,vs,_,dd⟩:=d9c I.hok e
  exact dd.typeIs
 ·obtain⟨_,_,xs,_,dd⟩:=d9b I.hok e
  exact dd.typeIs
def e3i(td ty:TE):TE:=λσ H Q=>td σ H λx H1=>ty σ H1 λy H2=>∃a v,x=.ref a/\DGet H2 a y (some v)/\Q v H2
def e0o(ty td:TE):TE:=λσ H Q=>ty σ H λy H1=>td σ H1 λx H2=>∃a o,x=.ref a/\DGet H2 a y o/\Q (.bl (!o.isSome)) H2
def e3o(td ty tv:TE):TS:=λD σ H=>tv σ H λv H1=>td σ H1 λx H2=>ty σ H2 λy H3=>∃a H4,x=.ref a/\DPut H3 a y v H4/\D.nx σ H4
section
variable{X:Cx}{o i e value:Expr}{pos pos' tpos:Pos}{td ty tv:TE}
theorem a0u(hu:X.A.units+1<cLine)(ho:PE X o td)(hi:PE X i ty)(hs:e9a i):PE X (.Subscript o i pos) (e3i td ty):=by
 intro qa s σ H Q I h;refine e0q PySem.F.slot_dict_getitem.lookup hs (thn (ho qa s σ H _ I h) λu s1 z0_=>?_);obtain⟨x,H1,I1,rx,q1⟩:=z0_;refine thn (hi qa s1 σ H1 _ I1 q1) λiv s2 z1_=>?_;obtain⟨y,H2,I2,ry,a,v,ex,g,q2⟩:=z1_;subst ex;obtain rfl:u=Value.ref a:=rx;exact⟨c9r I2 g,d6e hu I2 g ry λw' s3 I3 rw'=>⟨v,H2,I3,rw',q2⟩⟩
theorem d4q(hu:X.A.units+1<cLine)(hi:PE X i ty)(ho:PE X o td):PC X .NotIn i o (e0o ty td):=by
 intro qa s σ H Q I h;refine thn (hi qa s σ H _ I h) λiv s1 z0_=>?_;obtain⟨y,H1,I1,ry,q1⟩:=z0_;refine thn (ho qa s1 σ H1 _ I1 q1) λu s2 z1_=>?_;obtain⟨x,H2,I2,rx,a,ov,ex,g,q2⟩:=z1_;subst ex;obtain rfl:u=Value.ref a:=rx;exact e2j hu I2 g ry λs3 I3=>⟨.bl (!ov.isSome),H2,I3,rfl,q2⟩
theorem c8t(hu:X.A.units+1<cLine)(ho:PE X o td)(hi:PE X i ty)(hv:PE X value tv)(hs:swapsWith value (some (.Subscript o i pos')) pos.line X.env=pure false):
  PS X (.Assign [.Subscript o i pos'] value pos) (e3o td ty tv):=by
 intro qa s σ H D I h;refine wpAny_Assign_Subscript (thn (hv qa s σ H _ I h) λr s1 z0_=>?_) hs;obtain⟨v,H1,I1,rv,q1⟩:=z0_;refine thn (ho qa s1 σ H1 _ I1 q1) λu s2 z1_=>?_;obtain⟨x,H2,I2,rx,q2⟩:=z1_;refine thn (hi qa s2 σ H2 _ I2 q2) λiv s3 z2_=>?_;obtain⟨y,H3,I3,ry,a,H4,ex,g,q3⟩:=z2_;subst ex;obtain rfl:u=Value.ref a:=rx;exact d6d hu I3 g ry rv λs4 I4=>⟨σ,H4,I4,q3⟩
end
theorem d1m{P:Program}{w:World}{H:Hp}(h:Heap)(hb:sysModules<h.objs.size):ObjOk P w H (h.push { cls:=.type "dict",data:=.dict #[] }) h.objs.size (.dK []) :=
 ⟨Nat.zero_le _,beq_eq_false_iff_ne.mpr (Ne.symm (Nat.ne_of_lt hb)),[],.nil,Heap.DictOf.new h⟩
def e3h:TE:=λ_ H Q=>∀p,H p=none->Q (.ref p) (upd H p (.dK []))
section
variable{X:Cx}{pos:Pos}
theorem d7w:PE X (.Dict [] [] pos) e3h:=λqa s σ H Q I h=>
 wpAny_Dict_empty ⟨.ref s.heap.objs.size,_,I.laid (a:=s.heap.objs.size) (o:=.dK []) (t':=s.toks) (λ_ _ q=>Heap.get?_push_of_some _ q) (Nat.le_refl _) (d1m s.heap I.big),rfl,h _ (I.hok.fresh (Nat.le_refl _))⟩
end
def b7z:List (TE×TE)->St->Hp->(List (V×V)->Hp->Prop)->Prop
 | [],_,H,Q=>Q [] H
 | (tk,tv)::r,σ,H,Q=>tk σ H λx H1=>tv σ H1 λy H2=>b7z r σ H2 λps H3=>Q ((x,y)::ps) H3
abbrev VV:List (V×V)->List (Value×Value)->Prop:=Paired λp q=>RelV p.1 q.1/\RelV p.2 q.2
def PPs(X:Cx)(pos:Pos)(keys:List (Option Expr))(values:List Expr)(trs:List (TE×TE)):Prop :=
 ∀(qa:List (Addr×Obj))(s:Shared)(σ:St)(H:Hp)(Q:List (V×V)->Hp->Prop),Inv X qa σ H s->b7z trs σ H Q ->
  wpAny (model X.prog X.w) X.A (evalPairs (pairTrees keys values X.env pos)) (λvs s'=>∃ps H',Inv X qa σ H' s'/\VV ps vs/\Q ps H') X.xe s
theorem e0x{X:Cx}{pos:Pos}:PPs X pos [] [] []:=λqa s σ H Q I h=>pairTrees_nil_walk ⟨[],H,I,.nil,h⟩
theorem b0i{X:Cx}{pos:Pos}{k v:Expr}{ks:List (Option Expr)}{vs:List Expr}{tk tv:TE}{trs:List (TE×TE)}(hk:PE X k tk)(hv:PE X v tv)(hr:PPs X pos ks vs trs):
  PPs X pos (some k::ks) (v::vs) ((tk,tv)::trs):=λqa s σ H Q I h=>
 pairTrees_cons_walk (thn (hk qa s σ H _ I h) λu s1 ⟨x,H1,I1,rx,q1⟩=>thn (hv qa s1 σ H1 _ I1 q1) λw2 s2 ⟨y,H2,I2,ry,q2⟩=>
  thn (hr qa s2 σ H2 _ I2 q2) λws s3 z0_=>by obtain⟨ps,H3,I3,rel,q3⟩:=z0_;exact⟨(x,y)::ps,H3,I3,.cons ⟨rx,ry⟩ rel,q3⟩)
def c1b(kvs more:List (Key×V)):List (Key×V):=more.foldl (λacc kv=>c2w acc kv.1 kv.2) kvs
theorem KV.merge:∀{more:List (Key×V)}{rs:List (Key×Value)}{kvs:List (Key×V)}{vs:List (Key×Value)},KV more rs->KV kvs vs->KV (c1b kvs more) (merged vs rs):=by
 intro more rs kvs vs r;unfold KV at r
 induction r generalizing kvs vs with
 | nil=>intro q;exact q
 | @cons p q ps qs h t ih=>
  intro r0;have e:KV (c2w kvs p.1 p.2) (stored vs q.1 q.2):=by
   have:=r0.put p.1 h.2;rw[<- h.1];exact this
  exact ih e
theorem b4z:∀(more kvs:List (Key×V)),(c1b kvs more).length<=kvs.length+more.length
 | [],kvs=>by show kvs.length<=kvs.length+0;lia
 | p::r,kvs=>by
  have h1:=b4z r (c2w kvs p.1 p.2);have h2:=b3f kvs p.1 p.2;show(c1b (c2w kvs p.1 p.2) r).length<=_;rw[List.length_cons];lia
theorem c1h{P:Program}{w:World}:∀{kvs:List (Key×V)}{ws:List (Value×Value)},VV (kvs.map λkv=>(kV kv.1,kv.2)) ws->∃rs,Carries (a0v P w) ws rs/\KV kvs rs
 | [],_,r=>by rw[List.map_nil] at r;cases r;exact⟨[],True.intro,.nil⟩
 | p::kvs,_,r=>by
  rw[List.map_cons] at r;cases r with
  | @cons a b as bs h t=>
   obtain⟨rs,c,q⟩:=c1h (P:=P) (w:=w) t;obtain⟨b1,b2⟩:=b;exact⟨(p.1,b2)::rs,⟨d5f h.1,rfl,c⟩,.cons ⟨rfl,h.2⟩ q⟩
def e3g(trs:List (TE×TE)):TE:=λσ H Q=>∀p,H p=none->b7z trs σ (upd H p (.dK [])) λps H2=>H2 p=some (.dK [])/\∃kvs:List (Key×V),ps=kvs.map (λkv=>(kV kv.1,kv.2))/\kvs.length<=15/\Q (.ref p) (upd H2 p (.dK (c1b [] kvs)))
theorem e1d{X:Cx}{pos:Pos}{keys:List (Option Expr)}{values:List Expr}{trs:List (TE×TE)}(h:PPs X pos keys values trs)(hall:keys.all (·.isSome)=true)(hl:keys.length=values.length)(h0:keys≠[])(h15:keys.length<=15):PE X (.Dict keys values pos) (e3g trs):=by
 intro qa s σ H Q I q;have hn:=I.hok.fresh (Nat.le_refl s.heap.objs.size);have I1:=I.laid (a:=s.heap.objs.size) (o:=.dK []) (h':=s.heap.push { cls:=.type "dict",data:=.dict #[] }) (t':=s.toks) (λ_ _ q=>Heap.get?_push_of_some _ q) (Nat.le_refl _) (d1m s.heap I.big);refine wpAny_Dict_walk (knd:=a0v X.prog X.w) hall hl h0 h15 (thn (h qa _ σ _ _ I1 (q _ hn)) λws s2 z0_=>?_);obtain⟨ps,H2,I2,rel,e,kvs,ep,lk,q2⟩:=z0_;subst ep;obtain⟨rs,c,rk⟩:=c1h (P:=X.prog) (w:=X.w) rel;obtain⟨z,hd,vs0,r0,dd⟩:=e2i I2.hok e;cases r0;refine⟨rs,c,dd,λh' dd' hs=>⟨.ref s.heap.objs.size,_,?_,rfl,q2⟩⟩;have hz:(c1b [] kvs).length<=sizeLine:=by
  have h1:=b4z kvs [];rw[List.length_nil] at h1;rw[sizeLine_eq];lia
 have he:∃q,h'.get? s.heap.objs.size=some q:=let ⟨q,_,_,hq,_⟩:=dd';⟨q,hq⟩
 exact c9s I2 (by rw[e];exact True.intro) hs he (d9v hz hd (rk.merge .nil) dd')
section
variable{X:Cx}{k j:Nat}{ps:List Str}{sp:Sp}{E:XK}{x:Str}{p pos:Pos}
theorem d0q(G:FnT X.prog X.w X.K X.mg X.qb x k ps sp)(hr:Room j X.A)(hj:k<=j)(hg:Gl X x)(hx:a3h (CXK X.prog X.w) X E)(hdb:(x == ("__debug__":Str))=false:=by decide):PE X (.Call (.Name x p) [] [] pos) (tFn sp E d9i):=by
 obtain⟨f,fd,F,hm,hk,hb⟩:=G.ex;exact d7x (ds:=[]) (dvs:=[]) F (hr.mono hj) hg hm hk hb .nil hx hdb
end
section
variable{K:Frag}{σ:St}{H:Hp}{Q:VK}{td ty tv:TE}{nx bk ct:St->Hp->Prop}{rt:VK}
theorem a3f(q:td σ H λx H1=>ty σ H1 λy H2=>∃a v,x=.ref a/\DGet H2 a y (some v)/\Q v H2):e3i td ty σ H Q:=q
theorem d5r(q:tv σ H λv H1=>td σ H1 λx H2=>ty σ H2 λy H3=>∃a H4,x=.ref a/\DPut H3 a y v H4/\nx σ H4):e3o td ty tv ⟨nx,rt,bk,ct⟩ σ H:=q
theorem e5n{trs:List (TE×TE)}(q:∀p,H p=none->b7z trs σ (upd H p (.dK [])) λps H2=>H2 p=some (.dK [])/\∃kvs:List (Key×V),ps=kvs.map (λkv=>(kV kv.1,kv.2))/\kvs.length<=15/\Q (.ref p) (upd H2 p (.dK (c1b [] kvs)))):e3g trs σ H Q:=q
theorem d8w{wi:TI}{nt:Nat}{fr:List Nat}{g:TG}{tt:TT}{te:TE}(q:wi σ H λJ H1=>∀D,H1 D=none->∃(n:Nat) (W:Nat->List V->Hp->Prop),W 0 [] (upd H1 D (.lst [])) /\
 ∀i acc H,W i acc H->H D=some (.lst acc)/\acc.length<sizeLine /\
  ((J.stop i H/\Q (.ref D) H)\/(i<n/\J.go i H/\∀x H',J.yld i H x H'->g x (a1h nt fr σ) H' λσ2 H2=>tt σ2 H2 λc H3=>if c=true then (te σ2 H3 λy H4=>H4 D=some (.lst acc)/\W (i+1) (acc++[y]) (upd H4 D (.lst (acc++[y])))) else W (i+1) acc H3))):b8a wi nt fr g tt te σ H Q:=q
end
section
variable{X:Cx}
theorem e0y{K:Frag}{tg l:Expr}{tl:TE}(hl:PE X l tl)(h:X.K=K:=by rfl):PI X tg l (e7b K tl):=h ▸ e3y hl
end
section
variable{K:Frag}{σ:St}{H:Hp}{ta:TE}{t:TA}
theorem d9p{R:It->Hp->Prop}(q:ta σ H λx H1=>∃a,x=.ref a/\(∃xs,SqT K H1 a xs)/\R (Itt K a) H1):e7b K ta σ H R:=q
theorem d5q{tn:TA}{Q:VK}(q:ta σ H λx H1=>tn σ H1 λvs H2=>∃i n:Int,x=.int i/\vs=[.int n]/\Q (.bl (decide (0<=i/\i<n))) H2):d9j ta tn σ H Q:=q
end
theorem b5a{prog:Program}{w:World}{A:Around}{E:Value->Shared->Prop}{s:Shared}{r:Addr}{a b c i:Int}{t u v ti:Tok}{Q:Value->Shared->Prop}(hr:IsRange s.heap r a b c t u v)(h:Q (.bool (!(Builtin.Range.rangePlace? a b c i).isSome)) s):wpAny (model prog w) A (compareOp .NotIn (.int i ti) (.ref r)) Q E s:=by
 have hT:s.TypeIs (.ref r) "range":=⟨_,hr,rfl⟩;show wpAny _ _ (do return .bool (!(<- contains (.ref r) (.int i ti)))) Q E s
 refine wpAny_bind ?_;unfold contains
 try with_reducible refine wpAny_holding ?_
 refine wpAny_bind (wpAny_specialOf hT F.slot_range_contains.lookup ?_);show wpAny _ _ (if (some (Value.builtin "range.__contains__") == some Value.none)=true then _ else _) _ E s;rw[if_neg (by rw[beq_builtin_none];exact Bool.false_ne_true)]
 refine wpAny_bind (wpAny_callSpecialUnlessNone?_slot (name:=Str.ofString "__contains__") hT F.slot_range_contains
  (call_meets F.slot_range_contains hT F.entry_range_contains (F.args_range_contains_2 _ _) (b1f r a b c i t u v ti) ⟨hr,?_⟩))
 exact wpAny_truthy_bool (wpAny_pure h)
def c4v(ta:TE)(tn:TA):TE:=λσ H Q=>ta σ H λx H1=>tn σ H1 λvs H2=>∃i n:Int,x=.int i/\vs=[.int n]/\Q (.bl (!decide (0<=i/\i<n))) H2
theorem d3e{σ:St}{H:Hp}{ta:TE}{tn:TA}{Q:VK}(q:ta σ H λx H1=>tn σ H1 λvs H2=>∃i n:Int,x=.int i/\vs=[.int n]/\Q (.bl (!decide (0<=i/\i<n))) H2):c4v ta tn σ H Q:=q
theorem d1e{i n:Int}{R:Int->Int->Prop}(q:R i n):∃i' n':Int,V.int i=.int i'/\[V.int n]=[.int n']/\R i' n':=⟨i,n,rfl,rfl,q⟩
theorem c8r{X:Cx}{a e:Expr}{ta:TE}{tn:TA}{p cp pos:Pos}(hg:Gl X "range")(hm:X.mg "range" = none)(ha:PE X a ta)(he:PA X [e] tn)(hb:behindInMarks .NotIn (.Call (.Name "range" p) [e] [] cp)=false:=by rfl)(hs:starEach [e] X.env=[(false,eval e X.env)]:=by rfl):
  PT X (.Compare a [.NotIn] [.Call (.Name "range" p) [e] [] cp] pos) (d7l (c4v ta tn)):=by
 intro qa s σ H Q I h;refine wpAny_isTrue_Compare1 (thn (ha qa s σ H _ I h) λiv s1 z0_=>?_) hb;obtain⟨x,H1,I1,rx,q1⟩:=z0_;refine Call_ (b9l I1 hg hm boot_range (PyProof.Rows.callWith_type1 (thn (he cp qa s1 σ H1 _ I1 q1) λus s2 z0_=>?_) hs rfl));obtain⟨vs,H2,I2,r2,q2⟩:=z0_;obtain⟨i,n,ex,ev,k,ek,q⟩:=q2;subst ex;subst ev;obtain⟨ti,rfl⟩:=rx;cases r2 with
 | cons r rr=>
  cases rr;obtain⟨t,rfl⟩:=r;refine call_range_1 (b5a (IsRange.new ..) ?_);rw[c5w];cases ek;exact wpAny_truthy_bool ⟨H2,I2.kept (λb o e=>Heap.get?_push_of_some _ e),q⟩
section
variable{K:Frag}{σ:St}{H:Hp}
theorem e7g{r:V->Option Int->Option Int->Hp->VK->Prop}{te:TE}{tl th:TO}{Q:VK}(q:te σ H λx H1=>tl σ H1 λl H2=>th σ H2 λu H3=>r x l u H3 Q):tSl r te tl th σ H Q:=q
theorem c4h{Q:Option Int->Hp->Prop}(q:Q none H):d3s σ H Q:=q
theorem d5p{te:TE}{Q:Option Int->Hp->Prop}(q:te σ H λx H1=>∃i,x=.int i/\Q (some i) H1):e3b te σ H Q:=q
end
def Hid(n m:St->Hp->Prop):Prop:=n=m
def e8c(m:St->Hp->Prop)(F:(St->Hp->Prop)->Prop):Prop:=∀N,Hid N m->F N
section
variable{nx bk ct:St->Hp->Prop}{rt:VK}{σ:St}{H:Hp}
theorem e4y{s u:TS}(q:∀n',Hid n' (u ⟨nx,rt,bk,ct⟩)->s ⟨n',rt,bk,ct⟩ σ H):e3a s u ⟨nx,rt,bk,ct⟩ σ H:=q _ rfl
theorem e2c{n' m:St->Hp->Prop}(h:Hid n' m)(q:m σ H):n' σ H:=by
 unfold Hid at h;rw[h];exact q
theorem e5k{m:St->Hp->Prop}{F:(St->Hp->Prop)->Prop}(q:∀N,Hid N m->F N):e8c m F:=q
theorem b6k{lo:Int}{n:Nat}{g:TG}{tb:TS}(Pv:Nat->St->Hp->Prop)(h0:Pv 0 σ H)(hs:∀i σ H,i<n->Pv i σ H->e8c (Pv (i+1)) λN=>g (.int (lo+i)) σ H λσ2 H2=>tb ⟨N,rt,nx,N⟩ σ2 H2)(hd:∀σ H,Pv n σ H->nx σ H):
  ∃W:Nat->Nat->St->Hp->Prop,(∃m,W 0 m σ H)/\∀i m σ H,W i m σ H->((Itr lo n).stop i H/\nx σ H)\/((Itr lo n).go i H/\∃N:St->Hp->Prop,(∀σ' H',N σ' H'->∃m',m'<m/\W (i+1) m' σ' H')/\∀x H',(Itr lo n).yld i H x H'->g x σ H' λσ2 H2=>tb ⟨N,rt,nx,N⟩ σ2 H2) :=
 d5t (D:=⟨nx,rt,λ_ _=>False,λ_ _=>False⟩) Pv h0 (λi σ H hi p=>hs i σ H hi p _ rfl) hd
end
end L2
namespace L2
open PySem
def e2t:HO->Option Addr
 | .ins _ dx _=>some dx
 | .frz _ u=>e2t u
 | _=>none
structure Sub(H1 H:Hp):Prop where
 le:∀a o,H1 a=some o->H a=some o
 own:∀a o b,H a=some o->e2t o=some b->H b=some (.own a)->(H1 a=none ↔ H1 b=none)
 tup:∀b xs,H b=some (.tup xs)->H1 b=some (.tup xs)
 frz:∀b o u,H b=some (.frz o u)->H1 b=some (.frz o u)
 tbl:∀b ps,H b=some (.tbl ps)->H1 b=some (.tbl ps)
def jn(H1' H1 H:Hp):Hp:=λa=>match H1 a,H1' a with
 | none,none=>H a
 | _,o=>o
structure Out(H1' H1 H:Hp):Prop where
 fr:∀b o,H b=some o->H1 b=none->H1' b=none
 tup:∀b xs,H b=some (.tup xs)->H1' b=some (.tup xs)
 frz:∀b o u,H b=some (.frz o u)->H1' b=some (.frz o u)
def frS(sp:Sp):Sp:=λvs H Q _=>∃H1,Sub H1 H/\sp vs H1 (λv H1'=>Out H1' H1 H->Q v (jn H1' H1 H)) (λ_ _ _=>False)
section
variable{P:Program}{w:World}{K:Frag}{mg:Str->Option Value}{qb:Heap}{H H1 H1':Hp}{h h':Heap}
theorem a0p{a:Addr}{o:HO}(e:H1' a=some o):jn H1' H1 H a=some o:=by
 unfold jn;rw[e];cases H1 a <;> rfl
theorem c4e{a:Addr}(e:H1 a=none)(e':H1' a=none):jn H1' H1 H a=H a:=by
 unfold jn;rw[e,e']
theorem e1m{a:Addr}{o:HO}(e:H1 a=some o)(e':H1' a=none):jn H1' H1 H a=none:=by
 unfold jn;rw[e,e']
theorem ObjOk.at_{a:Addr}{o:HO}(x:ObjOk P w H h a o):∃ob,h.get? a=some ob:=by
 cases o with
 | lst xs=>obtain⟨_,_,_,_,e⟩:=x;exact⟨_,e⟩
 | tup xs=>obtain⟨_,_,_,_,e,_⟩:=x;exact⟨_,e⟩
 | dK kvs=>obtain⟨_,_,_,_,o,_,_,e,_⟩:=x;exact⟨_,e⟩
 | dT kvs=>obtain⟨_,_,_,_,o,_,_,e,_⟩:=x;exact⟨_,e⟩
 | set S n=>obtain⟨o,_,_,_,e,_⟩:=x;exact⟨_,e⟩
 | ins C dx fs=>obtain⟨_,_,_,e,_⟩:=x;exact⟨_,e⟩
 | own y=>obtain⟨_,e⟩:=x;exact⟨_,e⟩
 | xd fs=>obtain⟨_,⟨_,_,_,e,_⟩,_⟩:=x;exact⟨_,e⟩
 | rng lo hi=>obtain⟨_,_,_,e⟩:=x;exact⟨_,e⟩
 | frz ob u=>obtain⟨e,_⟩:=x;exact⟨_,e⟩
 | tbl ps=>exact⟨_,(show h.get? a=some _ from x)⟩
 | met f y=>exact⟨_,(show h.get? a=some _ from x)⟩
 | ext φ=>obtain⟨_,⟨_,e⟩,_⟩:=x;exact⟨_,e⟩
theorem ObjOk.stay2{H':Hp}{a:Addr}{o:HO}(x:ObjOk P w H h a o)(k:∀b u,(b=a\/(e2t o=some b/\H b=some (.own a)))->h.get? b=some u->h'.get? b=some u)(ho:∀b,e2t o=some b->H b=some (.own a)->H' b=some (.own a))(ht:∀b xs,H b=some (.tup xs)->H' b=some (.tup xs)):ObjOk P w H' h' a o:=by
 have kk:(e2t o=none)->ObjOk P w H' h' a o:=λdn=>by
  let G:Hp:=λb=>match H b with
   | some (.own _)=>none
   | z=>z
  have gt:∀b xs,H b=some (.tup xs)->G b=some (.tup xs):=λb xs e=>by show(match H b with|some (.own _)=>none|z=>z)=_;rw[e]
  have gn:∀b,G b≠some (.own a):=λb e=>by
   have e:(match H b with|some (.own _)=>none|z=>z)=some (HO.own a):=e
   split at e
   ·cases e
   ·rename_i n;exact n a e
  have xg:ObjOk P w G h a o:=by
   clear k ho ht
   induction o with
   | ins C dx fs=>cases dn
   | dT kvs=>
    obtain⟨z,y,xs,r,c⟩:=x;exact⟨z,y,xs,Paired.mapP r λp q z=>⟨z.1,gt _ _ z.2.1,z.2.2⟩,c⟩
   | frz ob u ih=>exact⟨x.1,ih x.2 dn⟩
   | _=>exact x
  refine (xg.stay (H':=G) (h':=h') (λb u hb e=>k b u (hb.elim .inl λz=>absurd z (gn b)) e) (λb z=>absurd z (gn b)) λb xs e=>e).stay (λ_ _ _ e=>e) (λb z=>absurd z (gn b)) λb xs e=>ht b xs ?_;have e:(match H b with|some (.own _)=>none|z=>z)=some (HO.tup xs):=e
  split at e
  ·cases e
  ·exact e
 induction o with
 | ins C dx fs=>
  obtain⟨d,z,ne,e,mA,⟨od,es,ep,e2,c⟩,r⟩:=x;exact⟨ho dx rfl d,z,ne,k _ _ (.inl rfl) e,mA,⟨od,es,ep,k dx _ (.inr ⟨rfl,d⟩) e2,c⟩,r⟩
 | frz ob u ih=>
  cases q:e2t u with
  | none=>exact kk q
  | some b=>exact⟨k _ _ (.inl rfl) x.1,ih x.2 k ho λdn=>by rw[q] at dn;cases dn⟩
 | _=>exact kk rfl
theorem Sub.no(S:Sub H1 H){b:Addr}(e:H b=none):H1 b=none:=by
 cases q:H1 b with
 | none=>rfl
 | some o=>rw[S.le b o q] at e;cases e
theorem Sub.hok(S:Sub H1 H)(k:HOk P w H h):HOk P w H1 h:=λa o e=>(k a o (S.le a o e)).stay2 (λ_ _ _ q=>q)
 (λb d q=>by
  cases r:H1 b with
  | none=>have:=(S.own a o b (S.le a o e) d q).2 r;rw[this] at e;cases e
  | some u=>have:=S.le b u r;rw[q] at this;cases this;rfl) S.tup
theorem Sub.un{fs:List Addr}(S:Sub H1 H)(k:HOk P w H h)(u:Un fs [] H1 H1' h h'):Out H1' H1 H/\Un fs [] H (jn H1' H1 H) h h':=by
 have nx:∀b:Addr,b ∉ ([]:List Addr):=λ_ z=>by cases z
 have fr:∀b o,H b=some o->H1 b=none->H1' b=none:=λb o e n=>by
  obtain⟨ob,eo⟩:=(k b o e).at_;exact u.free b ob eo n (nx b)
 have ot:Out H1' H1 H:=⟨fr,λb xs e=>u.tups b xs (S.tup b xs e),λb o v e=>u.frzs b o v (S.frz b o v e)⟩;refine⟨ot,⟨λb o q n hb hx=>u.keep b o q (S.no n) hb hx,λb o q n hb hx=>u.slot b o q (S.no n) hb hx,λb o q n hx=>?_,u.there,λb xs e=>a0p (u.tups b xs (S.tup b xs e)),λb o v e=>a0p (u.frzs b o v (S.frz b o v e)),λb ps e=>?_⟩⟩
 ·rw[c4e (S.no n) (u.free b o q (S.no n) hx)];exact n
 ·obtain⟨more,z⟩:=u.tbls b ps (S.tbl b ps e)
  exact⟨more,a0p z⟩
theorem Sub.back{fs:List Addr}(S:Sub H1 H)(k:HOk P w H h)(hf:∀b∈fs,H b=none)(u:Un fs [] H1 H1' h h')(k':HOk P w H1' h'):HOk P w (jn H1' H1 H) h':=by
 have nx:∀b:Addr,b ∉ ([]:List Addr):=λ_ z=>by cases z
 obtain⟨ot,_⟩:=S.un k u;have tp:∀b xs,H b=some (.tup xs)->jn H1' H1 H b=some (.tup xs):=λb xs e=>a0p (ot.tup b xs e);intro a o e;cases q:H1' a with
 | some v=>
  rw[a0p q] at e;cases e;exact(k' a _ q).stay (λ_ _ _ z=>z) (λb z=>a0p z) λb xs z=>a0p z
 | none=>
  cases r:H1 a with
  | some v=>rw[e1m r q] at e;cases e
  | none=>
   rw[c4e r q] at e;refine (k a o e).stay2 (λb v hb z=>?_) (λb d z=>?_) tp
   ·have hn:H1 b=none:=by
     rcases hb with rfl|hb
     ·exact r
     ·exact(S.own a o b e hb.1 hb.2).1 r
    refine u.keep b v z hn (λhm=>?_) (nx b);rcases hb with rfl|hb
    ·rw[hf b hm] at e;cases e
    ·rw[hf b hm] at hb;cases hb.2
   ·have hn:=(S.own a o b e d z).1 r
    rw[c4e hn (ot.fr b _ z hn)];exact z
theorem FnOk.frame{k:Nat}{f:Addr}{fd:FuncData}{ps:List Str}{sp:Sp}(F:FnOk P w K mg qb (CXK P w) k f fd ps sp):FnOk P w K mg qb (CXK P w) k f fd ps (frS sp):=by
 refine⟨λvs H Q E h=>?_,λA outer s H args us vs Q E hr he hb hv hs=>?_⟩
 ·obtain⟨H1,_,z⟩:=h
  exact F.len _ _ _ _ z
 ·obtain⟨H1,S,z⟩:=hs
  have e1:Env0 P w K mg qb A outer s H1:=⟨he.frames,he.mod,λb o q=>⟨(he.bs b o q).1,S.no (he.bs b o q).2⟩,he.bsz,he.funs,λb hb=>S.no (he.frf b hb),S.hok he.hok,he.bare⟩;refine codeAny_mono (F.run A outer s H1 args us vs _ _ hr e1 hb hv z) λr s' q=>?_
  match r,q with
  | .ok (.ret u),q=>
   obtain⟨v,H1',a1,a2,a3,a4,a5,a6⟩:=q;obtain⟨ot,un⟩:=S.un he.hok a3;exact⟨v,_,a1,a2,un,S.back he.hok he.frf a3 a4,a5,a6 ot⟩
  | .ok .next,q=>exact q
  | .error e,q=>
   obtain⟨_,_,_,_,_,z⟩:=q;exact z.elim
theorem MethT.frame{C:Addr}{m:Str}{k:Nat}{ps:List Str}{sp:Sp}(M:MethT P w K mg qb C m k ps sp):MethT P w K mg qb C m k ps (frS sp):=by
 obtain⟨f,fd,F,a,b⟩:=M.ex;exact⟨f,fd,F.frame,a,b⟩
theorem FnT.frame{x:Str}{k:Nat}{ps:List Str}{sp:Sp}(M:FnT P w K mg qb x k ps sp):FnT P w K mg qb x k ps (frS sp):=by
 obtain⟨f,fd,F,a,b⟩:=M.ex;exact⟨f,fd,F.frame,a,b⟩
def b0o:Option HO->Bool
 | some (.tup _)=>true
 | some (.frz _ _)=>true
 | some (.tbl _)=>true
 | _=>false
open Classical in
noncomputable def rs(F:Addr->Prop)(H:Hp):Hp:=λb=>match H b with
 | some (.own a)=>if F a\/b0o (H a)=true then some (.own a) else none
 | z=>if F b\/b0o (H b)=true then z else none
theorem a1v{F:Addr->Prop}{b:Addr}{o:HO}(e:H b=some o)(n:∀a,o≠.own a)(hb:F b\/b0o (H b)=true):rs F H b=some o:=by
 unfold rs;rw[e];cases o with
 | own a=>exact absurd rfl (n a)
 | _=>exact if_pos (e ▸ hb)
theorem a7z{F:Addr->Prop}{b:Addr}{o:HO}(e:rs F H b=some o):H b=some o:=by
 unfold rs at e;split at e
 ·rename_i a q
  split at e
  ·rw[q];exact e
  ·cases e
 ·split at e
  ·exact e
  ·cases e
theorem a5l{F:Addr->Prop}{b:Addr}{o:HO}(e:H b=some o)(n:∀a,o≠.own a)(hb:¬ (F b\/b0o (H b)=true)):rs F H b=none:=by
 unfold rs;rw[e];cases o with
 | own a=>exact absurd rfl (n a)
 | _=>exact if_neg (e ▸ hb)
theorem d3z{F:Addr->Prop}{b a:Addr}(e:H b=some (.own a))(hb:¬ (F a\/b0o (H a)=true)):rs F H b=none:=by
 unfold rs;rw[e];exact if_neg hb
theorem c8q{F:Addr->Prop}{b a:Addr}(e:H b=some (.own a))(hb:F a\/b0o (H a)=true):rs F H b=some (.own a):=by
 unfold rs;rw[e];exact if_pos hb
theorem a4d(F:Addr->Prop)(H:Hp):Sub (rs F H) H where
 le:=λa o e=>a7z e
 own:=λa o b e d q=>by
  have n:∀c,o≠.own c:=λc z=>by rw[z] at d;cases d
  by_cases hc:F a\/b0o (H a)=true
  ·rw[a1v e n hc,c8q q hc];exact⟨λz=>(by cases z),λz=>(by cases z)⟩
  ·rw[a5l e n hc,d3z q hc]
 tup:=λb xs e=>a1v e (λ_ z=>by cases z) (.inr (by rw[e];rfl))
 frz:=λb o u e=>a1v e (λ_ z=>by cases z) (.inr (by rw[e];rfl))
 tbl:=λb ps e=>a1v e (λ_ z=>by cases z) (.inr (by rw[e];rfl))
end
theorem c4o{σ:St}{H:Hp}{n:Nat}{nt:Nat}{fr:List Nat}{g:TG}{tt:TT}{te:TE}{c:Nat->Bool}{f:Nat->V}{Q:Addr->Hp->Prop}(hz:n<sizeLine)(hs:∀(i:Nat) (H':Hp) (k1:VK) (k2:Hp->Prop),i<n->Same H H'->(c i=true->k1 (f i) H')->(c i=false->k2 H')->g (.int (0+(i:Int))) (a1h nt fr σ) H' λσ2 H2=>tt σ2 H2 λb H3=>if b=true then te σ2 H3 k1 else k2 H3)(hd:∀D,H D=none->Q D (upd H D (.lst (((List.range n).filter c).map f)))):
  ∀D,H D=none->∃(m:Nat)(W:Nat->List V->Hp->Prop),W 0 [] (upd H D (.lst []))/\∀i acc H',W i acc H'->H' D=some (.lst acc)/\acc.length<sizeLine /\
   (((Itr 0 n).stop i H'/\Q D H')\/(i<m/\(Itr 0 n).go i H'/\∀x H2,(Itr 0 n).yld i H' x H2->g x (a1h nt fr σ) H2 λσ2 H3=>tt σ2 H3 λb H4=>if b=true then (te σ2 H4 λy H5=>H5 D=some (.lst acc)/\W (i+1) (acc++[y]) (upd H5 D (.lst (acc++[y])))) else W (i+1) acc H4)):=by
 intro D hD;refine⟨n,λi acc H'=>i<=n/\acc=((List.range i).filter c).map f/\H'=upd H D (.lst acc),⟨Nat.zero_le _,rfl,rfl⟩,?_⟩;rintro i acc H' ⟨hi,rfl,rfl⟩;have hlen:(((List.range i).filter c).map f).length<=i:=by
  rw[List.length_map];exact Nat.le_trans (List.length_filter_le _ _) (by rw[List.length_range];exact Nat.le_refl _)
 refine⟨d7,by lia,?_⟩
 by_cases h:i<n
 ·refine .inr ⟨h,h,?_⟩
  rintro x H2 ⟨rfl,rfl⟩;refine hs i _ _ _ h (λb u e=>by rw[c7 (g9 e hD)];exact e) (λhc=>⟨d7,by lia,?_,?_⟩) (λhc=>⟨by lia,?_,?_⟩)
  ·rw[List.range_succ,List.filter_append,List.map_append]
   simp[hc]
  ·rw[d3l]
  ·rw[List.range_succ,List.filter_append]
   simp[hc]
  ·rfl
 ·have:i=n:=by lia
  subst this;exact .inl ⟨Nat.le_refl _,hd D hD⟩
def e6r(P:Program)(w:World)(K:Frag):R2:=λx y H Q=>∃(d:Addr)(z:Str)(kvs:List (Str×Value)),x=.str z/\y=.ref d/\KDict P w K d kvs/\Q (.bl (!(valueAt kvs z).isSome)) H
theorem d2i{X:Cx}{K:Frag}(h:X.K=K:=by rfl):OpR X (compareOp .NotIn) (e6r X.prog X.w K):=by
 subst h;intro qa s σ H x y v u Q I rx ry hq;obtain⟨d,z,kvs,rfl,rfl,kd,q⟩:=hq;obtain⟨t,rfl⟩:=rx;cases ry;exact wpAny_notIn_of (strKind_is X.prog X.w z t) kd.1 (kd.at I.kIn).mapOf ⟨.bl _,H,I.tok _,rfl,q⟩
theorem d1i{K:Frag}{a:Addr}{x y:V}{g:TG}{tb:TS}{D:d6x}{σ:St}{H:Hp}(kt:∀H,SqT K H a [x,y])(q:g x σ H λσ2 H2=>tb { D with nx:=λσ' H'=>g y σ' H' λσ3 H3=>tb { D with nx:=D.nx,ct:=D.nx,bk:=D.nx } σ3 H3,ct:=λσ' H'=>g y σ' H' λσ3 H3=>tb { D with nx:=D.nx,ct:=D.nx,bk:=D.nx } σ3 H3,bk:=D.nx } σ2 H2):
  ∃W:Nat->Nat->St->Hp->Prop,(∃m,W 0 m σ H)/\∀i m σ H,W i m σ H ->
  ((Itt K a).stop i H/\D.nx σ H)\/((Itt K a).go i H/\∃N:St->Hp->Prop,(∀σ' H',N σ' H'->∃m',m'<m/\W (i+1) m' σ' H')/\∀x H',(Itt K a).yld i H x H'->g x σ H' λσ2 H2=>tb { D with nx:=N,ct:=N,bk:=D.nx } σ2 H2):=by
 refine⟨λi m σ' H'=>(i=0/\m=2/\σ'=σ/\H'=H)\/(i=1/\m=1/\g y σ' H' λσ3 H3=>tb { D with nx:=D.nx,ct:=D.nx,bk:=D.nx } σ3 H3)\/(i=2/\m=0/\D.nx σ' H'),⟨2,.inl ⟨rfl,rfl,rfl,rfl⟩⟩,?_⟩
 rintro i m σ' H' (⟨rfl,rfl,rfl,rfl⟩|⟨rfl,rfl,z⟩|⟨rfl,rfl,z⟩)
 ·refine .inr ⟨⟨_,x,kt _,rfl⟩,_,λσ2 H2 z=>⟨1,by decide,.inr (.inl ⟨rfl,rfl,z⟩)⟩,?_⟩
  rintro x' H2 ⟨rfl,hx⟩;cases hx _ (kt _);exact q
 ·refine .inr ⟨⟨_,y,kt _,rfl⟩,D.nx,λσ2 H2 z=>⟨0,by decide,.inr (.inr ⟨rfl,rfl,z⟩)⟩,?_⟩
  rintro x' H2 ⟨rfl,hx⟩;cases hx _ (kt _);exact z
 ·exact .inl ⟨⟨_,kt _,Nat.le_refl 2⟩,z⟩
def e3r(K:Frag):List V->Hp->VK->Prop:=λxs H Q=>∃p ys,xs=[.ref p]/\((SqL K H p ys/\∀l,H l=none->Q (.ref l) (upd H l (.tup ys)))\/(SqT K H p ys/\Q (.ref p) H))
theorem d6f{X:Cx}{K:Frag}(h:X.K=K:=by rfl):a5q X (.type "tuple") (e3r K):=h ▸ c4p
end L2
namespace L2
open PySem PyProof.Rows
theorem d6g{X:Cx}(hc:X.calm=true):a5q X (.builtin "sum") (λxs H Q=>∃(p:Addr)(ns:List Int),xs=[.ref p]/\SqL X.K H p (ns.map V.int)/\Q (.int ns.sum) H):=by
 intro qa s σ H xs us Q I r h;obtain⟨p,ns,rfl,hq,q⟩:=h;obtain⟨u,rfl,rx⟩:=r.one;cases rx;obtain⟨its,ri,pl,hz⟩:=I.list hq;have hl:=pl.isList;have hlt:p<s.heap.objs.size:=by obtain⟨_,e,_⟩:=hl;exact Heap.lt_size e
 have hn:its.toArray.size=ns.length:=by have:=ri.length;simpa using this.symm
 have wl:=(Walks.list (prog:=X.prog) (w:=X.w) (A:=X.A.in1) (I.ok.hd hc) s.heap.objs.size p (Nat.ne_of_lt hlt) its.toArray).toS;refine call_sum_walkAnyS (wpAny_pyIter_list hl ⟨_,_,_,_,_,_,_,(λi=>ns.getD i 0),rfl,wl,⟨⟨_,Heap.get?_push_size _ rfl,rfl,rfl⟩,hl.push _⟩,?_,?_,?_⟩)
 ·intro b hb
  show b<(s.heap.objs.push _).size;rw[Array.size_push];rcases List.mem_cons.mp hb with rfl|hb
  ·exact Nat.lt_succ_self _
  ·rw[List.mem_singleton.mp hb];exact Nat.lt_succ_of_lt hlt
 ·intro i v hP
  have hP:its.toArray[i]?=some v:=hP;have hP:its[i]?=some v:=by simpa using hP
  have hi:i<(ns.map V.int).length:=by
   have:=(List.getElem?_eq_some_iff.mp hP).1;rw[ri.length];exact this
  obtain⟨u,e,q'⟩:=ri.get (List.getElem?_eq_getElem hi);rw[hP] at e;cases e;have hi':i<ns.length:=by simpa using hi
  have e2:(ns.map V.int)[i]=V.int ns[i]:=List.getElem_map _;rw[e2] at q';obtain⟨t,e3⟩:=q';exact⟨t,by rw[e3];show _=Value.int (ns.getD i 0) t;rw[List.getD_eq_getElem?_getD,List.getElem?_eq_getElem hi'];rfl⟩
 ·intro s' t' mv
  rw[preSum_getD,hn,List.take_length];obtain⟨h',g',d',t2,o'⟩:=s';obtain⟨m1,m2,m3,m4,m5⟩:=mv;cases (show g'=s.gens from m2);cases (show d'=s.drawn from m3);cases (show o'=s.os from m4);exact⟨.int _,H,I.kept (t':=t2) (LSm.kept_iter m1),⟨_,rfl⟩,q⟩
theorem c7s{X:Cx}{K:Frag}(hc:X.calm=true)(h:X.K=K:=by rfl):a5q X (.builtin "sum") (λxs H Q=>∃(p:Addr)(ns:List Int),xs=[.ref p]/\SqL K H p (ns.map V.int)/\Q (.int ns.sum) H):=h ▸ d6g hc
theorem e7a{P:Program}{w:World}{k:Key}{u:Value}(r:(a0v P w).is k u=true):RelV (kV k) u:=by
 rcases a0k r with ⟨i,t,rfl,rfl⟩|⟨x,t,rfl,rfl⟩
 ·exact⟨t,rfl⟩
 ·exact⟨t,rfl⟩
theorem b9b{F:V->Value->Prop}:∀{xs:List V}{us:List Value},xs.length=us.length->(∀(i:Nat)(x:V)(u:Value),xs[i]?=some x->us[i]?=some u->F x u)->Paired F xs us
 | [],[],_,_=>.nil
 | x::xs,u::us,hl,h=>.cons (h 0 x u rfl rfl) (b9b (Nat.succ.inj hl) λi y v a b=>h (i+1) y v a b)
 | [],_::_,hl,_=>nomatch hl
 | _::_,[],hl,_=>nomatch hl
theorem d3g{X:Cx}(hc:X.calm=true):a5q X (.type "list") (λxs H Q=>∃(a:Addr)(kvs:List (Key×V)),xs=[.ref a]/\H a=some (.dK kvs)/\∀l,H l=none->Q (.ref l) (upd H l (.lst (kvs.map λkv=>kV kv.1)))):=by
 intro qa s σ H xs us Q I r h;obtain⟨a,kvs,rfl,e,q⟩:=h;obtain⟨u,rfl,rx⟩:=r.one;cases rx;obtain⟨z,hd,vs,rel,dd⟩:=e2i I.hok e;obtain⟨o,es,ep,d1,d2,d3,d4⟩:=dd;have da:Heap.DictAt (a0v X.prog X.w) s.heap a vs ep:=⟨o,es,d1,d2,d3,d4⟩;have hlen:=rel.length;refine PySem.W.kdl_call (PySem.W.kdl_dict (knd:=a0v X.prog X.w) (kvs:=vs) (ep:=ep) hd) (I.ok.hd hc) da ↑3 (λh' tk acc c kp ea it=>?_);have ks:=rel.keys;have vl:Vals (kvs.map λkv=>kV kv.1) acc.toList:=by
  refine b9b (by rw[List.length_map,hlen,Array.length_toList];exact it.1.symm) λi x u hx hu=>?_
  have hu:acc[i]?=some u:=by simpa using hu
  obtain⟨k,y,e1,e2⟩:=it.2 i u hu;have e3:(kvs.map (·.1))[i]?=some k:=by rw[ks,List.getElem?_map,e1];rfl
  rw[List.getElem?_map] at e3 hx;cases q1:kvs[i]? with
  | none=>rw[q1] at hx;cases hx
  | some kv=>
   rw[q1] at hx e3;cases hx;cases e3;exact e7a e2
 exact⟨.ref s.heap.objs.size,_,I.laid (t':=tk) kp (Nat.le_refl _) (show ObjOk X.prog X.w _ h' _ (.lst (kvs.map λkv=>kV kv.1)) from⟨by rw[List.length_map];exact z,acc.toList,c,vl,by simpa using ea⟩),rfl,q _ (I.hok.fresh (Nat.le_refl _))⟩
theorem c9y{X:Cx}(hc:X.calm=true):a5q X (.type "list") (λxs H Q=>∃(a:Addr)(kvs:List (Key×V)),xs=[.ref a]/\H a=some (.dK kvs)/\∀l,H l=none->Q (.ref l) (upd H l (.lst (kvs.map λkv=>kV kv.1)))):=d3g hc
theorem d5m{X:Cx}{K:Frag}(hK:X.K=K:=by rfl):e8z X (λo i H Q=>∃p xs k v,o=.ref p/\i=.int k/\SqL K H p xs/\0<=k/\xs[k.toNat]?=some v/\Q v H):=by
 subst hK;intro qa s σ H o i ov iv Q I ro ri h;obtain⟨p,xs,k,v,rfl,rfl,hq,h0,he,q⟩:=h;cases ro;obtain⟨t,rfl⟩:=ri;obtain⟨its,r,pl,hz⟩:=I.list hq;obtain⟨w,ew,rw'⟩:=r.get he;have hl:=r.length;have hn:=d1a;have hlt:k.toNat<xs.length:=(List.getElem?_eq_some_iff.mp he).1;have fin:EP X qa σ Q w s:=⟨v,H,I,rw',q⟩;refine wpAny_getItem_list pl.isList h0 ↑3 (by simpa using ew) fin
theorem d3f{X:Cx}:a5q X (.builtin "sorted") (λxs H Q=>∃(p:Addr)(ns:List Int),xs=[.ref p]/\SqL X.K H p (ns.map V.int)/\ns.length<64/\∀(ns':List Int)(q:Addr),ns'.Perm ns->ns'.Pairwise (· <= ·)->H q=none->Q (.ref q) (upd H q (.lst (ns'.map V.int)))):=by
 intro qa s σ H xs us Q I r h;obtain⟨p,ns,rfl,hq,l6,q⟩:=h;obtain⟨u,rfl,rx⟩:=r.one;cases rx;obtain⟨its,ri,pl,hz⟩:=I.list hq;have hn:its.length=ns.length:=by have:=ri.length;simpa using this.symm
 refine sorted_ints pl.isList (d3c ri) ↑3 λout ns' h1 h2 h3=>?_;obtain⟨e,ea⟩:=sortedAll_at s.heap its out;refine⟨.ref (s.heap.objs.size+1),_,I.laid (t':=s.toks) (λb o e=>sortedAll_old e) (Nat.le_succ _) (show ObjOk X.prog X.w _ (sortedAll s.heap its out) _ (.lst (ns'.map V.int)) from⟨?_,out.toList,e,b7y h1,?_⟩),rfl,q ns' _ h2 h3 (I.hok.fresh (Nat.le_succ _))⟩
 ·rw[List.length_map,h2.length_eq];exact Nat.le_trans (Nat.le_of_lt l6) ↑6
 ·simpa[seqObj] using ea
theorem c1i{X:Cx}{K:Frag}(h:X.K=K:=by rfl):a5q X (.builtin "sorted") (λxs H Q=>∃(p:Addr)(ns:List Int),xs=[.ref p]/\SqL K H p (ns.map V.int)/\ns.length<64/\∀(ns':List Int)(q:Addr),ns'.Perm ns->ns'.Pairwise (· <= ·)->H q=none->Q (.ref q) (upd H q (.lst (ns'.map V.int)))):=h ▸ d3f
theorem d6h{X:Cx}:a5q X (.type "range") (λxs H Q=>∃n:Int,xs=[.int n]/\∀r,H r=none->Q (.ref r) (upd H r (.rng 0 n))):=by
 intro qa s σ H xs us Q I r h;obtain⟨n,rfl,q⟩:=h;obtain⟨u,rfl,rx⟩:=r.one;obtain⟨t,rfl⟩:=rx;refine call_range_1 ?_;exact⟨.ref s.heap.objs.size,_,I.laid (t':=s.toks+1+1) (λb o e=>Heap.get?_push_of_some _ e) (Nat.le_refl _) (show ObjOk X.prog X.w _ _ _ (.rng 0 n) from⟨_,_,_,Heap.get?_push_size _ rfl⟩),rfl,q _ (I.hok.fresh (Nat.le_refl _))⟩
theorem c9x{X:Cx}(hc:X.calm=true):a5q X (.type "list") (λxs H Q=>∃(a:Addr)(n:Nat),xs=[.ref a]/\H a=some (.rng 0 n)/\n<=1000/\∀l,H l=none->Q (.ref l) (upd H l (.lst ((List.range n).map λ(k:Nat)=>V.int k)))):=by
 intro qa s σ H xs us Q I r h;obtain⟨a,n,rfl,e,n1,q⟩:=h;obtain⟨u,rfl,rx⟩:=r.one;cases rx;obtain⟨t,u,v,ho⟩:=I.hok a _ e;refine call_list_range (n:=n) (I.ok.hd hc) (show IsRange s.heap a 0 n 1 t u v from ho) (small_one ↑6 ↑6 ↑3 ↑3) (by rw[rangeSize_one];split <;> lia) ↑3 (λh' tk acc c kp ea it=>?_)
 have vl:Vals ((List.range n).map λ(k:Nat)=>V.int k) acc.toList:=by
  refine b9b (by rw[List.length_map,List.length_range,Array.length_toList];exact it.1.symm) λi x u hx hu=>?_
  have hu:acc[i]?=some u:=by simpa using hu
  obtain⟨t,e2⟩:=it.2 i u hu;rw[List.getElem?_map] at hx;have hi:i<n:=by rw[<- it.1];exact(Array.getElem?_eq_some_iff.mp hu).1
  rw[List.getElem?_range hi] at hx;cases hx;exact⟨t,by rw[e2];congr 1;lia⟩
 exact⟨.ref s.heap.objs.size,_,I.laid (t':=tk) kp (Nat.le_refl _) (show ObjOk X.prog X.w _ h' _ (.lst ((List.range n).map λ(k:Nat)=>V.int k)) from⟨by rw[List.length_map,List.length_range];exact Nat.le_trans n1 ↑6,acc.toList,c,vl,by simpa using ea⟩),rfl,q _ (I.hok.fresh (Nat.le_refl _))⟩
end L2
namespace Pr
theorem c4c{n i j:Nat}(e:i % n=j % n)(h1:i<j+n)(h2:j<i+n):i=j:=by
 have a:=Nat.sub_mod_eq_zero_of_mod_eq e;have b:=Nat.sub_mod_eq_zero_of_mod_eq e.symm;have c:i-j=0:=by
  have:i-j<n:=by lia
  rwa [Nat.mod_eq_of_lt this] at a
 have d:j-i=0:=by
  have:j-i<n:=by lia
  rwa [Nat.mod_eq_of_lt this] at b
 lia
def lap(n i:Nat):Nat:=(i / n) % 2
theorem b9m(n i:Nat):lap n i<2:=Nat.mod_lt _ ↑3
theorem c9o{n i:Nat}(h:0<n):lap n (i+n)=1-lap n i:=by
 unfold lap;rw[Nat.add_div_right _ h];lia
theorem c0u(n i:Nat):(i % (2*n)) % n=i % n:=Nat.mod_mod_of_dvd _ ⟨2,by lia⟩
theorem d0a(n i:Nat):(i % (2*n)) / n=lap n i:=by
 unfold lap;rw[Nat.mul_comm 2 n,Nat.mod_mul_right_div_self]
theorem c8a{n i:Nat}(h:0<n):i % (2*n)<2*n:=Nat.mod_lt _ ↑3
theorem d0b{n i j:Nat}(e:i % (2*n)=j % (2*n))(h1:i<=j+n)(h2:j<=i+n)(h:0<n):i=j:=c4c e ↑3 ↑3
def c0t(n i q:Nat):Nat:=if q<i % n then lap n i else 1-lap n i
abbrev Cells:=Nat->Int
def put(c:Cells)(i:Nat)(v:Int):Cells:=λj=>if j=i then v else c j
theorem put_same(c:Cells)(i:Nat)(v:Int):put c i v i=v:=if_pos rfl
theorem put_ne(c:Cells){i j:Nat}(v:Int)(h:j≠i):put c i v j=c j:=if_neg h
def mkv(n f i:Nat):Int:=2*(lap n i:Int)+(if f<=i then 1 else 0)
structure Marks(n f g:Nat)(c:Cells):Prop where
 old:∀i,i<g->g<=i+n->c (4*(i % n))=mkv n f i
 new:∀q,q<n->g<=q->c (4*q)=2
section
variable{n f g t:Nat}{c:Cells}
theorem Marks.give(h:Marks n f g c)(hn:0<n)(fg:f<=g)(gf:g<f+n):Marks n f (g+1) (put c (4*(g % n)) (2*(lap n g:Int)+1)) where
 old:=λi h1 h2=>by
  by_cases e:i=g
  ·subst e
   rw[put_same];unfold mkv;rw[if_pos fg]
  ·have ne:i % n≠g % n:=λz=>e (c4c z ↑3 ↑3)
   rw[put_ne _ _ ↑3];exact h.old i ↑3 ↑3
 new:=λq h1 h2=>by
  have ne:q≠g % n:=by
   rw[Nat.mod_eq_of_lt ↑3];lia
  rw[put_ne _ _ ↑3];exact h.new q h1 ↑3
theorem Marks.free(h:Marks n f g c)(hn:0<n)(fg:f<g)(gf:g<=f+n):Marks n (f+1) g (put c (4*(f % n)) (2*(lap n f:Int))) where
 old:=λi h1 h2=>by
  by_cases e:i=f
  ·subst e
   rw[put_same];unfold mkv;rw[if_neg ↑3];lia
  ·have ne:i % n≠f % n:=λz=>e (c4c z ↑3 ↑3)
   rw[put_ne _ _ ↑3,h.old i h1 h2];unfold mkv;by_cases z:f<=i
   ·rw[if_pos z,if_pos ↑3]
   ·rw[if_neg z,if_neg ↑3]
 new:=λq h1 h2=>by
  have ne:q≠f % n:=by
   rw[Nat.mod_eq_of_lt ↑3];lia
  rw[put_ne _ _ ↑3];exact h.new q h1 h2
theorem Marks.other(h:Marks n f g c){i:Nat}{v:Int}(hn:0<n)(ne:∀q,q<n->i≠4*q):Marks n f g (put c i v) where
 old:=λj h1 h2=>by rw[put_ne _ _ (Ne.symm (ne _ (Nat.mod_lt _ hn)))];exact h.old j h1 h2
 new:=λq h1 h2=>by rw[put_ne _ _ (Ne.symm (ne _ h1))];exact h.new q h1 h2
theorem Marks.mayGive(h:Marks n f g c)(hn:0<n)(fg:f<=g)(gf:g<=f+n):c (4*(g % n))=2*(1-(lap n g:Int)) ↔ g<f+n:=by
 by_cases z:g<n
 ·have e:g % n=g:=Nat.mod_eq_of_lt z
  have l0:lap n g=0:=by unfold lap;rw[Nat.div_eq_of_lt z]
  rw[e,h.new g z (Nat.le_refl _),l0];lia
 ·obtain⟨i,rfl⟩:∃i,g=i+n:=⟨g-n,by lia⟩
  have l:=c9o (i:=i) hn;have l2:=b9m n i;rw[Nat.add_mod_right,h.old i ↑3 ↑3,l];unfold mkv;by_cases y:f<=i
  ·rw[if_pos y];lia
  ·rw[if_neg y];lia
theorem Marks.mayTake(h:Marks n f g c)(hn:0<n)(ft:f<=t)(tg:t<=g)(gf:g<=f+n):c (4*(t % n))=2*(lap n t:Int)+1 ↔ t<g:=by
 by_cases z:t<g
 ·rw[h.old t z ↑3]
  unfold mkv;rw[if_pos ft];lia
 ·have e:t=g:=by lia
  subst e;by_cases y:t<n
  ·have e:t % n=t:=Nat.mod_eq_of_lt y
   have l0:lap n t=0:=by unfold lap;rw[Nat.div_eq_of_lt y]
   rw[e,h.new t y (Nat.le_refl _),l0];lia
  ·obtain⟨i,rfl⟩:∃i,t=i+n:=⟨t-n,by lia⟩
   have l:=c9o (i:=i) hn;have l2:=b9m n i;rw[Nat.add_mod_right,h.old i ↑3 ↑3,l];unfold mkv;by_cases y:f<=i
   ·rw[if_pos y];lia
   ·rw[if_neg y];lia
theorem a6d{n i q:Nat}(hq:q<n)(k:Nat)(e:i=n*k+q):i % n=q/\i / n=k:=by
 subst e;constructor
 ·rw[Nat.mul_add_mod,Nat.mod_eq_of_lt hq]
 ·rw[Nat.mul_add_div ↑3,Nat.div_eq_of_lt hq];lia
theorem c9n{n g q:Nat}(hn:0<n)(hq:q<n):(g<=q/\¬ q<g % n/\lap n g=0) \/ ∃i,i<g/\g<=i+n/\i % n=q/\(lap n i=if q<g % n then lap n g else 1-lap n g):=by
 have hg:=Nat.div_add_mod g n;have hr:=Nat.mod_lt g hn;by_cases z:q<g % n
 ·refine .inr ⟨n*(g / n)+q,by lia,by lia,(a6d hq _ rfl).1,?_⟩
  rw[if_pos z];unfold lap;rw[(a6d hq _ rfl).2]
 ·by_cases y:g<n
  ·refine .inl ⟨?_,z,?_⟩
   ·rw[Nat.mod_eq_of_lt y] at z;lia
   ·unfold lap;rw[Nat.div_eq_of_lt y]
  ·have h1:1<=g / n:=(Nat.one_le_div_iff hn).mpr ↑3
   obtain⟨k,hk⟩:∃k,g / n=k+1:=⟨g / n-1,by lia⟩
   have e2:n*(g / n)=n*k+n:=by rw[hk,Nat.mul_succ]
   refine .inr ⟨n*k+q,by lia,by lia,(a6d hq _ rfl).1,?_⟩
   rw[if_neg z];unfold lap;rw[(a6d hq _ rfl).2,hk];lia
theorem Marks.laps(h:Marks n f g c)(hn:0<n){q:Nat}(hq:q<n):c (4*q) / 2=(c0t n g q:Int):=by
 unfold c0t;rcases c9n (g:=g) hn hq with ⟨a,b,l⟩|⟨i,h1,h2,e,l⟩
 ·rw[h.new q hq a,if_neg b,l];rfl
 ·have:=h.old i h1 h2
  rw[e] at this;rw[this,<- l];unfold mkv;have:=b9m n i;split <;> lia
theorem Marks.sides(h:Marks n f g c)(hn:0<n)(fg:f<=g)(gf:g<=f+n){q:Nat}(hq:q<n):(if c (4*q) / 2≠c (4*q) % 2 then (1:Int) else 0)=(c0t n f q:Int):=by
 unfold c0t;have lf:=b9m n f;rcases c9n (g:=f) hn hq with ⟨a,b,l⟩|⟨i,h1,h2,e,l⟩
 ·rw[if_neg b,l]
  by_cases z:g<=q
  ·rw[h.new q hq z];rfl
  ·have e:q % n=q:=Nat.mod_eq_of_lt hq
   have:=h.old q ↑3 ↑3;rw[e] at this;have l0:lap n q=0:=by unfold lap;rw[Nat.div_eq_of_lt hq]
   have e1:mkv n f q=1:=by unfold mkv;rw[l0,if_pos a];rfl
   rw[this,e1]
   rfl
 ·rw[<- l]
  have li:=b9m n i;by_cases z:g<=i+n
  ·have:=h.old i ↑3 z
   rw[e] at this;have e1:mkv n f i=2*(lap n i:Int):=by unfold mkv;rw[if_neg ↑3];lia
   rw[this,e1];split <;> lia
  ·have:=h.old (i+n) ↑3 ↑3
   rw[Nat.add_mod_right,e] at this;have e1:mkv n f (i+n)=2*((1-lap n i:Nat):Int)+1:=by unfold mkv;rw[c9o hn,if_pos ↑3]
   rw[this,e1];split <;> lia
theorem Marks.range(h:Marks n f g c)(hn:0<n){q:Nat}(hq:q<n):0<=c (4*q)/\c (4*q)<=3:=by
 rcases c9n (g:=g) hn hq with ⟨a,b,l⟩|⟨i,h1,h2,e,l⟩
 ·rw[h.new q hq a];lia
 ·have:=h.old i h1 h2
  rw[e] at this;rw[this];unfold mkv;have:=b9m n i;split <;> lia
end
def tot(os:List (List Int)):Nat:=os.flatten.length
def o9:List (List Int)->Nat->Nat
 | [],_=>0
 | o::os,i=>if i<o.length then 0 else o9 os (i-o.length)+1
def t9:List (List Int)->Nat->Nat
 | [],_=>0
 | o::os,i=>if i<o.length then o.length-1-i else t9 os (i-o.length)
def a0r(os:List (List Int))(i:Nat):Int:=os.flatten.getD i 0
def beg(os:List (List Int))(j:Nat):Nat:=tot (os.take j)
theorem a9z(o:List Int)(os:List (List Int)):tot (o::os)=o.length+tot os:=by simp[tot]
theorem d1u(os ps:List (List Int)):tot (os++ps)=tot os+tot ps:=by simp[tot]
theorem a0t(o:List Int)(os:List (List Int))(j:Nat):beg (o::os) (j+1)=o.length+beg os j:=by simp[beg,a9z]
theorem a3d(os:List (List Int)):beg os 0=0:=by simp[beg,tot]
def Good(n:Nat)(os:List (List Int)):Prop:=∀o∈os,1<=o.length/\o.length<=n
theorem Good.tail{n:Nat}{o:List Int}{os:List (List Int)}(h:Good n (o::os)):Good n os:=λp hp=>h p (List.mem_cons_of_mem _ hp)
theorem Good.head{n:Nat}{o:List Int}{os:List (List Int)}(h:Good n (o::os)):1<=o.length/\o.length<=n:=h o List.mem_cons_self
theorem a8d:∀{os:List (List Int)}{i:Nat},i<tot os->o9 os i<os.length
 | [],i,h=>by simp[tot] at h
 | o::os,i,h=>by
  rw[a9z] at h;unfold o9;split
  ·simp
  ·have:=a8d (os:=os) (i:=i-o.length) ↑3
   simp;lia
theorem a3a{n:Nat}:∀{os:List (List Int)}{i:Nat},i<tot os->beg os (o9 os i)<=i/\i+t9 os i+1=beg os (o9 os i+1)
 | [],i,h=>by simp[tot] at h
 | o::os,i,h=>by
  rw[a9z] at h;unfold o9 t9;split
  ·rename_i hi
   rw[a3d,a0t,a3d];lia
  ·have:=a3a (n:=n) (os:=os) (i:=i-o.length) ↑3
   rw[a0t,a0t];lia
theorem d1p:∀(os:List (List Int)){j k:Nat},j<=k->beg os j<=beg os k
 | [],j,k,h=>by simp[beg,tot]
 | o::os,0,k,h=>by rw[a3d];lia
 | o::os,j+1,0,h=>by lia
 | o::os,j+1,k+1,h=>by
  rw[a0t,a0t];have:=d1p os (j:=j) (k:=k) ↑3;lia
theorem b0r:∀(os:List (List Int))(j:Nat),beg os j<=tot os
 | [],j=>by simp[beg,tot]
 | o::os,0=>by rw[a3d];lia
 | o::os,j+1=>by rw[a0t,a9z];have:=b0r os j;lia
theorem d6q(os:List (List Int)){j:Nat}(h:os.length<=j):beg os j=tot os:=by unfold beg;rw[List.take_of_length_le h]
theorem a4f:∀{os:List (List Int)}{i j:Nat},beg os j<=i->i<beg os (j+1)->o9 os i=j
 | [],i,j,h1,h2=>by simp[beg,tot] at h2
 | o::os,i,0,h1,h2=>by
  rw[a0t,a3d] at h2;unfold o9;rw[if_pos ↑3]
 | o::os,i,j+1,h1,h2=>by
  rw[a0t] at h1 h2;unfold o9;rw[if_neg ↑3,a4f (os:=os) (i:=i-o.length) (j:=j) ↑3 ↑3]
theorem next_part{os:List (List Int)}{i:Nat}(hi:i<tot os)(hl:0<t9 os i):i+1<tot os/\o9 os (i+1)=o9 os i/\t9 os (i+1)+1=t9 os i:=by
 obtain⟨a,b⟩:=a3a (n:=0) hi;have c:=b0r os (o9 os i+1);have d:o9 os (i+1)=o9 os i:=a4f ↑3 ↑3;obtain⟨e,e2⟩:=a3a (n:=0) (os:=os) (i:=i+1) ↑3;rw[d] at e2;exact⟨by lia,d,by lia⟩
theorem d1q{n:Nat}:∀{os:List (List Int)}{j:Nat},Good n os->j<os.length->beg os j<beg os (j+1)/\beg os (j+1)<=beg os j+n
 | [],j,h,hj=>by simp at hj
 | o::os,0,h,hj=>by
  rw[a0t,a3d,a3d];have:=h.head;lia
 | o::os,j+1,h,hj=>by
  rw[a0t,a0t];have:=d1q (os:=os) (j:=j) h.tail (by simp at hj;lia)
  lia
theorem next_order{n:Nat}{os:List (List Int)}{i:Nat}(g:Good n os)(hi:i+1<tot os)(hl:t9 os i=0):o9 os (i+1)=o9 os i+1/\beg os (o9 os i+1)=i+1:=by
 obtain⟨a,b⟩:=a3a (n:=0) (os:=os) (i:=i) ↑3;rw[hl] at b;have nl:=a8d (os:=os) (i:=i) ↑3;have c:o9 os i+1<os.length:=by
  by_cases z:o9 os i+1<os.length
  ·exact z
  ·have:=d6q os (j:=o9 os i+1) ↑3
   lia
 have d:=d1q g c;exact⟨a4f ↑3 ↑3,by lia⟩
theorem d4y{n:Nat}{os:List (List Int)}(g:Good n os)(h:0<tot os):o9 os 0=0:=by
 cases os with
 | nil=>simp[tot] at h
 | cons o os=>
  unfold o9;rw[if_pos (by have:=g.head;lia)]
theorem c4u{os:List (List Int)}{j:Nat}{o:List Int}(h:os[j]?=some o):∀m,m<o.length->a0r os (beg os j+m)=o.getD m 0:=by
 induction os generalizing j with
 | nil=>simp at h
 | cons p os ih=>
  intro m hm;cases j with
  | zero=>
   simp at h;subst h;rw[a3d,Nat.zero_add];unfold a0r;rw[List.flatten_cons,List.getD_eq_getElem?_getD,List.getElem?_append_left hm,List.getD_eq_getElem?_getD]
  | succ j=>
   have h':os[j]?=some o:=by simpa using h
   rw[a0t,<- ih h' m hm];unfold a0r;rw[List.flatten_cons,List.getD_eq_getElem?_getD,List.getD_eq_getElem?_getD,List.getElem?_append_right ↑3]
   congr 2
   lia
theorem d1o{os:List (List Int)}{j:Nat}{o:List Int}(h:os[j]?=some o):beg os (j+1)=beg os j+o.length:=by
 induction os generalizing j with
 | nil=>simp at h
 | cons p os ih=>
  cases j with
  | zero=>
   simp at h;subst h;rw[a0t,a3d,a3d];lia
  | succ j=>
   have h':os[j]?=some o:=by simpa using h
   rw[a0t,a0t,ih h'];lia
theorem a4w:∀{os ps:List (List Int)}{i:Nat},i<tot os->o9 (os++ps) i=o9 os i/\t9 (os++ps) i=t9 os i
 | [],ps,i,h=>by simp[tot] at h
 | o::os,ps,i,h=>by
  rw[a9z] at h;rw[List.cons_append];unfold o9 t9;by_cases z:i<o.length
  ·simp only[if_pos z];exact⟨trivial,trivial⟩
  ·simp only[if_neg z]
   have:=a4w (os:=os) (ps:=ps) (i:=i-o.length) ↑3;rw[this.1,this.2];exact⟨rfl,rfl⟩
theorem b6h{os ps:List (List Int)}{i:Nat}(h:i<tot os):a0r (os++ps) i=a0r os i:=by
 unfold a0r;rw[List.flatten_append,List.getD_eq_getElem?_getD,List.getElem?_append_left h,List.getD_eq_getElem?_getD]
theorem d8d{os ps:List (List Int)}{j:Nat}(h:j<=os.length):beg (os++ps) j=beg os j:=by
 unfold beg;rw[List.take_append_of_le_length h]
inductive Stg where
 | rouse|clear|mute|marks|told|lacks|look|wish|again|sleep|hush|unwish|number|left|thing|mark|card|ring|free
 deriving DecidableEq
structure Ln where
 n:Nat
 c:Cells
 os:List (List Int)
 bk:List (List Int)
 gs:Stg
 gseen:List Int
 ts:Stg
 tseen:List Int
 f:Nat
 g:Nat
 t:Nat
abbrev Ln.put(s:Ln)(i:Nat)(v:Int):Ln:={ s with c:=Pr.put s.c i v }
def a1c(os:List (List Int))(a k:Nat):List Int:=(List.range k).map λm=>a0r os (a+m)
def gstep(s:Ln):Ln :=
 match s.gs with
 | .rouse=>{ s.put (4*s.n+3) 1 with gs:=.clear }
 | .clear=>{ s.put (4*s.n) (-1) with gs:=.mute }
 | .mute=>{ s.put (4*s.n+2) 0 with gs:=.marks }
 | .marks=>if s.gseen.length+1<s.n then { s with gseen:=s.gseen++[s.c (4*s.gseen.length)] } else { s with gseen:=[],gs:=.told }
 | .told=>{ s with gs:=.lacks }
 | .lacks=>{ s with gs:=.look }
 | .look=>if s.g<tot s.os then (if s.c (4*(s.g % s.n))=2*(1-(lap s.n s.g:Int)) then { s with gs:=.number } else { s with gs:=.wish }) else s
 | .wish=>{ s.put (4*s.n) ((s.g % (2*s.n):Nat):Int) with gs:=.again }
 | .again=>if s.c (4*(s.g % s.n))=2*(1-(lap s.n s.g:Int)) then { s with gs:=.unwish } else { s with gs:=.sleep }
 | .sleep=>if s.c (4*s.n+2)=0 then s else { s with gs:=.hush }
 | .hush=>{ s.put (4*s.n+2) 0 with gs:=.unwish }
 | .unwish=>{ s.put (4*s.n) (-1) with gs:=.look }
 | .number=>{ s.put (4*(s.g % s.n)+1) (o9 s.os s.g) with gs:=.left }
 | .left=>{ s.put (4*(s.g % s.n)+2) (t9 s.os s.g) with gs:=.thing }
 | .thing=>{ s.put (4*(s.g % s.n)+3) (a0r s.os s.g) with gs:=.mark }
 | .mark=>{ s.put (4*(s.g % s.n)) (2*(lap s.n s.g:Int)+1) with gs:=.card,g:=s.g+1 }
 | .card=>if s.c (4*s.n+1)=(((s.g-1) % (2*s.n):Nat):Int) then { s with gs:=.ring } else { s with gs:=.look }
 | .ring=>{ s.put (4*s.n+3) 1 with gs:=.look }
 | .free=>s
def b0z(s:Ln):Ln:=if s.f=s.t+1 then { s with ts:=.look,t:=s.f } else { s with ts:=.free }
def tstep(s:Ln):Ln :=
 match s.ts with
 | .rouse=>{ s.put (4*s.n+2) 1 with ts:=.clear }
 | .clear=>{ s.put (4*s.n+1) (-1) with ts:=.mute }
 | .mute=>{ s.put (4*s.n+3) 0 with ts:=.marks }
 | .marks=>if s.tseen.length+1<s.n then { s with tseen:=s.tseen++[s.c (4*s.tseen.length)] } else { s with tseen:=[],ts:=.look }
 | .look=>if s.c (4*(s.t % s.n))=2*(lap s.n s.t:Int)+1 then { s with ts:=.number } else { s with ts:=.wish }
 | .wish=>{ s.put (4*s.n+1) ((s.t % (2*s.n):Nat):Int) with ts:=.again }
 | .again=>if s.c (4*(s.t % s.n))=2*(lap s.n s.t:Int)+1 then { s with ts:=.unwish } else { s with ts:=.sleep }
 | .sleep=>if s.c (4*s.n+3)=0 then s else { s with ts:=.hush }
 | .hush=>{ s.put (4*s.n+3) 0 with ts:=.unwish }
 | .unwish=>{ s.put (4*s.n+1) (-1) with ts:=.look }
 | .number=>{ s with ts:=.left }
 | .left=>{ s with ts:=.thing }
 | .thing=>if 0<t9 s.os s.t then { s with ts:=.look,t:=s.t+1 } else { s with ts:=.free,bk:=if o9 s.os s.t=s.bk.length then s.bk++[a1c s.os s.f (s.t+1-s.f)] else s.bk }
 | .free=>{ s.put (4*(s.f % s.n)) (2*(lap s.n s.f:Int)) with ts:=.card,f:=s.f+1 }
 | .card=>if s.c (4*s.n)=(((s.f-1+s.n) % (2*s.n):Nat):Int) then { s with ts:=.ring } else b0z s
 | .ring=>b0z (s.put (4*s.n+2) 1)
 | .told|.lacks|.mark=>s
def gfall(s:Ln):Ln:={ s with gs:=.rouse,gseen:=[] }
def tfall(s:Ln):Ln:={ s with ts:=.rouse,tseen:=[],t:=s.f }
def a3w(s:Ln)(o:List Int):Ln:={ s with os:=s.os++[o] }
def Stg.wait:Stg->Bool
 | .wish|.again|.sleep|.hush|.unwish=>true
 | _=>false
def Stg.gives:Stg->Bool
 | .number|.left|.thing|.mark=>true
 | _=>false
def Stg.takes:Stg->Bool
 | .number|.left|.thing=>true
 | _=>false
def Stg.frees:Stg->Bool
 | .card|.ring=>true
 | _=>false
structure Core(s:Ln):Prop where
 n2:2<=s.n
 n8:s.n<=8
 good:Good s.n s.os
 fg:s.f<=s.g
 gf:s.g<=s.f+s.n
 gt:s.g<=tot s.os
 mks:Marks s.n s.f s.g s.c
 slip:∀i,i<s.g->(s.g<i+s.n\/s.f<=i)->s.c (4*(i % s.n)+1)=o9 s.os i/\s.c (4*(i % s.n)+2)=t9 s.os i/\s.c (4*(i % s.n)+3)=a0r s.os i
 slip0:s.g=0->s.c (4*(s.n-1)+1)=-1/\s.c (4*(s.n-1)+2)=0
structure GOk(s:Ln):Prop where
 st:s.gs≠.free
 seen0:s.gs≠.marks->s.gseen=[]
 seen:s.gseen.length<s.n/\∀q m,s.gseen[q]?=some m->m / 2=(c0t s.n s.g q:Int)/\0<=m/\m<=3
 want:s.gs.wait=true->s.g<tot s.os
 room:s.gs.gives=true->s.g<tot s.os/\s.g<s.f+s.n
 c1:s.gs=.left\/s.gs=.thing\/s.gs=.mark->s.c (4*(s.g % s.n)+1)=o9 s.os s.g
 c2:s.gs=.thing\/s.gs=.mark->s.c (4*(s.g % s.n)+2)=t9 s.os s.g
 c3:s.gs=.mark->s.c (4*(s.g % s.n)+3)=a0r s.os s.g
 pos:s.gs.frees=true->0<s.g
structure TOk(s:Ln):Prop where
 st:s.ts≠.told/\s.ts≠.lacks/\s.ts≠.mark
 seen0:s.ts≠.marks->s.tseen=[]
 seen:s.tseen.length<s.n/\∀q m,s.tseen[q]?=some m->(if m / 2≠m % 2 then (1:Int) else 0)=(c0t s.n s.f q:Int)/\0<=m/\m<=3
 bk:s.bk=s.os.take s.bk.length
 bl:s.bk.length<=s.os.length
 bf:s.f<=beg s.os s.bk.length
 bf0:∀b,s.bk.length=b+1->beg s.os b<=s.f
 ft:s.f<=s.t+(if s.ts.frees then 1 else 0)
 tg:s.t<=s.g
 run:∀i,s.f<=i+(if s.ts.frees then 1 else 0)->i<s.t->0<t9 s.os i
 come:s.ts=.rouse\/s.ts=.clear\/s.ts=.mute\/s.ts=.marks->s.t=s.f
 lies:s.ts.takes=true->s.t<s.g
 last:s.ts=.free\/s.ts.frees=true->s.t<s.g/\t9 s.os s.t=0/\o9 s.os s.t+1=s.bk.length
 pos:s.ts.frees=true->0<s.f
structure Ok(s:Ln):Prop where
 core:Core s
 gv:GOk s
 tk:TOk s
section
variable{s:Ln}
theorem Core.pl(h:Core s)(i:Nat):i % s.n<s.n:=Nat.mod_lt _ (by have:=h.n2;lia)
theorem Core.high(h:Core s){k:Nat}{v:Int}(hk:4*s.n<=k):Core (s.put k v):=by
 have hn:0<s.n:=by have:=h.n2;lia
 exact {
  n2:=h.n2,n8:=h.n8,good:=h.good,fg:=h.fg,gf:=h.gf,gt:=h.gt
  mks:=h.mks.other hn λq hq=>by lia
  slip:=λi h1 h2=>by
   have:=h.pl i;obtain⟨a,b,c⟩:=h.slip i h1 h2;refine⟨?_,?_,?_⟩
   ·exact(put_ne _ _ (by show 4*(i % s.n)+1≠k;lia)).trans a
   ·exact(put_ne _ _ (by show 4*(i % s.n)+2≠k;lia)).trans b
   ·exact(put_ne _ _ (by show 4*(i % s.n)+3≠k;lia)).trans c
  slip0:=λe=>by
   have:=h.n2;obtain⟨a,b⟩:=h.slip0 e;exact⟨(put_ne _ _ (by show 4*(s.n-1)+1≠k;lia)).trans a,(put_ne _ _ (by show 4*(s.n-1)+2≠k;lia)).trans b⟩ }
theorem Core.ahead(h:Core s)(room:s.g<s.f+s.n){k:Nat}{v:Int}(k1:1<=k)(k3:k<=3):Core (s.put (4*(s.g % s.n)+k) v):=by
 have hn:0<s.n:=by have:=h.n2;lia
 have hp:=h.pl s.g;exact {
  n2:=h.n2,n8:=h.n8,good:=h.good,fg:=h.fg,gf:=h.gf,gt:=h.gt
  mks:=h.mks.other hn λq hq=>by lia
  slip:=λi h1 h2=>by
   have h1':i<s.g:=h1;have h2':s.g<i+s.n\/s.f<=i:=h2;have ne:i % s.n≠s.g % s.n:=λz=>by have:=c4c z ↑3 ↑3;lia
   obtain⟨a,b,c⟩:=h.slip i h1 h2;refine⟨?_,?_,?_⟩
   ·exact(put_ne _ _ (by show 4*(i % s.n)+1≠_;lia)).trans a
   ·exact(put_ne _ _ (by show 4*(i % s.n)+2≠_;lia)).trans b
   ·exact(put_ne _ _ (by show 4*(i % s.n)+3≠_;lia)).trans c
  slip0:=λe=>by
   have:=h.n2;have e':s.g=0:=e;have hz:s.g % s.n=0:=by rw[e',Nat.zero_mod]
   obtain⟨a,b⟩:=h.slip0 e;exact⟨(put_ne _ _ (by show 4*(s.n-1)+1≠_;lia)).trans a,(put_ne _ _ (by show 4*(s.n-1)+2≠_;lia)).trans b⟩ }
theorem Core.cong{s':Ln}(h:Core s)(e1:s'.n=s.n)(e2:s'.c=s.c)(e3:s'.os=s.os)(e4:s'.f=s.f)(e5:s'.g=s.g):Core s':=by
 obtain⟨n,c,os,bk,gs,gseen,ts,tseen,f,g,t⟩:=s;obtain⟨n',c',os',bk',gs',gseen',ts',tseen',f',g',t'⟩:=s';dsimp only at e1 e2 e3 e4 e5;subst e1 e2 e3 e4 e5;exact⟨h.n2,h.n8,h.good,h.fg,h.gf,h.gt,h.mks,h.slip,h.slip0⟩
theorem TOk.giver{s':Ln}(h:TOk s)(e1:s'.n=s.n)(e2:s'.os=s.os)(e3:s'.bk=s.bk)(e4:s'.ts=s.ts)(e5:s'.tseen=s.tseen)(e6:s'.f=s.f)(e7:s'.t=s.t)(le:s.g<=s'.g):TOk s':=by
 obtain⟨n,c,os,bk,gs,gseen,ts,tseen,f,g,t⟩:=s;obtain⟨n',c',os',bk',gs',gseen',ts',tseen',f',g',t'⟩:=s';dsimp only at e1 e2 e3 e4 e5 e6 e7 le;subst e1 e2 e3 e4 e5 e6 e7;exact⟨h.st,h.seen0,h.seen,h.bk,h.bl,h.bf,h.bf0,h.ft,Nat.le_trans h.tg le,h.run,h.come,λz=>Nat.lt_of_lt_of_le (h.lies z) le,λz=>⟨Nat.lt_of_lt_of_le (h.last z).1 le,(h.last z).2⟩,h.pos⟩
theorem GOk.taker{s':Ln}(h:GOk s)(e1:s'.n=s.n)(e2:s'.os=s.os)(e3:s'.gs=s.gs)(e4:s'.gseen=s.gseen)(e5:s'.g=s.g)(le:s.f<=s'.f)(hc:∀k,1<=k->k<=3->s'.c (4*(s.g % s.n)+k)=s.c (4*(s.g % s.n)+k)):GOk s':=by
 obtain⟨n,c,os,bk,gs,gseen,ts,tseen,f,g,t⟩:=s;obtain⟨n',c',os',bk',gs',gseen',ts',tseen',f',g',t'⟩:=s';dsimp only at e1 e2 e3 e4 e5 le hc;subst e1 e2 e3 e4 e5;refine⟨h.st,h.seen0,h.seen,h.want,λz=>⟨(h.room z).1,by have:=(h.room z).2;show g'<f'+n';dsimp only at this;lia⟩,λz=>?_,λz=>?_,λz=>?_,h.pos⟩
 ·exact(hc 1 ↑3 ↑3).trans (h.c1 z)
 ·exact(hc 2 ↑3 ↑3).trans (h.c2 z)
 ·exact(hc 3 ↑3 ↑3).trans (h.c3 z)
theorem Ok.hn(h:Ok s):0<s.n:=by have:=h.core.n2;lia
theorem b7r{n:Nat}(hn:0<n)(P:Nat->Int->Prop):([]:List Int).length<n/\∀q m,([]:List Int)[q]?=some m->P q m:=⟨hn,λq m e=>by simp at e⟩
theorem a6q{s:Ln}(hs:s.gseen=[])(hn:0<s.n)(st:s.gs≠.free:=by dsimp only;decide)(want:s.gs.wait=true->s.g<tot s.os:=by exact λz=>absurd z (by dsimp only;decide))(room:s.gs.gives=true->s.g<tot s.os/\s.g<s.f+s.n:=by exact λz=>absurd z (by dsimp only;decide))(c1:s.gs=.left\/s.gs=.thing\/s.gs=.mark->s.c (4*(s.g % s.n)+1)=o9 s.os s.g:=by exact λz=>absurd z (by dsimp only;decide))(c2:s.gs=.thing\/s.gs=.mark->s.c (4*(s.g % s.n)+2)=t9 s.os s.g:=by exact λz=>absurd z (by dsimp only;decide))(c3:s.gs=.mark->s.c (4*(s.g % s.n)+3)=a0r s.os s.g:=by exact λz=>absurd z (by dsimp only;decide))(pos:s.gs.frees=true->0<s.g:=by exact λz=>absurd z (by dsimp only;decide)):GOk s :=
 ⟨st,λ_=>hs,by rw[hs];exact b7r hn _,want,room,c1,c2,c3,pos⟩
theorem c4t{s:Ln}(hs:s.tseen=[])(hn:0<s.n)(bk:s.bk=s.os.take s.bk.length)(bl:s.bk.length<=s.os.length)(bf:s.f<=beg s.os s.bk.length)(bf0:∀b,s.bk.length=b+1->beg s.os b<=s.f)(ft:s.f<=s.t+(if s.ts.frees then 1 else 0))(tg:s.t<=s.g)(run:∀i,s.f<=i+(if s.ts.frees then 1 else 0)->i<s.t->0<t9 s.os i)(st:s.ts≠.told/\s.ts≠.lacks/\s.ts≠.mark:=by dsimp only;decide)(come:s.ts=.rouse\/s.ts=.clear\/s.ts=.mute\/s.ts=.marks->s.t=s.f:=by exact λz=>absurd z (by dsimp only;decide))(lies:s.ts.takes=true->s.t<s.g:=by exact λz=>absurd z (by dsimp only;decide))(last:s.ts=.free\/s.ts.frees=true->s.t<s.g/\t9 s.os s.t=0/\o9 s.os s.t+1=s.bk.length:=by exact λz=>absurd z (by dsimp only;decide))(pos:s.ts.frees=true->0<s.f:=by exact λz=>absurd z (by dsimp only;decide)):TOk s :=
 ⟨st,λ_=>hs,by rw[hs];exact b7r hn _,bk,bl,bf,bf0,ft,tg,run,come,lies,last,pos⟩
theorem g0(h:Ok s){x:Stg}(e:s.gs=x)(n:x≠.marks:=by decide):s.gseen=[]:=h.gv.seen0 (by rw[e];exact n)
theorem t0(h:Ok s){x:Stg}(e:s.ts=x)(n:x≠.marks:=by decide):s.tseen=[]:=h.tk.seen0 (by rw[e];exact n)
theorem Ok.gmv(h:Ok s){x:Stg}{c':Cells}(core':Core { s with c:=c' })(gv:GOk { s with c:=c',gs:=x }):Ok { s with c:=c',gs:=x }:=⟨core'.cong rfl rfl rfl rfl rfl,gv,h.tk.giver rfl rfl rfl rfl rfl rfl rfl (Nat.le_refl _)⟩
theorem d1d(h:Ok s):Ok (gstep s):=by
 have hn:=h.hn;have n2:=h.core.n2;have hp:=h.core.pl s.g;have mg:=h.core.mks.mayGive hn h.core.fg h.core.gf;unfold gstep;split <;> rename_i e
 ·exact h.gmv (h.core.high ↑3) (a6q (g0 h e :) hn)
 ·exact h.gmv (h.core.high ↑3) (a6q (g0 h e :) hn)
 ·exact h.gmv (h.core.high ↑3) (a6q (g0 h e :) hn)
 ·split
  ·rename_i hl
   refine⟨h.core.cong rfl rfl rfl rfl rfl,⟨h.gv.st,λz=>absurd e z,⟨?_,λq m hq=>?_⟩,h.gv.want,h.gv.room,h.gv.c1,h.gv.c2,h.gv.c3,h.gv.pos⟩,h.tk.giver rfl rfl rfl rfl rfl rfl rfl (Nat.le_refl _)⟩
   ·show(s.gseen++[_]).length<s.n
    rw[List.length_append];exact hl
   ·have hq':(s.gseen++[s.c (4*s.gseen.length)])[q]?=some m:=hq
    by_cases z:q<s.gseen.length
    ·rw[List.getElem?_append_left z] at hq'
     exact h.gv.seen.2 q m hq'
    ·rw[List.getElem?_append_right ↑3] at hq'
     have hz:q=s.gseen.length:=by
      have:=(List.getElem?_eq_some_iff.mp hq').1;simp at this;lia
     subst hz;simp at hq';subst hq';exact⟨h.core.mks.laps hn h.gv.seen.1,h.core.mks.range hn h.gv.seen.1⟩
  ·exact⟨h.core.cong rfl rfl rfl rfl rfl,a6q rfl hn,h.tk.giver rfl rfl rfl rfl rfl rfl rfl (Nat.le_refl _)⟩
 ·exact h.gmv h.core (a6q (g0 h e :) hn)
 ·exact h.gmv h.core (a6q (g0 h e :) hn)
 ·split
  ·rename_i ht
   split
   ·rename_i hm
    exact h.gmv h.core (a6q (g0 h e :) hn (room:=λ_=>⟨ht,mg.mp hm⟩))
   ·exact h.gmv h.core (a6q (g0 h e :) hn (want:=λ_=>ht))
  ·exact h
 ·exact h.gmv (h.core.high ↑3) (a6q (g0 h e :) hn (want:=λ_=>h.gv.want (by rw[e];rfl)))
 ·split <;> exact h.gmv h.core (a6q (g0 h e :) hn (want:=λ_=>h.gv.want (by rw[e];rfl)))
 ·split
  ·exact h
  ·exact h.gmv h.core (a6q (g0 h e :) hn (want:=λ_=>h.gv.want (by rw[e];rfl)))
 ·exact h.gmv (h.core.high ↑3) (a6q (g0 h e :) hn (want:=λ_=>h.gv.want (by rw[e];rfl)))
 ·exact h.gmv (h.core.high ↑3) (a6q (g0 h e :) hn)
 ·have r:=h.gv.room (by rw[e];rfl)
  exact h.gmv (h.core.ahead r.2 ↑3 ↑3) (a6q (g0 h e :) hn (room:=λ_=>r) (c1:=λ_=>put_same _ _ _))
 ·have r:=h.gv.room (by rw[e];rfl)
  exact h.gmv (h.core.ahead r.2 ↑3 ↑3) (a6q (g0 h e :) hn (room:=λ_=>r) (c1:=λ_=>(put_ne _ _ ↑3).trans (h.gv.c1 (.inl e))) (c2:=λ_=>put_same _ _ _))
 ·have r:=h.gv.room (by rw[e];rfl)
  exact h.gmv (h.core.ahead r.2 ↑3 ↑3) (a6q (g0 h e :) hn (room:=λ_=>r) (c1:=λ_=>(put_ne _ _ ↑3).trans (h.gv.c1 (.inr (.inl e)))) (c2:=λ_=>(put_ne _ _ ↑3).trans (h.gv.c2 (.inl e))) (c3:=λ_=>put_same _ _ _))
 ·obtain⟨r1,r2⟩:=h.gv.room (by rw[e];rfl)
  have par:∀{i k:Nat}{v:Int},1<=k->k<=3->put s.c (4*(s.g % s.n)) v (4*(i % s.n)+k)=s.c (4*(i % s.n)+k):=λ{i k v} _ _=>put_ne _ _ ↑3;refine⟨⟨n2,h.core.n8,h.core.good,Nat.le_succ_of_le h.core.fg,r2,r1,h.core.mks.give hn h.core.fg r2,λi h1 h2=>?_,λz=>absurd z (Nat.succ_ne_zero _)⟩,a6q (g0 h e :) hn (pos:=λ_=>Nat.succ_pos _),h.tk.giver rfl rfl rfl rfl rfl rfl rfl (Nat.le_succ _)⟩;have h1':i<s.g+1:=h1;have h2':s.g+1<i+s.n\/s.f<=i:=h2;show put s.c (4*(s.g % s.n)) _ (4*(i % s.n)+1)=_/\put s.c (4*(s.g % s.n)) _ (4*(i % s.n)+2)=_/\put s.c (4*(s.g % s.n)) _ (4*(i % s.n)+3)=_;rw[par ↑3 ↑3,par ↑3 ↑3,par ↑3 ↑3];by_cases z:i=s.g
  ·subst z;exact⟨h.gv.c1 (.inr (.inr e)),h.gv.c2 (.inr e),h.gv.c3 e⟩
  ·exact h.core.slip i ↑3 ↑3
 ·split
  ·exact h.gmv h.core (a6q (g0 h e :) hn (pos:=λ_=>h.gv.pos (by rw[e];rfl)))
  ·exact h.gmv h.core (a6q (g0 h e :) hn)
 ·exact h.gmv (h.core.high ↑3) (a6q (g0 h e :) hn)
 ·exact absurd e h.gv.st
theorem c8o{os:List (List Int)}{a t:Nat}(ht:t<tot os)(run:∀i,a<=i->i<t->0<t9 os i):∀k,a<=t-k->o9 os (t-k)=o9 os t
 | 0,_=>rfl
 | k+1,h=>by
  by_cases z:t<=k
  ·have e1:t-(k+1)=t-k:=by lia
   rw[e1];exact c8o ht run k ↑3
  ·have ih:=c8o ht run k ↑3
   have:=(next_part (os:=os) (i:=t-(k+1)) ↑3 (run _ h ↑3)).2.1;rw[<- this,show t-(k+1)+1=t-k by lia]
   exact ih
theorem e1k{os:List (List Int)}{a t:Nat}(ht:t<tot os)(at_:a<=t)(run:∀i,a<=i->i<t->0<t9 os i):o9 os a=o9 os t:=by
 have:=c8o ht run (t-a) ↑3
 rwa [show t-(t-a)=a by lia] at this
theorem Ok.tmv(h:Ok s){x:Stg}{c':Cells}(hs:s.tseen=[])(core':Core { s with c:=c' })(kc:∀k,1<=k->k<=3->c' (4*(s.g % s.n)+k)=s.c (4*(s.g % s.n)+k))(hf:x.frees=s.ts.frees)(hx:x≠.told/\x≠.lacks/\x≠.mark:=by decide)(hc:x=.rouse\/x=.clear\/x=.mute\/x=.marks->s.t=s.f:=by exact λz=>absurd z ↑6)(hl:x.takes=true->s.t<s.g:=by exact λz=>absurd z ↑6)(hx2:x=.free\/x.frees=true->s.t<s.g/\t9 s.os s.t=0/\o9 s.os s.t+1=s.bk.length:=by exact λz=>absurd z ↑6):
  Ok { s with c:=c',ts:=x } :=
 ⟨core'.cong rfl rfl rfl rfl rfl,h.gv.taker rfl rfl rfl rfl rfl (Nat.le_refl _) kc,c4t hs h.hn h.tk.bk h.tk.bl h.tk.bf h.tk.bf0 (by show s.f<=s.t+(if x.frees then 1 else 0);rw[hf];exact h.tk.ft) h.tk.tg (by
   show ∀i,s.f<=i+(if x.frees then 1 else 0)->_;rw[hf];exact h.tk.run) hx hc hl hx2 λz=>h.tk.pos (by rw[<- hf];exact z)⟩
theorem d1h(core:Core s)(gv:GOk s)(tk:TOk s)(hf:s.ts.frees=true)(hs:s.tseen=[]):Ok (b0z s):=by
 have ft:=tk.ft;have run:=tk.run;have lst:=tk.last (.inr hf);have hn:0<s.n:=by have:=core.n2;lia
 rw[hf] at ft run;simp only[if_true] at ft run;unfold b0z;split
 ·exact⟨core.cong rfl rfl rfl rfl rfl,gv.taker rfl rfl rfl rfl rfl (Nat.le_refl _) (λ_ _ _=>rfl),c4t hs hn tk.bk tk.bl tk.bf tk.bf0 (Nat.le_refl _) core.fg λi h1 h2=>absurd h2 (Nat.not_lt_of_le h1)⟩
 ·exact⟨core.cong rfl rfl rfl rfl rfl,gv.taker rfl rfl rfl rfl rfl (Nat.le_refl _) (λ_ _ _=>rfl),c4t hs hn tk.bk tk.bl tk.bf tk.bf0 (by show s.f<=s.t+0;lia) tk.tg (λi (h1:s.f<=i+0) h2=>run i ↑3 h2) (last:=λ_=>lst)⟩
theorem d3p{os:List (List Int)}{B:Nat}{o:List Int}(h:os[B]?=some o):a1c os (beg os B) o.length=o:=by
 apply List.ext_getElem?;intro i;unfold a1c;rw[List.getElem?_map];by_cases z:i<o.length
 ·rw[List.getElem?_range z,Option.map_some,c4u h i z,List.getD_eq_getElem?_getD,List.getElem?_eq_getElem z]
  rfl
 ·rw[List.getElem?_eq_none (by rw[List.length_range];lia),List.getElem?_eq_none ↑3]
  rfl
theorem booked(core:Core s)(tk:TOk s)(hf:s.ts.frees=false)(tg:s.t<s.g)(h0:t9 s.os s.t=0):
  let bk':=if o9 s.os s.t=s.bk.length then s.bk++[a1c s.os s.f (s.t+1-s.f)] else s.bk
  bk'=s.os.take bk'.length/\bk'.length<=s.os.length/\s.f<=beg s.os bk'.length/\(∀b,bk'.length=b+1->beg s.os b<=s.f)/\o9 s.os s.t+1=bk'.length:=by
 intro bk';have ft:=tk.ft;have run:=tk.run;rw[hf] at ft run;simp only[Bool.false_eq_true,if_false,Nat.add_zero] at ft run;have tt:s.t<tot s.os:=Nat.lt_of_lt_of_le tg core.gt;have nf:o9 s.os s.f=o9 s.os s.t:=e1k tt ft run;obtain⟨a1,a2⟩:=a3a (n:=0) tt;obtain⟨d1,d2⟩:=a3a (n:=0) (os:=s.os) (i:=s.f) ↑3;have nl:=a8d tt;rw[h0] at a2;by_cases e:o9 s.os s.t=s.bk.length
 ·have hbk':bk'=s.bk++[a1c s.os s.f (s.t+1-s.f)]:=if_pos e
  have hl:bk'.length=s.bk.length+1:=by rw[hbk',List.length_append];rfl
  rw[nf,e] at d1;rw[e] at a2 nl;have ef:s.f=beg s.os s.bk.length:=by have:=tk.bf;lia
  have ho:s.os[s.bk.length]?=some s.os[s.bk.length]:=List.getElem?_eq_getElem nl;have hs:=d1o ho;have hth:a1c s.os s.f (s.t+1-s.f)=s.os[s.bk.length]:=by
   have:=d3p ho;rw[<- ef] at this;rw[show s.t+1-s.f=s.os[s.bk.length].length by lia]
   exact this
  refine⟨?_,?_,?_,λb hb=>?_,?_⟩
  ·rw[hl,hbk',hth,List.take_succ,ho]
   show s.bk++_=s.os.take s.bk.length++_;rw[<- tk.bk]
   rfl
  ·rw[hl];lia
  ·rw[hl];have:=d1p s.os (j:=s.bk.length) (k:=s.bk.length+1) ↑3;lia
  ·rw[hl] at hb
   have:b=s.bk.length:=by lia
   rw[this];lia
  ·rw[hl,e]
 ·have hbk':bk'=s.bk:=if_neg e
  rw[hbk'];refine⟨tk.bk,tk.bl,tk.bf,tk.bf0,?_⟩;have bf:=tk.bf;have lt:s.f<beg s.os s.bk.length:=by
   by_cases z:s.f<beg s.os s.bk.length
   ·exact z
   ·exfalso
    by_cases y:s.bk.length<s.os.length
    ·have:=d1q core.good y
     exact e (nf ▸ a4f (os:=s.os) (i:=s.f) (j:=s.bk.length) ↑3 ↑3)
    ·have:=d6q s.os (j:=s.bk.length) ↑3
     lia
  cases hb:s.bk.length with
  | zero=>rw[hb,a3d] at lt;lia
  | succ b=>
   rw[hb] at lt;have:=tk.bf0 b hb;rw[<- nf,a4f this lt]
theorem d0d(h:Ok s):Ok (tstep s):=by
 have hn:=h.hn;have n2:=h.core.n2;have hp:=h.core.pl s.g;have high:∀{j:Nat}{v:Int}(k:Nat),1<=k->k<=3->put s.c (4*s.n+j) v (4*(s.g % s.n)+k)=s.c (4*(s.g % s.n)+k):=λ{j v} k _ _=>put_ne _ _ ↑3;unfold tstep;split <;> rename_i e
 ·exact h.tmv (t0 h e) (h.core.high ↑3) high (by rw[e];rfl) (hc:=λ_=>h.tk.come (.inl e))
 ·exact h.tmv (t0 h e) (h.core.high ↑3) high (by rw[e];rfl) (hc:=λ_=>h.tk.come (.inr (.inl e)))
 ·exact h.tmv (t0 h e) (h.core.high ↑3) high (by rw[e];rfl) (hc:=λ_=>h.tk.come (.inr (.inr (.inl e))))
 ·have ft:=h.tk.ft
  have run:=h.tk.run;rw[e] at ft run;split
  ·rename_i hl
   refine⟨h.core.cong rfl rfl rfl rfl rfl,h.gv.taker rfl rfl rfl rfl rfl (Nat.le_refl _) (λ_ _ _=>rfl),⟨h.tk.st,λz=>absurd e z,⟨?_,λq m hq=>?_⟩,h.tk.bk,h.tk.bl,h.tk.bf,h.tk.bf0,h.tk.ft,h.tk.tg,h.tk.run,h.tk.come,h.tk.lies,h.tk.last,h.tk.pos⟩⟩
   ·show(s.tseen++[_]).length<s.n
    rw[List.length_append];exact hl
   ·have hq':(s.tseen++[s.c (4*s.tseen.length)])[q]?=some m:=hq
    by_cases z:q<s.tseen.length
    ·rw[List.getElem?_append_left z] at hq'
     exact h.tk.seen.2 q m hq'
    ·rw[List.getElem?_append_right ↑3] at hq'
     have hz:q=s.tseen.length:=by
      have:=(List.getElem?_eq_some_iff.mp hq').1;simp at this;lia
     subst hz;simp at hq';subst hq';exact⟨h.core.mks.sides hn h.core.fg h.core.gf h.tk.seen.1,h.core.mks.range hn h.tk.seen.1⟩
  ·exact⟨h.core.cong rfl rfl rfl rfl rfl,h.gv.taker rfl rfl rfl rfl rfl (Nat.le_refl _) (λ_ _ _=>rfl),c4t rfl hn h.tk.bk h.tk.bl h.tk.bf h.tk.bf0 ft h.tk.tg run⟩
 ·have ft:=h.tk.ft
  rw[e] at ft;split
  ·rename_i hm
   exact h.tmv (t0 h e) h.core (λ_ _ _=>rfl) (by rw[e];rfl) (hl:=λ_=>(h.core.mks.mayTake hn ft h.tk.tg h.core.gf).mp hm)
  ·exact h.tmv (t0 h e) h.core (λ_ _ _=>rfl) (by rw[e];rfl)
 ·exact h.tmv (t0 h e) (h.core.high ↑3) high (by rw[e];rfl)
 ·split <;> exact h.tmv (t0 h e) h.core (λ_ _ _=>rfl) (by rw[e];rfl)
 ·split
  ·exact h
  ·exact h.tmv (t0 h e) h.core (λ_ _ _=>rfl) (by rw[e];rfl)
 ·exact h.tmv (t0 h e) (h.core.high ↑3) high (by rw[e];rfl)
 ·exact h.tmv (t0 h e) (h.core.high ↑3) high (by rw[e];rfl)
 ·exact h.tmv (t0 h e) h.core (λ_ _ _=>rfl) (by rw[e];rfl) (hl:=λ_=>h.tk.lies (by rw[e];rfl))
 ·exact h.tmv (t0 h e) h.core (λ_ _ _=>rfl) (by rw[e];rfl) (hl:=λ_=>h.tk.lies (by rw[e];rfl))
 ·have hl:=h.tk.lies (by rw[e];rfl)
  have ft:=h.tk.ft;have run:=h.tk.run;have hfr:s.ts.frees=false:=by rw[e];rfl
  rw[hfr] at ft run;simp only[Bool.false_eq_true,if_false,Nat.add_zero] at ft run;split
  ·rename_i hlf
   refine⟨h.core.cong rfl rfl rfl rfl rfl,h.gv.taker rfl rfl rfl rfl rfl (Nat.le_refl _) (λ_ _ _=>rfl),c4t (t0 h e :) hn h.tk.bk h.tk.bl h.tk.bf h.tk.bf0 (Nat.le_succ_of_le ft) hl λi (h1:s.f<=i+0) (h2:i<s.t+1)=>?_⟩;by_cases z:i=s.t
   ·rw[z];exact hlf
   ·exact run i ↑3 ↑3
  ·rename_i hlf
   obtain⟨k1,k2,k3,k4,k5⟩:=booked h.core h.tk hfr hl ↑3;exact⟨h.core.cong rfl rfl rfl rfl rfl,h.gv.taker rfl rfl rfl rfl rfl (Nat.le_refl _) (λ_ _ _=>rfl),c4t (t0 h e :) hn k1 k2 k3 k4 ft h.tk.tg run (last:=λ_=>⟨hl,Nat.eq_zero_of_not_pos hlf,k5⟩)⟩
 ·obtain⟨l1,l2,l3⟩:=h.tk.last (.inl e)
  have ft:=h.tk.ft;have run:=h.tk.run;have hfr:s.ts.frees=false:=by rw[e];rfl
  rw[hfr] at ft run;simp only[Bool.false_eq_true,if_false,Nat.add_zero] at ft run;have hpf:=h.core.pl s.f;have fg:s.f<s.g:=by lia
  have par:∀{i k:Nat}{v:Int},1<=k->k<=3->put s.c (4*(s.f % s.n)) v (4*(i % s.n)+k)=s.c (4*(i % s.n)+k):=λ{i k v} _ _=>put_ne _ _ ↑3;obtain⟨_,io⟩:=a3a (n:=0) (os:=s.os) (i:=s.t) (by have:=h.core.gt;lia)
  rw[l2,l3] at io;refine⟨⟨n2,h.core.n8,h.core.good,fg,by have:=h.core.gf;show s.g<=s.f+1+s.n;lia,h.core.gt,h.core.mks.free hn fg h.core.gf,λi h1 (h2:s.g<i+s.n\/s.f+1<=i)=>?_,λz=>absurd z (by show s.g≠0;lia)⟩,h.gv.taker rfl rfl rfl rfl rfl (Nat.le_succ _) (λk k1 k3=>par k1 k3),c4t (t0 h e :) hn h.tk.bk h.tk.bl (by show s.f+1<=beg s.os s.bk.length;lia) (λb hb=>Nat.le_succ_of_le (h.tk.bf0 b hb)) (Nat.succ_le_succ ft) h.tk.tg (λi h1 h2=>run i (Nat.le_of_succ_le_succ h1) h2) (last:=λ_=>⟨l1,l2,l3⟩) (pos:=λ_=>Nat.succ_pos _)⟩
  show put s.c (4*(s.f % s.n)) _ (4*(i % s.n)+1)=_/\put s.c (4*(s.f % s.n)) _ (4*(i % s.n)+2)=_/\put s.c (4*(s.f % s.n)) _ (4*(i % s.n)+3)=_;rw[par ↑3 ↑3,par ↑3 ↑3,par ↑3 ↑3];exact h.core.slip i h1 ↑3
 ·split
  ·exact h.tmv (t0 h e) h.core (λ_ _ _=>rfl) (by rw[e];rfl) (hx2:=λ_=>h.tk.last (.inr (by rw[e];rfl)))
  ·exact d1h h.core h.gv h.tk (by rw[e];rfl) (t0 h e)
 ·exact d1h (s:=s.put (4*s.n+2) 1) (h.core.high ↑3) (h.gv.taker rfl rfl rfl rfl rfl (Nat.le_refl _) high) (h.tk.giver rfl rfl rfl rfl rfl rfl rfl (Nat.le_refl _)) (by show s.ts.frees=true;rw[e];rfl) (t0 h e :)
 ·exact absurd e h.tk.st.1
 ·exact absurd e h.tk.st.2.1
 ·exact absurd e h.tk.st.2.2
theorem d8n(h:Ok s):Ok (gfall s):=⟨h.core.cong rfl rfl rfl rfl rfl,a6q rfl h.hn (by unfold gfall;dsimp only;decide) (λz=>absurd z (by unfold gfall;dsimp only;decide)) (λz=>absurd z (by unfold gfall;dsimp only;decide)) (λz=>absurd z (by unfold gfall;dsimp only;decide)) (λz=>absurd z (by unfold gfall;dsimp only;decide)) (λz=>absurd z (by unfold gfall;dsimp only;decide)) (λz=>absurd z (by unfold gfall;dsimp only;decide)),h.tk.giver rfl rfl rfl rfl rfl rfl rfl (Nat.le_refl _)⟩
theorem d7c(h:Ok s):Ok (tfall s) :=
 ⟨h.core.cong rfl rfl rfl rfl rfl,h.gv.taker rfl rfl rfl rfl rfl (Nat.le_refl _) (λ_ _ _=>rfl),c4t rfl h.hn h.tk.bk h.tk.bl h.tk.bf h.tk.bf0 (Nat.le_refl _) h.core.fg (λi h1 h2=>absurd h2 (Nat.not_lt_of_le h1)) (by unfold tfall;dsimp only;decide) (λ_=>rfl) (λz=>absurd z (by unfold tfall;dsimp only;decide)) (λz=>absurd z (by unfold tfall;dsimp only;decide)) (λz=>absurd z (by unfold tfall;dsimp only;decide))⟩
theorem c9z(h:Ok s){o:List Int}(ho:1<=o.length/\o.length<=s.n):Ok (a3w s o):=by
 have le:tot s.os<=tot (s.os++[o]):=by rw[d1u];lia
 have gt:=h.core.gt;have tg:=h.tk.tg;have mn:∀{i:Nat},i<s.g->o9 (s.os++[o]) i=o9 s.os i:=λhi=>(a4w ↑3).1;have ml:∀{i:Nat},i<s.g->t9 (s.os++[o]) i=t9 s.os i:=λhi=>(a4w ↑3).2;have mt:∀{i:Nat},i<s.g->a0r (s.os++[o]) i=a0r s.os i:=λhi=>b6h ↑3;have mb:∀{b:Nat},b<=s.os.length->beg (s.os++[o]) b=beg s.os b:=λhb=>d8d hb;refine⟨⟨h.core.n2,h.core.n8,?_,h.core.fg,h.core.gf,Nat.le_trans gt le,h.core.mks,λi h1 h2=>?_,h.core.slip0⟩,⟨h.gv.st,h.gv.seen0,h.gv.seen,λz=>Nat.lt_of_lt_of_le (h.gv.want z) le,λz=>⟨Nat.lt_of_lt_of_le (h.gv.room z).1 le,(h.gv.room z).2⟩,λz=>?_,λz=>?_,λz=>?_,h.gv.pos⟩,
  ⟨h.tk.st,h.tk.seen0,h.tk.seen,?_,?_,?_,λb hb=>?_,h.tk.ft,h.tk.tg,λi h1 h2=>?_,h.tk.come,h.tk.lies,λz=>?_,h.tk.pos⟩⟩
 ·intro p hp
  rcases List.mem_append.mp hp with hp|hp
  ·exact h.core.good p hp
  ·rw[List.mem_singleton.mp hp];exact ho
 ·have h1':i<s.g:=h1
  show s.c _=((o9 (s.os++[o]) i:Nat):Int)/\s.c _=((t9 (s.os++[o]) i:Nat):Int)/\s.c _=a0r (s.os++[o]) i;rw[mn h1',ml h1',mt h1'];exact h.core.slip i h1 h2
 ·have hg:s.g<tot s.os:=by
   refine (h.gv.room ?_).1;rcases z with z|z|z <;> (have z':s.gs=_:=z;rw[z'];rfl)
  show s.c _=((o9 (s.os++[o]) s.g:Nat):Int);rw[(a4w hg).1];exact h.gv.c1 z
 ·have hg:s.g<tot s.os:=by
   refine (h.gv.room ?_).1;rcases z with z|z <;> (have z':s.gs=_:=z;rw[z'];rfl)
  show s.c _=((t9 (s.os++[o]) s.g:Nat):Int);rw[(a4w hg).2];exact h.gv.c2 z
 ·have hg:s.g<tot s.os:=by
   refine (h.gv.room ?_).1;have z':s.gs=_:=z;rw[z'];rfl
  show s.c _=a0r (s.os++[o]) s.g;rw[b6h hg];exact h.gv.c3 z
 ·show s.bk=(s.os++[o]).take s.bk.length
  rw[List.take_append_of_le_length h.tk.bl];exact h.tk.bk
 ·show s.bk.length<=(s.os++[o]).length
  rw[List.length_append];have:=h.tk.bl;lia
 ·show s.f<=beg (s.os++[o]) s.bk.length
  rw[mb h.tk.bl];exact h.tk.bf
 ·have hb':s.bk.length=b+1:=hb
  show beg (s.os++[o]) b<=s.f;rw[mb (by have:=h.tk.bl;lia)]
  exact h.tk.bf0 b hb
 ·have h2':i<s.t:=h2
  show 0<t9 (s.os++[o]) i;rw[ml ↑3];exact h.tk.run i h1 h2
 ·obtain⟨a,b,c⟩:=h.tk.last z
  refine⟨a,?_,?_⟩
  ·show t9 (s.os++[o]) s.t=0
   rw[ml a];exact b
  ·show o9 (s.os++[o]) s.t+1=s.bk.length
   rw[mn a];exact c
def a6c(n:Nat):Cells:=λi=>if i<4*n then (if i % 4=0 then 2 else if i % 4=1 then -1 else 0) else if i<4*n+2 then -1 else 0
def a1g(n:Nat):Ln:={ n:=n,c:=a6c n,os:=[],bk:=[],gs:=.rouse,gseen:=[],ts:=.rouse,tseen:=[],f:=0,g:=0,t:=0 }
theorem d2w{n:Nat}(h2:2<=n)(h8:n<=8):Ok (a1g n):=by
 have hn:0<n:=by lia
 refine⟨⟨h2,h8,λ_ h=>by simp[a1g] at h,Nat.le_refl _,Nat.zero_le _,Nat.zero_le _,⟨λi h=>absurd h (Nat.not_lt_zero _),λq h1 h2=>?_⟩,λi h=>absurd h (Nat.not_lt_zero _),λ_=>⟨?_,?_⟩⟩,
  ⟨by unfold a1g;dsimp only;decide,λ_=>rfl,b7r hn _,λz=>absurd z (by unfold a1g;dsimp only;decide),λz=>absurd z (by unfold a1g;dsimp only;decide),λz=>absurd z (by unfold a1g;dsimp only;decide),λz=>absurd z (by unfold a1g;dsimp only;decide),λz=>absurd z (by unfold a1g;dsimp only;decide),λz=>absurd z (by unfold a1g;dsimp only;decide)⟩,
  ⟨by unfold a1g;dsimp only;decide,λ_=>rfl,b7r hn _,rfl,Nat.le_refl _,Nat.zero_le _,λb hb=>by simp[a1g] at hb,Nat.zero_le _,Nat.le_refl _,λi _ h=>absurd h (Nat.not_lt_zero _),λ_=>rfl,λz=>absurd z (by unfold a1g;dsimp only;decide),λz=>absurd z (by unfold a1g;dsimp only;decide),λz=>absurd z (by unfold a1g;dsimp only;decide)⟩⟩
 ·have h1':q<n:=h1
  show a6c n (4*q)=2;unfold a6c;rw[if_pos ↑3,if_pos ↑3]
 ·show a6c n (4*(n-1)+1)=-1
  unfold a6c;rw[if_pos ↑3,if_neg ↑3,if_pos ↑3]
 ·show a6c n (4*(n-1)+2)=0
  unfold a6c;rw[if_pos ↑3,if_neg ↑3,if_neg ↑3]
end
end Pr
namespace S
open PySem L2
def top(i:Nat):Stmt:=PySem.Challenge.pw_slipring_k30_whole_two_halls.main.body.getD i (.Pass ⟨0,0,0,0⟩)
structure Cl where
 Board:Addr
 Hand:Addr
 Giver:Addr
 Taker:Addr
 Lane:Addr
 Hall:Addr
 t_HANDS:Addr
 d_DEEDS_hand:Addr
 d_DEEDS_giver:Addr
 d_DEEDS_taker:Addr
 d_OUT_HANDS:Addr
 d_BACK_HANDS:Addr
 d_SIDES:Addr
structure Txt(K:Frag)(mg:Str->Option Value)(cl:Cl):Prop where
 c_Board:ExM mg "Board" cl.Board
 c_Hand:ExM mg "Hand" cl.Hand
 c_Giver:ExM mg "Giver" cl.Giver
 c_Taker:ExM mg "Taker" cl.Taker
 c_Lane:ExM mg "Lane" cl.Lane
 c_Hall:ExM mg "Hall" cl.Hall
 m_LEAST_SIZE:∃t,mg "LEAST_SIZE" = some (.int (2) t)
 m_MOST_SIZE:∃t,mg "MOST_SIZE" = some (.int (8) t)
 m_FREE:∃t,mg "FREE" = some (.int (0) t)
 m_FULL:∃t,mg "FULL" = some (.int (1) t)
 m_MOST_MARK:∃t,mg "MOST_MARK" = some (.int (3) t)
 m_CELLS_OF_A_PLACE:∃t,mg "CELLS_OF_A_PLACE" = some (.int (4) t)
 m_NEW_MARK:∃t,mg "NEW_MARK" = some (.int (2) t)
 m_NO_ORDER:∃t,mg "NO_ORDER" = some (.int (-1) t)
 m_NO_TURN:∃t,mg "NO_TURN" = some (.int (-1) t)
 m_STILL:∃t,mg "STILL" = some (.int (0) t)
 m_RUNG:∃t,mg "RUNG" = some (.int (1) t)
 m_SHELVES:∃t,mg "SHELVES" = some (.int (4) t)
 r_HANDS:mg "HANDS" = some (.ref cl.t_HANDS)
 kt_HANDS:KTup K cl.t_HANDS [.str "giver",.str "taker"]
 k_Board:Cls K cl.Board
 n_Board_many_touches:NoAttr K cl.Board "many_touches"
 n_Board_newest_touch:NoAttr K cl.Board "newest_touch"
 n_Board_numbers:NoAttr K cl.Board "numbers"
 n_Board_size:NoAttr K cl.Board "size"
 k_Hand:Cls K cl.Hand
 n_Hand_board:NoAttr K cl.Hand "board"
 n_Hand_here:NoAttr K cl.Hand "here"
 n_Hand_marks_read:NoAttr K cl.Hand "marks_read"
 n_Hand_name:NoAttr K cl.Hand "name"
 n_Hand_other:NoAttr K cl.Hand "other"
 n_Hand_stage_behind_marks:NoAttr K cl.Hand "stage_behind_marks"
 n_Hand_stage_now:NoAttr K cl.Hand "stage_now"
 n_Hand_touched:NoAttr K cl.Hand "touched"
 k_Giver:Cls K cl.Giver
 n_Giver_board:NoAttr K cl.Giver "board"
 n_Giver_here:NoAttr K cl.Giver "here"
 n_Giver_kept:NoAttr K cl.Giver "kept"
 n_Giver_left:NoAttr K cl.Giver "left"
 n_Giver_marks_read:NoAttr K cl.Giver "marks_read"
 n_Giver_name:NoAttr K cl.Giver "name"
 n_Giver_number:NoAttr K cl.Giver "number"
 n_Giver_other:NoAttr K cl.Giver "other"
 n_Giver_stage_behind_marks:NoAttr K cl.Giver "stage_behind_marks"
 n_Giver_stage_now:NoAttr K cl.Giver "stage_now"
 n_Giver_touched:NoAttr K cl.Giver "touched"
 k_Taker:Cls K cl.Taker
 n_Taker_board:NoAttr K cl.Taker "board"
 n_Taker_here:NoAttr K cl.Taker "here"
 n_Taker_left:NoAttr K cl.Taker "left"
 n_Taker_marks_read:NoAttr K cl.Taker "marks_read"
 n_Taker_name:NoAttr K cl.Taker "name"
 n_Taker_not_freed:NoAttr K cl.Taker "not_freed"
 n_Taker_number:NoAttr K cl.Taker "number"
 n_Taker_other:NoAttr K cl.Taker "other"
 n_Taker_parts:NoAttr K cl.Taker "parts"
 n_Taker_stage_behind_marks:NoAttr K cl.Taker "stage_behind_marks"
 n_Taker_stage_now:NoAttr K cl.Taker "stage_now"
 n_Taker_taken:NoAttr K cl.Taker "taken"
 n_Taker_touched:NoAttr K cl.Taker "touched"
 k_Lane:Cls K cl.Lane
 n_Lane_board:NoAttr K cl.Lane "board"
 n_Lane_giver:NoAttr K cl.Lane "giver"
 n_Lane_kept_trail:NoAttr K cl.Lane "kept_trail"
 n_Lane_taker:NoAttr K cl.Lane "taker"
 n_Lane_touched:NoAttr K cl.Lane "touched"
 k_Hall:Cls K cl.Hall
 n_Hall_back:NoAttr K cl.Hall "back"
 n_Hall_finished:NoAttr K cl.Hall "finished"
 n_Hall_out:NoAttr K cl.Hall "out"
 n_Hall_sums:NoAttr K cl.Hall "sums"
 r_DEEDS_hand:mg "DEEDS_hand" = some (.ref cl.d_DEEDS_hand)
 r_DEEDS_giver:mg "DEEDS_giver" = some (.ref cl.d_DEEDS_giver)
 r_DEEDS_taker:mg "DEEDS_taker" = some (.ref cl.d_DEEDS_taker)
 r_OUT_HANDS:mg "OUT_HANDS" = some (.ref cl.d_OUT_HANDS)
 r_BACK_HANDS:mg "BACK_HANDS" = some (.ref cl.d_BACK_HANDS)
 r_SIDES:mg "SIDES" = some (.ref cl.d_SIDES)
 z_len:mg "len" = none
 z_range:mg "range" = none
 z_max:mg "max" = none
 z_min:mg "min" = none
 z_isinstance:mg "isinstance" = none
 z_int:mg "int" = none
 z_bool:mg "bool" = none
 z_list:mg "list" = none
 z_all:mg "all" = none
 z_tuple:mg "tuple" = none
 z_sum:mg "sum" = none
 z_sorted:mg "sorted" = none
set_option hygiene false in
local macro_rules | `(tactic| fail "l")=>`(tactic| first|(rw[h.1];rfl)|(obtain⟨_,h⟩:=h;fail "l")|(obtain⟨_,_,_,_,h⟩:=h;fail "l")|(obtain⟨_,_,_,_,_,_,h⟩:=h;fail "l")|(obtain⟨_,_,_,_,_,_,_,_,_,_,_,_,h⟩:=h;fail "l"))
local macro_rules | `(tactic| walk_at "at")=>`(tactic| first|assumption|exact d7|(refine (c7 ?_).trans ?_;(walk_at "ne");(walk_at "at"))|(refine Same.at ?_ ?_;assumption;(walk_at "at")))
local macro_rules | `(tactic| walk_at "ne")=>`(tactic| first|assumption|exact Ne.symm (by assumption)|((refine' g9 ?h ?n);(case n=>assumption);(case h=>walk_at "at"))|((refine Ne.symm ?_);(refine' g9 ?h ?n);(case n=>assumption);(case h=>walk_at "at")))
local macro_rules | `(tactic| walk_at "cond")=>`(tactic| first|trivial|exact Or.inl ⟨by decide,by decide⟩|exact Or.inr ⟨by decide,by decide⟩|exact Or.inl ⟨by lia,by lia⟩|exact Or.inr ⟨by lia,by lia⟩|(show(0:Int)<_;lia)|(show(0:Int)<_;decide))
local macro_rules | `(tactic| walk_at "go1")=>`(tactic| first
 | ((with_reducible refine' e7c ?h ?_);(case h=>exact rfl))
 | with_reducible refine g_c ?_|with_reducible refine e9m ?_|with_reducible refine e9j ?_|with_reducible refine e9v ?_|with_reducible refine g_U ?_
 | ((with_reducible refine' g_I ?h ?_);(case h=>walk_at "cond"))
 | ((with_reducible refine' e8u ?h ?_);(case h=>exact rfl))|((with_reducible refine' e9n ?h ?_);(case h=>exact rfl))
 | with_reducible refine e9s ?_|with_reducible refine e7k ?_|with_reducible refine e5p ?_
 | (with_reducible refine e7e ?_)|(with_reducible refine e7m ?_)|with_reducible refine e9r ?_|with_reducible refine g_fnJ ?_
 | with_reducible refine e7p ?_|with_reducible refine e9o ?_|with_reducible refine g_mtJ ?_|with_reducible refine e9p ?_|with_reducible refine g_mkJ ?_
 | with_reducible refine e4w ?_|with_reducible refine e9k ?_|with_reducible refine e7u ?_|with_reducible refine e9l ?_|with_reducible refine e7j ?_|with_reducible refine e5u ?_|with_reducible refine e7i ?_|with_reducible refine e5d ?_|with_reducible refine e7n ?_
 | with_reducible refine e9u ?_|with_reducible refine e6f ?_|with_reducible refine e4p ?_|with_reducible refine e6y ?_|with_reducible refine e6z ?_
 | ((with_reducible refine e4y ?_);intro _ _)|with_reducible refine e5e ?_|with_reducible refine e5m ?_|with_reducible refine e7h ?_|with_reducible refine g_retN ?_|with_reducible refine e9q ?_|with_reducible refine e7t ?_|with_reducible refine e5f ?_|with_reducible refine e7f ?_|with_reducible refine e4x ?_|with_reducible refine g_raise ?_|with_reducible refine g_tryAs ?_
 | ((with_reducible refine' e5l ?h ?c ?n ?l ?_);(case h=>walk_at "at");(case c=>walk_at "cls");(case n=>walk_at "nat");(case l=>first|exact rfl|assumption))
 | ((with_reducible refine' e2d ?h ?c ?n ?l ?_);(case h=>walk_at "at");(case c=>walk_at "cls");(case n=>walk_at "nat");(case l=>exact Nat.le_of_ble_eq_true rfl))
 | with_reducible refine e7s ?_|with_reducible refine e5b ?_
 | ((with_reducible refine' e5t ?h ?c ?n ?l ?_);(case h=>walk_at "at");(case c=>walk_at "cls");(case n=>walk_at "nat");(case l=>first|exact rfl|assumption))
 | ((with_reducible refine' e5s ?h ?l ?_);(case h=>walk_at "at");(case l=>exact Nat.le_of_ble_eq_true rfl))
 | ((with_reducible refine' e7l ?h ?l ?_);(case h=>walk_at "at");(case l=>exact rfl))
 | ((with_reducible refine' a0w ?h ?e ?_);(case h=>walk_at "at");(case e=>exact rfl))
 | ((with_reducible refine' g_ixT ?h ?e ?_);(case h=>walk_at "at");(case e=>exact rfl))
 | ((with_reducible refine' e5j ?h ?_);(case h=>walk_at "at"))|((with_reducible refine' e5i ?h ?_);(case h=>walk_at "at"))
 | with_reducible refine e7o ?_|with_reducible refine e5a ?_|with_reducible refine e4z ?_|with_reducible refine e5g ?_|with_reducible refine e5q ?_
 | ((with_reducible refine' d9r ?h1 ?h2 ?_);(case h1=>lia);(case h2=>lia))|((with_reducible refine' d9r ?h1 ?h2 ?_);(case h1=>decide);(case h2=>decide))
 | ((with_reducible refine' e5h ?h ?_);(case h=>exact SqL.of (by walk_at "at")))
 | with_reducible refine e7r ?_|((with_reducible refine' e2f ?h ?_);(case h=>walk_at "at"))
 | with_reducible refine e9t ?_|((with_reducible refine' e7d ?h ?_);(case h=>walk_at "at"))|((with_reducible refine' c4k ?h ?l ?_);(case h=>walk_at "at");(case l=>first|exact Nat.le_of_ble_eq_true rfl|lia))
 | ((with_reducible refine' e2c ?h ?_);(case h=>assumption))|((with_reducible refine e5k ?_);intro _ _))
local macro_rules | `(tactic| walk_at "go")=>`(tactic| repeat (walk_at "go1"))
local macro_rules | `(tactic| ext)=>`(tactic| walk_at "go")
set_option hygiene false in
local macro_rules | `(tactic| walk_at "cls")=>`(tactic| first|assumption|exact T.k_Board|exact T.k_Hand|exact T.k_Giver|exact T.k_Taker|exact T.k_Lane|exact T.k_Hall)
set_option hygiene false in
local macro_rules | `(tactic| walk_at "nat")=>`(tactic| first|assumption|exact T.n_Board_many_touches|exact T.n_Board_newest_touch|exact T.n_Board_numbers|exact T.n_Board_size|exact T.n_Hand_board|exact T.n_Hand_here|exact T.n_Hand_marks_read|exact T.n_Hand_name|exact T.n_Hand_other|exact T.n_Hand_stage_behind_marks|exact T.n_Hand_stage_now|exact T.n_Hand_touched|exact T.n_Giver_board|exact T.n_Giver_here|exact T.n_Giver_kept|exact T.n_Giver_left|exact T.n_Giver_marks_read|exact T.n_Giver_name|exact T.n_Giver_number|exact T.n_Giver_other|exact T.n_Giver_stage_behind_marks|exact T.n_Giver_stage_now|exact T.n_Giver_touched|exact T.n_Taker_board|exact T.n_Taker_here|exact T.n_Taker_left|exact T.n_Taker_marks_read|exact T.n_Taker_name|exact T.n_Taker_not_freed|exact T.n_Taker_number|exact T.n_Taker_other|exact T.n_Taker_parts|exact T.n_Taker_stage_behind_marks|exact T.n_Taker_stage_now|exact T.n_Taker_taken|exact T.n_Taker_touched|exact T.n_Lane_board|exact T.n_Lane_giver|exact T.n_Lane_kept_trail|exact T.n_Lane_taker|exact T.n_Lane_touched|exact T.n_Hall_back|exact T.n_Hall_finished|exact T.n_Hall_out|exact T.n_Hall_sums)
section
variable{P:Program}{w:World}{K:Frag}{mg:Str->Option Value}{qb:Heap}{cl:Cl}
theorem b2x:1<=sizeLine:=by decide
def a1i(cl:Cl):Sp:=λvs H Q E=>∃n,vs=[.int n]/\(if 2<=n/\n<=8 then Q .non H else False)
def a7c(cl:Cl)(n t:Int)(H:Hp)(E:XK)(k:Prop):Prop:=if 2<=n/\n<=8 then (if 0<=t/\t<2*n then k else False) else False
theorem a4x{cl:Cl}{n t:Int}{H:Hp}{E:XK}{k k':Prop}(h:a7c cl n t H E k)(i:2<=n->n<=8->0<=t->t<2*n->k->k'):a7c cl n t H E k':=by
 unfold a7c at h ⊢;by_cases a:2<=n/\n<=8
 ·rw[if_pos a] at h ⊢
  by_cases b:0<=t/\t<2*n
  ·rw[if_pos b] at h ⊢;exact i a.1 a.2 b.1 b.2 h
  ·rw[if_neg b] at h ⊢;exact h
 ·rw[if_neg a] at h ⊢;exact h
def a4t(cl:Cl):Sp:=λvs H Q E=>∃n t,vs=[.int n,.int t]/\a7c cl n t H E (Q .non H)
def a7i(cl:Cl):Sp:=λvs H Q E=>∃n t,vs=[.int n,.int t]/\a7c cl n t H E (Q (.int (t % n)) H)
def b3i(cl:Cl):Sp:=λvs H Q E=>∃n t,vs=[.int n,.int t]/\a7c cl n t H E (Q (.int (t / n)) H)
def a5a(cl:Cl):Sp:=λvs H Q E=>∃n t m,vs=[.int n,.int t,.int m]/\a7c cl n t H E (Q (.int ((t+m) % (2*n))) H)
abbrev a9b:Stmt:=top 14
theorem c2a:g7 ["size"] ["size"] (d8 a9b):=↑1
theorem c3k(D:DefT K mg "check_size" a9b ["size"])(T:Txt K mg cl):FnT P w K mg qb "check_size" 1 ["size"] (a1i cl):=by
 refine D.fn c2a ↑5 ↑8
 ·fail "l"
 ·obtain⟨n,rfl,h⟩:=h
  refine⟨_,(d9 (a0s (PW.pt (b4h (k8 b2w (pv 0) (v5 T.m_LEAST_SIZE rfl) (n9 _)) (a8b (k8 c6b (pv 0) (v5 T.m_MOST_SIZE rfl) (n9 _)))))
    (d9 a2x)
    v3)),?_⟩
  refine⟨_,rfl,_,_,rfl,rfl,_,rfl,b3g (λc=>?_) (λc=>⟨_,rfl,_,_,rfl,rfl,_,rfl,b3g (λd=>?_) (λd=>?_)⟩)⟩
  ·rw[if_neg (by have:=of_decide_eq_true c;lia)] at h
   exact b3g (λ_=>h) (λz=>absurd rfl z)
  ·rw[if_neg (by have:=of_decide_eq_true d;lia)] at h
   exact h
  ·simp only[decide_eq_true_eq] at c d
   rw[if_pos ↑3] at h;exact h
abbrev a9a:Stmt:=top 15
theorem c1z:g7 ["size","turn"] ["size","turn"] (d8 a9a):=↑1
variable(P w K mg qb cl)in
abbrev qaa:=FnT P w K mg qb "check_size" 1 ["size"] (a1i cl)
theorem c3j(D:DefT K mg "check_turn" a9a ["size","turn"])(T:Txt K mg cl)(G_check_size:qaa P w K mg qb cl):FnT P w K mg qb "check_turn" 2 ["size","turn"] (a4t cl):=by
 refine D.fn c1z ↑5 ↑8
 ·fail "l"
 ·obtain⟨n,t,rfl,h⟩:=h
  refine⟨_,(d5 (j9 (k7 G_check_size hr ↑6 rfl i4 (a7 (pv 0) d6)))
   (d9 (a0s (PW.pt (b4h (k8 b2w (pv 1) i8 (n9 _)) (a8b (k8 e1h (pv 1) (o8 a5m i8 (pv 0)) (n9 _)))))
    (d9 a2x)
    v3))),?_⟩
  unfold a7c at h;refine⟨_,rfl,n,rfl,b3g (λa=>?_) (λa=>?_)⟩
  ·rw[if_pos a] at h
   simp[e6m,tOr,d7l,tOp,rI0,rI,e2z,tC,L2.start,d7m,d9i,e0n,CMul];refine b3g (λc=>?_) (λc=>b3g (λd=>?_) (λd=>?_))
   ·rw[if_neg ↑3] at h;exact h
   ·rw[if_neg ↑3] at h;exact h
   ·rw[if_pos ↑3] at h;exact h
  ·rw[if_neg a] at h
   exact h
abbrev b5k:Stmt:=top 16
theorem c8d:g7 ["size","turn"] ["size","turn"] (d8 b5k):=↑1
variable(P w K mg qb cl)in
abbrev qab:=FnT P w K mg qb "check_turn" 2 ["size","turn"] (a4t cl)
theorem c8v(D:DefT K mg "place_of" b5k ["size","turn"])(T:Txt K mg cl)(G_check_turn:qab P w K mg qb cl):FnT P w K mg qb "place_of" 3 ["size","turn"] (a7i cl):=by
 refine D.fn c8d ↑5 ↑8
 ·fail "l"
 ·obtain⟨n,t,rfl,h⟩:=h
  refine⟨_,(d5 (j9 (k7 G_check_turn hr ↑6 rfl i4 (a7 (pv 0) (a7 (pv 1) d6))))
   (d9 (j1 (o8 a5n (pv 1) (pv 0))))),?_⟩
  refine⟨_,rfl,_,rfl,n,t,rfl,a4x h λn2 n8 t0 t1 q=>?_⟩;exact⟨_,rfl,_,rfl,_,_,rfl,rfl,↑3,q⟩
abbrev c2r:Stmt:=top 17
theorem d3x:g7 ["size","turn"] ["size","turn"] (d8 c2r):=↑1
theorem e6x(n:Int)(h0:0<n)(h:n<2 ^ 200):n.natAbs.log2<9000:=by
 have h1:n.natAbs<2 ^ 200:=by lia
 have h2:=(Nat.log2_lt (n:=n.natAbs) (k:=200) ↑3).mpr h1;lia
theorem d4w(D:DefT K mg "lap_of" c2r ["size","turn"])(T:Txt K mg cl)(G_check_turn:qab P w K mg qb cl):FnT P w K mg qb "lap_of" 3 ["size","turn"] (b3i cl):=by
 refine D.fn d3x ↑5 ↑8
 ·fail "l"
 ·obtain⟨n,t,rfl,h⟩:=h
  refine⟨_,(d5 (j9 (k7 G_check_turn hr ↑6 rfl i4 (a7 (pv 0) (a7 (pv 1) d6))))
   (d9 (j1 (o8 b4l (pv 1) (pv 0))))),?_⟩
  refine⟨_,rfl,_,rfl,n,t,rfl,a4x h λn2 n8 t0 t1 q=>?_⟩;exact⟨_,rfl,_,rfl,_,_,rfl,rfl,⟨by lia,e6x n ↑3 ↑3⟩,q⟩
abbrev c2o:Stmt:=top 18
theorem d3w:g7 ["size","turn","many"] ["size","turn","many"] (d8 c2o):=↑1
theorem d4u(D:DefT K mg "onward" c2o ["size","turn","many"])(T:Txt K mg cl)(G_check_turn:qab P w K mg qb cl):FnT P w K mg qb "onward" 3 ["size","turn","many"] (a5a cl):=by
 refine D.fn d3w ↑5 ↑8
 ·fail "l"
 ·obtain⟨n,t,m,rfl,h⟩:=h
  refine⟨_,(d5 (j9 (k7 G_check_turn hr ↑6 rfl i4 (a7 (pv 0) (a7 (pv 1) d6))))
   (d9 (j1 (o8 a5n (o8 a1b (pv 1) (pv 2)) (o8 a5m i8 (pv 0)))))),?_⟩
  refine⟨_,rfl,_,rfl,n,t,rfl,a4x h λn2 n8 t0 t1 q=>?_⟩;exact⟨_,rfl,_,rfl,_,_,rfl,rfl,_,rfl,_,_,rfl,rfl,.inl ⟨by decide,by decide⟩,_,_,rfl,rfl,↑3,q⟩
def d9o(cl:Cl)(m:Int)(H:Hp)(E:XK)(k:Prop):Prop:=if 0<=m/\m<=3 then k else False
def b3k(cl:Cl):Sp:=λvs H Q E=>∃m,vs=[.int m]/\d9o cl m H E (Q .non H)
def b0b:Sp:=λvs H Q E=>∃a b,vs=[.int a,.int b]/\Q (.int (2*a+b)) H
def a8n(cl:Cl):Sp:=λvs H Q E=>∃n t,vs=[.int n,.int t]/\a7c cl n t H E (Q (.int (2*(t / n)+1)) H)
def b6s(cl:Cl):Sp:=λvs H Q E=>∃n t,vs=[.int n,.int t]/\a7c cl n t H E (Q (.int (2*(t / n)+0)) H)
def a8l(cl:Cl):Sp:=λvs H Q E=>∃n t,vs=[.int n,.int t]/\a7c cl n t H E (Q (.int (2*(1-t / n)+0)) H)
abbrev a9c:Stmt:=top 23
theorem c2b:g7 ["mark"] ["mark"] (d8 a9c):=↑1
theorem c3l(D:DefT K mg "check_mark" a9c ["mark"])(T:Txt K mg cl):FnT P w K mg qb "check_mark" 1 ["mark"] (b3k cl):=by
 refine D.fn c2b ↑5 ↑8
 ·fail "l"
 ·obtain⟨n,rfl,h⟩:=h
  refine⟨_,(d9 (a0s (PW.pt (b4h (k8 b2w (pv 0) i8 (n9 _)) (a8b (k8 c6b (pv 0) (v5 T.m_MOST_MARK rfl) (n9 _)))))
    (d9 a2x)
    v3)),?_⟩
  unfold d9o at h;refine⟨_,rfl,_,_,rfl,rfl,_,rfl,b3g (λc=>?_) (λc=>⟨_,rfl,_,_,rfl,rfl,_,rfl,b3g (λd=>?_) (λd=>?_)⟩)⟩
  ·rw[if_neg (by have:=of_decide_eq_true c;lia)] at h
   exact b3g (λ_=>h) (λz=>absurd rfl z)
  ·rw[if_neg (by have:=of_decide_eq_true d;lia)] at h
   exact h
  ·simp only[decide_eq_true_eq] at c d
   rw[if_pos ↑3] at h;exact h
abbrev b8l:Stmt:=top 24
theorem d1v:g7 ["lap","side"] ["lap","side"] (d8 b8l):=↑1
theorem d2j(D:DefT K mg "mark_of" b8l ["lap","side"])(T:Txt K mg cl):FnT P w K mg qb "mark_of" 1 ["lap","side"] b0b:=by
 refine D.fn d1v ↑5 ↑8
 ·fail "l"
 ·obtain⟨a,b,rfl,h⟩:=h
  refine⟨_,(d9 (j1 (o8 a1b (o8 a5m i8 (pv 0)) (pv 1)))),?_⟩;exact⟨_,rfl,_,_,rfl,rfl,.inl ⟨by decide,by decide⟩,_,rfl,_,_,rfl,rfl,h⟩
abbrev b2e:Stmt:=top 27
theorem c5i:g7 ["size","turn"] ["size","turn"] (d8 b2e):=↑1
variable(P w K mg qb cl)in
abbrev qac:=FnT P w K mg qb "lap_of" 3 ["size","turn"] (b3i cl)
theorem c6n(D:DefT K mg "full_mark" b2e ["size","turn"])(T:Txt K mg cl)(G_lap_of:qac P w K mg qb cl)(G_mark_of:FnT P w K mg qb "mark_of" 1 ["lap","side"] b0b):FnT P w K mg qb "full_mark" 4 ["size","turn"] (a8n cl):=by
 refine D.fn c5i ↑5 ↑8
 ·fail "l"
 ·obtain⟨n,t,rfl,h⟩:=h
  refine⟨_,(d9 (j1 (k7 G_mark_of hr ↑6 rfl i4 (a7 (k7 G_lap_of hr ↑6 rfl i4 (a7 (pv 0) (a7 (pv 1) d6))) (a7 (v5 T.m_FULL rfl) d6))))),?_⟩;exact⟨_,rfl,_,rfl,n,t,rfl,a4x h λn2 n8 t0 t1 q=>⟨_,_,rfl,q⟩⟩
abbrev b2f:Stmt:=top 28
theorem c5j:g7 ["size","turn"] ["size","turn"] (d8 b2f):=↑1
theorem c6o(D:DefT K mg "free_mark" b2f ["size","turn"])(T:Txt K mg cl)(G_lap_of:qac P w K mg qb cl)(G_mark_of:FnT P w K mg qb "mark_of" 1 ["lap","side"] b0b):FnT P w K mg qb "free_mark" 4 ["size","turn"] (b6s cl):=by
 refine D.fn c5j ↑5 ↑8
 ·fail "l"
 ·obtain⟨n,t,rfl,h⟩:=h
  refine⟨_,(d9 (j1 (k7 G_mark_of hr ↑6 rfl i4 (a7 (k7 G_lap_of hr ↑6 rfl i4 (a7 (pv 0) (a7 (pv 1) d6))) (a7 (v5 T.m_FREE rfl) d6))))),?_⟩;exact⟨_,rfl,_,rfl,n,t,rfl,a4x h λn2 n8 t0 t1 q=>⟨_,_,rfl,q⟩⟩
theorem a0j{cl:Cl}{n t:Int}{H:Hp}{E:XK}{k:Prop}(n2:2<=n)(n8:n<=8)(t0:0<=t)(t1:t<2*n)(h:k):a7c cl n t H E k:=by
 unfold a7c;rw[if_pos ⟨n2,n8⟩,if_pos ⟨t0,t1⟩];exact h
abbrev a6k:Stmt:=top 29
theorem b8c:g7 ["size","turn"] ["size","turn"] (d8 a6k):=↑1
theorem b9c(D:DefT K mg "mark_to_give" a6k ["size","turn"])(T:Txt K mg cl)(G_lap_of:qac P w K mg qb cl)(G_mark_of:FnT P w K mg qb "mark_of" 1 ["lap","side"] b0b):FnT P w K mg qb "mark_to_give" 4 ["size","turn"] (a8l cl):=by
 refine D.fn b8c ↑5 ↑8
 ·fail "l"
 ·obtain⟨n,t,rfl,h⟩:=h
  refine⟨_,(d9 (j1 (k7 G_mark_of hr ↑6 rfl i4 (a7 (o8 b1g i8 (k7 G_lap_of hr ↑6 rfl i4 (a7 (pv 0) (a7 (pv 1) d6)))) (a7 (v5 T.m_FREE rfl) d6))))),?_⟩;exact⟨_,rfl,_,rfl,n,t,rfl,a4x h λn2 n8 t0 t1 q=>⟨_,_,rfl,rfl,_,_,rfl,q⟩⟩
def Well(H:Hp)(w:Addr):Prop:=∃a b p,H w=some (.lst [.int a,.int b,.int p])/\0<p/\p<2147483648
def But(w:Addr)(H H':Hp):Prop:=∀b o,H b=some o->b≠w->H' b=some o
theorem But.trans{w:Addr}{H H1 H2:Hp}(a:But w H H1)(b:But w H1 H2):But w H H2:=λc o e n=>b c o (a c o e n) n
theorem But.of{w:Addr}{H H':Hp}(s:Same H H'):But w H H':=λb o e _=>s b o e
theorem But.upd{w:Addr}{H:Hp}{o:HO}:But w H (upd H w o):=λb u e n=>by rw[c7 n];exact e
theorem i9{H:Hp}{p:Addr}{o:HO}(n:H p=none):Same H (upd H p o):=λb u e=>by rw[c7 (g9 e n)];exact e
theorem Well.same{H H':Hp}{w:Addr}(h:Well H w)(s:Same H H'):Well H' w:=let ⟨a,b,p,e,q⟩:=h;⟨a,b,p,s _ _ e,q⟩
theorem Well.at{H:Hp}{w:Addr}(h:Well H w):∃o,H w=some o:=let ⟨_,_,_,e,_⟩:=h;⟨_,e⟩
def a5b:Sp:=λvs H Q _=>∃w m,vs=[.ref w,.int m]/\Well H w/\0<m/\m<2 ^ 200/\∀r H',0<=r->r<m->Well H' w->But w H H'->Q (.int r) H'
abbrev b5o:Stmt:=top 111
theorem b8d:g7 ["well","many","got"] ["well","many"] (d8 b5o):=↑1
theorem c8z(D:DefT K mg "_law_take" b5o ["well","many"])(T:Txt K mg cl):FnT P w K mg qb "_law_take" 1 ["well","many"] a5b:=by
 refine D.fn b8d ↑5 ↑8
 ·fail "l"
 ·obtain⟨w,m,rfl,⟨a,b,p,hw,p0,p1⟩,m0,m1,k⟩:=h
  refine⟨_,(d5 (a0s (k8 c6b (v4 (j4 (K:=K)) (pv 0) i8 (λ_ _=>rfl)) i8 (n9 _))
     (
     d5 (n6 (i:=2) b8d.nd rfl (.inl rfl) (o8 a5n (v4 (j4 (K:=K)) (pv 0) i8 (λ_ _=>rfl)) (pv 1)))
     (d5 (b7a (o8 b4l (v4 (j4 (K:=K)) (pv 0) i8 (λ_ _=>rfl)) (pv 1)) (d0o (pv 0) i8 b3t))
     (d9 (j1 (pv 2)))))
     v3)
   (d5 (b7a (o8 a1b (o8 a5n (o8 a5m (v4 (j4 (K:=K)) (pv 0) i8 (λ_ _=>rfl)) i8) (v4 (j4 (K:=K)) (pv 0) i8 (λ_ _=>rfl))) i8) (d0o (pv 0) i8 b3t))
   (d9 (j1 (o8 a5n (o8 b4l (o8 a5n (o8 a5m (v4 (j4 (K:=K)) (pv 0) i8 (λ_ _=>rfl)) (v4 (j4 (K:=K)) (pv 0) i8 (λ_ _=>rfl))) i8) i8) (pv 1)))))),?_⟩
  refine⟨_,rfl,w,_,0,_,rfl,rfl,SqL.of hw,rfl,_,_,rfl,rfl,_,rfl,b3g (λc=>?_) (λc=>?_)⟩
  ·refine⟨_,rfl,w,_,0,_,rfl,rfl,SqL.of hw,rfl,_,rfl,_,_,rfl,rfl,m0,?_⟩
   refine⟨_,rfl,w,_,0,_,rfl,rfl,SqL.of hw,rfl,_,rfl,_,_,rfl,rfl,⟨m0,e6x m m0 m1⟩,_,rfl,w,_,0,0,rfl,rfl,hw,rfl,?_⟩;exact⟨_,rfl,k _ _ (Int.emod_nonneg _ ↑3) (Int.emod_lt_of_pos _ m0) ⟨_,_,_,d7,p0,p1⟩ But.upd⟩
  ·refine⟨_,rfl,w,_,1,_,rfl,rfl,SqL.of hw,rfl,_,_,rfl,rfl,.inr ⟨by decide,by decide⟩,_,rfl,w,_,2,_,rfl,rfl,SqL.of hw,rfl,_,_,rfl,rfl,p0,_,_,rfl,rfl,_,rfl,w,_,1,1,rfl,rfl,hw,rfl,?_⟩
   have h1:=Int.emod_nonneg (b*48271) (show p≠0 by lia)
   have h2:=Int.emod_lt_of_pos (b*48271) p0;refine⟨_,rfl,w,_,1,_,rfl,rfl,SqL.of d7,rfl,_,rfl,w,_,1,_,rfl,rfl,SqL.of d7,rfl,_,_,rfl,rfl,.inl ⟨by lia,by lia⟩,_,_,rfl,rfl,(by show(0:Int)<2147483423;decide),_,_,rfl,rfl,⟨by decide,by decide⟩,_,rfl,_,_,rfl,rfl,m0,?_⟩
   exact k _ _ (Int.emod_nonneg _ ↑3) (Int.emod_lt_of_pos _ m0) ⟨_,_,_,d7,p0,p1⟩ But.upd
theorem b6l{ns:List Int}{n:Nat}(h:n<ns.length):atI (ns.map V.int) (n:Int)=some (.int ns[n]):=by
 have hl:(ns.map V.int).length=ns.length:=List.length_map _;unfold atI ixN;rw[if_pos ↑3,if_pos ↑3];show(ns.map V.int)[(n:Int).toNat]?=_;rw[show(n:Int).toNat=n by lia,List.getElem?_map,List.getElem?_eq_getElem h]
 rfl
abbrev e0w:List V:=[.int 2147483647,.int 2147483629,.int 2147483587,.int 2147483579,.int 2147483563,.int 2147483549,.int 2147483543,.int 2147483497]
theorem d4f(j:Int)(h0:0<=j)(h1:j<8):∃v,atI e0w j=some (.int v)/\0<v/\v<2147483648:=by
 have:j=0\/j=1\/j=2\/j=3\/j=4\/j=5\/j=6\/j=7:=by lia
 rcases this with rfl|rfl|rfl|rfl|rfl|rfl|rfl|rfl <;> exact⟨_,rfl,by decide,by decide⟩
def b1k(K:Frag):Sp:=λvs H Q _=>∃(c:Addr)(ns:List Int)(k:Nat),vs=[.ref c,.int (k:Int)]/\SqL K H c (ns.map V.int)/\k<1000/\∀w H',H w=none->Same H H'->Well H' w->Q (.ref w) H'
abbrev b5n:Stmt:=top 110
theorem a3j:g7 ["script","k","cell","primes","seed"] ["script","k"] (d8 b5n):=↑1
theorem c8y(D:DefT K mg "_law_well" b5n ["script","k"])(T:Txt K mg cl):FnT P w K mg qb "_law_well" 1 ["script","k"] (b1k K):=by
 refine D.fn a3j ↑5 ↑8
 ·fail "l"
 ·obtain⟨c,ns,n,rfl,hc,hn,k⟩:=h
  refine⟨_,(d5 (n6 (i:=2) a3j.nd rfl (.inl rfl) i8)
   (d5 (a0s (k8 b2w (pv 1) (l7 (n5 (K:=K)) (by rfl) T.z_len PySem.boot_len (a7 (pv 0) d6)) (n9 _))
     (d9 (n6 (i:=2) a3j.nd rfl (.inl rfl) (v4 (j4 (K:=K)) (pv 0) (pv 1) (λ_ _=>rfl))))
     v3)
   (d5 (n6 (i:=3) a3j.nd rfl (.inl rfl) (t7 (a7 i8 (a7 i8 (a7 i8 (a7 i8 (a7 i8 (a7 i8 (a7 i8 (a7 i8 d6))))))))))
   (d5 (n6 (i:=4) a3j.nd rfl (.inl rfl) (o8 a5n (o8 a5m (o8 a1b (o8 a5n (pv 2) i8) i8) (o8 a1b i8 (o8 a5m i8 (pv 1)))) i8))
   (d5 (n6 (i:=4) a3j.nd rfl (.inl rfl) (o8 a1b (o8 a1b (o8 a5n (o8 a5m (pv 4) (pv 4)) i8) (pv 1)) i8))
   (d5 (a0s (k8 e1h (pv 2) (o8 d4s i8 i8) (n9 _))
     (d9 (j1 (t7 (a7 (pv 2) (a7 (pv 4) (a7 (v4 (j4 (K:=K)) (pv 3) (o8 a5n (pv 1) i8) (λ_ _=>rfl)) d6))))))
     v3)
   (d9 (j1 (t7 (a7 i8 (a7 (pv 4) (a7 (v4 (j4 (K:=K)) (pv 3) (o8 a5n (pv 1) i8) (λ_ _=>rfl)) d6)))))))))))),?_⟩
  refine⟨_,rfl,_,rfl,c,_,rfl,.inl hc,_,_,rfl,rfl,_,rfl,b3g (λa=>⟨_,rfl,_,rfl,c,_,(n:Int),_,rfl,rfl,hc,b6l (by have:=of_decide_eq_true a;rw[List.length_map] at this;lia),?_⟩) (λa=>?_)⟩
  all_goals
   refine⟨by show 8<=sizeLine;decide,λp hp=>?_⟩
   refine⟨_,rfl,_,_,rfl,rfl,(by show(0:Int)<2147483489;decide),_,_,rfl,rfl,_,rfl,_,_,rfl,rfl,.inl ⟨by decide,by decide⟩,_,_,rfl,rfl,_,_,rfl,rfl,.inl ⟨by lia,by lia⟩,_,_,rfl,rfl,(by show(0:Int)<2147483489;decide),?_⟩
   refine⟨_,rfl,_,rfl,_,_,rfl,rfl,.inl ⟨by lia,by lia⟩,_,_,rfl,rfl,(by show(0:Int)<2147483477;decide),_,rfl,_,_,rfl,rfl,_,_,rfl,rfl,?_⟩
   refine⟨_,rfl,_,_,rfl,rfl,⟨by decide,by decide,by decide⟩,_,_,rfl,rfl,_,rfl,b3g (λb=>?_) (λb=>?_)⟩
   all_goals
    obtain⟨v,hv,v0,v1⟩:=d4f ((n:Int) % 8) ↑3 ↑3
    first
     | refine⟨_,rfl,_,rfl,_,rfl,_,rfl,_,_,rfl,rfl,(by show(0:Int)<8;decide),p,_,_,_,rfl,rfl,SqL.of d7,hv,(by show 3<=sizeLine;decide),λq hq=>?_⟩
     | refine⟨_,rfl,_,rfl,_,rfl,_,_,rfl,rfl,(by show(0:Int)<8;decide),p,_,_,_,rfl,rfl,SqL.of d7,hv,(by show 3<=sizeLine;decide),λq hq=>?_⟩
    exact k q _ ((i9 hp).free hq) ((i9 hp).trans (i9 hq)) ⟨_,_,_,d7,v0,v1⟩
theorem d4h{ns:List Int}{Pr:Int->Prop}(h:∀v∈ns,Pr v){r:Int}(h0:0<=r)(h1:r<ns.length):∃v,atI (ns.map V.int) r=some (.int v)/\Pr v:=by
 have hr:r.toNat<ns.length:=by lia
 refine⟨ns[r.toNat],?_,h _ (List.getElem_mem hr)⟩;have e:=b6l hr
 rwa [show((r.toNat:Nat):Int)=r by lia] at e
theorem d7p{w:Addr}{H H1 H2:Hp}(s:Same H H1)(n:H w=none)(b:But w H1 H2):Same H H2:=λc o e=>b c o (s c o e) (g9 e n)
theorem Well.ne{H:Hp}{w p:Addr}(h:Well H w)(n:H p=none):p≠w:=by
 obtain⟨o,e⟩:=h.at;exact(g9 e n).symm
def b2i(b:Bool):Int:=if b then 1 else 0
def toB(ns:List Int):List Bool:=ns.map λx=>x == 1
def b1h(ns:List Int):Bool:=ns.all λx=>x == 0 || x == 1
theorem e0e(ns:List Int):(toB ns).length=ns.length:=List.length_map _
theorem d6o{ns:List Int}(h:b1h ns=true):(toB ns).map b2i=ns:=by
 induction ns with
 | nil=>rfl
 | cons x xs ih=>
  unfold b1h at h ih;rw[List.all_cons,Bool.and_eq_true] at h;have e:b2i (x == 1)=x:=by
   have h1:=h.1;unfold b2i;by_cases hx:x=1
   ·subst hx;rfl
   ·have:x=0:=by simpa[hx] using h1
    subst this;rfl
  show b2i (x == 1)::(toB xs).map b2i=x::xs;rw[e,ih h.2]
def a3g:List Bool->Nat
 | []=>0
 | b::bs=>1+(bs.takeWhile λx=>x == b).length
def a6e(bs:List Bool):Option Nat:=if (bs.drop (a3g bs)).any (λx=>x == bs.headD false) then none else some (((if bs.headD false then bs.length else 0)+a3g bs) % (2*bs.length))
def e6b(n t:Nat):List Bool:=List.replicate (t % n) (t / n == 1)++List.replicate (n-t % n) (!(t / n == 1))
def d6w:Nat->List (List Bool)
 | 0=>[[]]
 | n+1=>(d6w n).flatMap λbs=>[false::bs,true::bs]
theorem d0y:∀bs:List Bool,bs∈d6w bs.length
 | []=>List.mem_singleton.mpr rfl
 | b::bs=>by
  show b::bs∈(d6w bs.length).flatMap λbs=>[false::bs,true::bs];refine List.mem_flatMap.mpr ⟨bs,d0y bs,?_⟩;cases b <;> simp
def e0c:List (List Bool):=d6w 2++d6w 3++d6w 4++d6w 5++d6w 6++d6w 7++d6w 8
theorem d5a{bs:List Bool}(h2:2<=bs.length)(h8:bs.length<=8):bs∈e0c:=by
 have h:=d0y bs;unfold e0c;have:bs.length=2\/bs.length=3\/bs.length=4\/bs.length=5\/bs.length=6\/bs.length=7\/bs.length=8:=by lia
 simp only[List.mem_append];rcases this with e|e|e|e|e|e|e <;> rw[e] at h <;> simp[h]
theorem d6s:e0c.all (λbs=>decide (1<=a3g bs) && decide (a3g bs<=bs.length) && (List.range bs.length).all λj=>!decide (j<=a3g bs) || (if bs[j]?=bs[0]? then decide (j+1<=a3g bs) else decide (j=a3g bs)))=true:=by decide +kernel
theorem d6r{bs:List Bool}(h2:2<=bs.length)(h8:bs.length<=8):1<=a3g bs/\a3g bs<=bs.length/\∀j,j<bs.length->j<=a3g bs->(bs[j]?=bs[0]?->j+1<=a3g bs)/\(bs[j]? ≠ bs[0]?->j=a3g bs):=by
 have h:=List.all_eq_true.mp d6s bs (d5a h2 h8);simp only[Bool.and_eq_true,decide_eq_true_eq,List.all_eq_true,List.mem_range,Bool.or_eq_true,Bool.not_eq_true',decide_eq_false_iff_not] at h;refine⟨h.1.1,h.1.2,λj hj hl=>?_⟩;rcases h.2 j hj with z|z
 ·exact absurd hl z
 ·constructor
  ·intro e
   rw[if_pos e] at z;exact of_decide_eq_true z
  ·intro e
   rw[if_neg e] at z;exact of_decide_eq_true z
theorem d9d{xs:List V}{j:Nat}(h:j<=xs.length):d3j xs (some (j:Int)) none=xs.drop j:=by
 unfold d3j;rw[HT.sIx_nat,HT.sIx_none,Nat.min_eq_left h];exact List.take_of_length_le (by rw[List.length_drop];lia)
theorem d8j(b:Bool)(bs:List Bool):inV (.int (b2i b)) ((bs.map b2i).map V.int)=bs.any λx=>x == b:=by
 unfold inV
 induction bs with
 | nil=>rfl
 | cons c cs ih=>
  simp only[List.map_cons,List.any_cons];rw[ih];cases b <;> cases c <;> rfl
theorem b9s(ns:List Int):(ns.map V.int).all a5p=true:=by simp[a5p]
def b3l(K:Frag)(cl:Cl):Sp:=λvs H Q E=>∃a ns,vs=[.ref a]/\SqL K H a (ns.map V.int)/\(if 2<=(ns.length:Int)/\(ns.length:Int)<=8 then (if b1h ns=true then Q .non H else False) else False)
abbrev a9e:Stmt:=top 48
theorem b3v:g7 ["bits","bit"] ["bits"] (d8 a9e):=↑1
theorem d6p{ns:List Int}{i:Nat}{x:Int}(h:(ns.map V.int)[i]?=some (.int x))(hx:¬ (0<=x/\x<=1)):b1h ns=false:=by
 rw[List.getElem?_map] at h;cases e:ns[i]? with
 | none=>rw[e] at h;cases h
 | some y=>
  rw[e] at h;cases h;cases hb:b1h ns with
  | false=>rfl
  | true=>
   have hb:=List.all_eq_true.mp hb x (List.mem_of_getElem? e);simp only[Bool.or_eq_true,beq_iff_eq] at hb;lia
theorem d6n{ns:List Int}(h:∀(i:Nat) (x:Int),(ns.map V.int)[i]?=some (.int x)->0<=x/\x<=1):b1h ns=true:=by
 refine List.all_eq_true.mpr λx hx=>?_;obtain⟨i,hi⟩:=List.getElem?_of_mem hx;have:=h i x (by rw[List.getElem?_map,hi];rfl)
 simp only[Bool.or_eq_true,beq_iff_eq];lia
theorem c4f{ns:List Int}{i:Nat}{x:V}(h:(ns.map V.int)[i]?=some x):∃v,x=.int v:=by
 rw[List.getElem?_map] at h;cases e:ns[i]? with
 | none=>rw[e] at h;cases h
 | some y=>rw[e] at h;cases h;exact⟨_,rfl⟩
theorem c3n(D:DefT K mg "check_bits" a9e ["bits"])(T:Txt K mg cl)(G_check_size:qaa P w K mg qb cl):FnT P w K mg qb "check_bits" 2 ["bits"] (b3l K cl):=by
 refine D.fn b3v ↑5 ↑8
 ·fail "l"
 ·obtain⟨a,ns,rfl,hS,h⟩:=h
  refine⟨_,(d5 (j9 (k7 G_check_size hr ↑6 rfl i4 (a7 (l7 (n5 (K:=K)) (by rfl) T.z_len PySem.boot_len (a7 (pv 0) d6)) d6)))
   (d9 (b4i a3u rfl (a1l (K:=K) (pv 0)) (y7 (i:=1) b3v.nd rfl (.inl rfl))
    (d9 (a0s (PW.pt (b4h (k8 b2w (pv 1) i8 (n9 _)) (a8b (k8 c6b (pv 1) i8 (n9 _)))))
      (d9 a2x)
      v3))))),?_⟩
  refine⟨_,rfl,a,_,rfl,.inl hS,_,rfl,?_⟩;rw[List.length_map];refine b3g (λc=>?_) (λc=>?_)
  ·rw[if_pos c] at h
   refine⟨_,rfl,a,rfl,⟨_,hS⟩,b7w (xs:=ns.map V.int) (λi σ H'=>∃x,σ=[some (.ref a),x]/\H'=H/\∀(j:Nat)(y:Int),j<i->(ns.map V.int)[j]?=some (.int y)->0<=y/\y<=1) ⟨_,rfl,rfl,λj y hj=>absurd hj (Nat.not_lt_zero _)⟩ ?_ ?_ ?_⟩
   ·rintro i σ H' _ ⟨x,rfl,rfl,_⟩
    exact hS
   ·rintro i x σ H' hx ⟨y,rfl,rfl,hb⟩
    obtain⟨v,rfl⟩:=c4f hx;refine⟨_,rfl,_,_,rfl,rfl,_,rfl,b3g (λd=>?_) (λd=>⟨_,rfl,_,_,rfl,rfl,_,rfl,b3g (λd2=>?_) (λd2=>?_)⟩)⟩
    ·rw[if_neg (by rw[d6p hx (by have:=of_decide_eq_true d;lia)];decide)] at h
     exact b3g (λ_=>h) (λz=>absurd rfl z)
    ·rw[if_neg (by rw[d6p hx (by have:=of_decide_eq_true d2;lia)];decide)] at h
     exact h
    ·simp only[decide_eq_true_eq] at d d2
     refine⟨_,rfl,rfl,λj y hj e=>?_⟩;by_cases hji:j<i
     ·exact hb j y hji e
     ·have:j=i:=by lia
      subst this;rw[hx] at e;cases e;lia
   ·rintro σ H' ⟨x,rfl,rfl,hb⟩
    rw[if_pos (d6n λi x e=>hb i x (List.getElem?_eq_some_iff.mp e).1 e)] at h;exact h
  ·rw[if_neg c] at h
   exact h
def b1b(K:Frag):Sp:=λvs H Q _=>∃(a:Addr)(bs:List Bool),vs=[.ref a]/\SqL K H a ((bs.map b2i).map V.int)/\2<=bs.length/\bs.length<=8/\Q (.int (a3g bs:Nat)) H
abbrev a7u:Stmt:=top 50
theorem a6j:g7 ["bits","many"] ["bits"] (d8 a7u):=↑1
theorem e5w{b c:Bool}:(V.int (b2i b)=V.int (b2i c)) ↔ b=c:=by cases b <;> cases c <;> simp[b2i]
theorem c0j(D:DefT K mg "alike_ahead" a7u ["bits"])(T:Txt K mg cl):FnT P w K mg qb "alike_ahead" 1 ["bits"] (b1b K):=by
 refine D.fn a6j ↑5 ↑8
 ·fail "l"
 ·obtain⟨a,bs,rfl,hS,h2,h8,h⟩:=h
  refine⟨_,(d5 (n6 (i:=1) a6j.nd rfl (.inl rfl) i8)
   (d5 (d7u a3u (PW.pt (d0n (k8 b2w (pv 1) (l7 (n5 (K:=K)) (by rfl) T.z_len PySem.boot_len (a7 (pv 0) d6)) (n9 _)) (c2v (k8 a8a (v4 (j4 (K:=K)) (pv 0) (pv 1) (λ_ _=>rfl)) (v4 (j4 (K:=K)) (pv 0) i8 (λ_ _=>rfl)) (n9 _)))))
     (d9 (e3w (i:=1) a6j.nd rfl (.inl rfl) i8 d9m)))
   (d9 (j1 (pv 1))))),?_⟩
  obtain⟨l1,l2,l3⟩:=d6r h2 h8;have hl:((bs.map b2i).map V.int).length=bs.length:=by rw[List.length_map,List.length_map]
  refine⟨λz σ H'=>∃g:Nat,z=bs.length-g/\1<=g/\g<=a3g bs/\σ=[some (.ref a),some (.int (g:Int))]/\H'=H,⟨_,1,rfl,Nat.le_refl 1,l1,rfl,rfl⟩,?_⟩;rintro z σ H' ⟨g,rfl,g1,ga,rfl,rfl⟩;refine⟨_,rfl,_,rfl,a,_,rfl,.inl hS,_,_,rfl,rfl,_,rfl,b3g (λc=>?_) (λc=>e4p ?_)⟩
  ·have hg:g<bs.length:=by have:=of_decide_eq_true c;rw[hl] at this;lia
   have e1:=b6l (ns:=bs.map b2i) (n:=g) (by rw[List.length_map];exact hg)
   have e0:=b6l (ns:=bs.map b2i) (n:=0) (by rw[List.length_map];lia)
   refine⟨_,rfl,_,rfl,a,_,(g:Int),_,rfl,rfl,hS,e1,_,rfl,a,_,0,_,rfl,rfl,hS,e0,rfl,_,rfl,?_⟩;rw[List.getElem_map,List.getElem_map];refine b3g (λb=>?_) (λb=>?_)
   ·have heq:bs[g]=bs[0]:=e5w.mp (by simpa using b)
    have lt:=(l3 g hg ga).1 (by rw[List.getElem?_eq_getElem hg,List.getElem?_eq_getElem ↑3,heq])
    refine⟨λσ' H'=>σ'=[some (.ref a),some (.int ((g+1:Nat):Int))]/\H'=_,λσ' H' ⟨h1,h2⟩=>⟨bs.length-(g+1),by lia,g+1,rfl,by lia,lt,h1,h2⟩,?_⟩
    exact⟨_,rfl,_,_,rfl,rfl,rfl,rfl⟩
   ·have hne:bs[g]≠bs[0]:=λe=>b (by rw[e];simp)
    have eq:=(l3 g hg ga).2 (by rw[List.getElem?_eq_getElem hg,List.getElem?_eq_getElem ↑3];intro e;exact hne (Option.some.inj e))
    subst eq;exact⟨_,rfl,h⟩
  ·have hg:¬ g<bs.length:=λz=>c (decide_eq_true (by rw[hl];lia))
   have:g=a3g bs:=by lia
   subst this;exact⟨_,rfl,h⟩
def d1g(cl:Cl)(ns:List Int)(H:Hp)(E:XK)(k:Nat->Hp->Prop):Prop :=
 if 2<=(ns.length:Int)/\(ns.length:Int)<=8 then (if b1h ns=true then (∀H',Same H H'->(match a6e (toB ns) with|none=>False|some f=>k f H')) else False) else False
def c1q(K:Frag)(cl:Cl):Sp:=λvs H Q E=>∃a ns,vs=[.ref a]/\SqL K H a (ns.map V.int)/\d1g cl ns H E λf H'=>Q (.int (f:Nat)) H'
abbrev c8m:Stmt:=top 51
theorem c1y:g7 ["bits","many","size"] ["bits"] (d8 c8m):=↑1
variable(P w K mg qb cl)in
abbrev qad:=FnT P w K mg qb "onward" 3 ["size","turn","many"] (a5a cl)
theorem d7z(D:DefT K mg "front" c8m ["bits"])(T:Txt K mg cl)(G_check_bits:FnT P w K mg qb "check_bits" 2 ["bits"] (b3l K cl))(G_alike_ahead:FnT P w K mg qb "alike_ahead" 1 ["bits"] (b1b K))(G_onward:qad P w K mg qb cl):FnT P w K mg qb "front" 4 ["bits"] (c1q K cl):=by
 refine D.fn c1y ↑5 ↑8
 ·fail "l"
 ·obtain⟨a,ns,rfl,hS,h⟩:=h
  refine⟨_,(d5 (j9 (k7 G_check_bits hr ↑6 rfl i4 (a7 (pv 0) d6)))
   (d5 (n6 (i:=1) c1y.nd rfl (.inl rfl) (k7 G_alike_ahead hr ↑6 rfl i4 (a7 (pv 0) d6)))
   (d5 (a0s (k8 (d9l (K:=K)) (v4 (j4 (K:=K)) (pv 0) i8 (λ_ _=>rfl)) (b7t (b7q (K:=K)) (pv 0) (c2x (pv 1)) c2y) (by with_unfolding_all rfl))
     (d9 a2x)
     v3)
   (d5 (n6 (i:=2) c1y.nd rfl (.inl rfl) (l7 (n5 (K:=K)) (by rfl) T.z_len PySem.boot_len (a7 (pv 0) d6)))
   (d9 (j1 (k7 G_onward hr ↑6 rfl i4 (a7 (pv 2) (a7 (o8 a5m (v4 (j4 (K:=K)) (pv 0) i8 (λ_ _=>rfl)) (pv 2)) (a7 (pv 1) d6)))))))))),?_⟩
  unfold d1g at h;refine⟨_,rfl,a,ns,rfl,hS,b3g (λc=>b3g (λd=>?_) (λd=>?_)) (λc=>?_)⟩
  ·rw[if_pos c,if_pos d] at h
   have e:=d6o d;have hl:(toB ns).length=ns.length:=e0e ns;generalize hb:toB ns=bs at e hl h;subst e;have h2:2<=bs.length:=by rw[hl];lia
   have h8:bs.length<=8:=by rw[hl];lia
   obtain⟨l1,l2,l3⟩:=d6r h2 h8;have e0:=b6l (ns:=bs.map b2i) (n:=0) (by rw[List.length_map];lia)
   rw[List.getElem_map] at e0;have hh:bs.headD false=bs[0]:=by
    cases bs with
    | nil=>simp at h2
    | cons b bs=>rfl
   refine⟨_,rfl,a,bs,rfl,hS,h2,h8,?_⟩;refine⟨_,rfl,a,_,0,_,rfl,rfl,hS,e0,_,rfl,_,rfl,_,rfl,a,_,rfl,hS,λp hp=>?_⟩;rw[d9d (by rw[List.length_map,List.length_map];exact l2),<- List.map_drop,<- List.map_drop]
   have s1:Same H (upd H p (.lst (((bs.drop (a3g bs)).map b2i).map V.int))):=i9 hp;have hq:=h _ s1;refine⟨p,_,rfl,.inl (SqL.of d7),rfl,b9s _,_,rfl,?_⟩;rw[if_neg Bool.false_ne_true,d8j];unfold a6e at hq;rw[hh] at hq;refine b3g (λz=>?_) (λz=>?_)
   ·rw[if_pos z] at hq
    exact hq
   ·rw[if_neg z] at hq
    refine⟨_,rfl,a,_,rfl,.inl (s1.seq hS),?_⟩;rw[List.length_map,List.length_map];refine⟨_,rfl,_,rfl,a,_,0,_,rfl,rfl,s1.seq hS,e0,_,rfl,_,_,rfl,rfl,.inr ⟨by lia,by lia⟩,_,rfl,(bs.length:Int),_,_,rfl,a0j ↑3 ↑3 ?_ ?_ ?_⟩
    ·unfold b2i;split <;> lia
    ·unfold b2i;split <;> lia
    ·have e:(b2i bs[0]*(bs.length:Int)+(a3g bs:Int)) % (2*(bs.length:Int))=((((if bs[0]=true then bs.length else 0)+a3g bs) % (2*bs.length):Nat):Int):=by
      unfold b2i;split
      ·rw[Int.one_mul];push_cast;rfl
      ·rw[Int.zero_mul];push_cast;rfl
     rw[e];exact hq
  ·rw[if_pos c,if_neg d] at h
   exact h
  ·rw[if_neg c] at h
   exact h
theorem c1g:2000<=sizeLine:=by decide
def a2z(ns:List Int):Bool:=ns.all λx=>decide (0<=x) && decide (x<=3)
def d8h(m:Int):Int:=m / 2
def tbI(m:Int):Int:=if m / 2=m % 2 then 0 else 1
theorem c7e{ns:List Int}(h:a2z ns=true){x:Int}(hx:x∈ns):0<=x/\x<=3:=by
 have h:=List.all_eq_true.mp h x hx
 simpa using h
theorem d8e{ns:List Int}{i:Nat}{x:Int}(h:(ns.map V.int)[i]?=some (.int x))(hx:¬ (0<=x/\x<=3)):a2z ns=false:=by
 rw[List.getElem?_map] at h;cases e:ns[i]? with
 | none=>rw[e] at h;cases h
 | some y=>
  rw[e] at h;cases h;cases hb:a2z ns with
  | false=>rfl
  | true=>exact absurd (c7e hb (List.mem_of_getElem? e)) hx
theorem d2x{ns:List Int}(h:∀(i:Nat) (x:Int),(ns.map V.int)[i]?=some (.int x)->0<=x/\x<=3):a2z ns=true:=by
 refine List.all_eq_true.mpr λx hx=>?_;obtain⟨i,hi⟩:=List.getElem?_of_mem hx;have:=h i x (by rw[List.getElem?_map,hi];rfl)
 simpa using this
theorem e1l{ns:List Int}(h:a2z ns=true):b1h (ns.map d8h)=true:=by
 refine List.all_eq_true.mpr λx hx=>?_;obtain⟨m,hm,rfl⟩:=List.mem_map.mp hx;have:=c7e h hm;have e:d8h m=0\/d8h m=1:=by unfold d8h;lia
 simpa using e
theorem d7k(ns:List Int):b1h (ns.map tbI)=true:=by
 refine List.all_eq_true.mpr λx hx=>?_;obtain⟨m,hm,rfl⟩:=List.mem_map.mp hx;have e:tbI m=0\/tbI m=1:=by unfold tbI;split <;> simp
 simpa using e
def b1j:Sp:=λvs H Q E=>∃m,vs=[.int m]/\Q (.int (m / 2)) H
def b6o:Sp:=λvs H Q E=>∃m,vs=[.int m]/\Q (.int (m % 2)) H
def b6m:Sp:=λvs H Q E=>∃m,vs=[.int m]/\Q (.int (tbI m)) H
abbrev b5m:Stmt:=top 25
theorem c8f:g7 ["mark"] ["mark"] (d8 b5m):=↑1
theorem c8x(D:DefT K mg "mark_lap" b5m ["mark"])(T:Txt K mg cl):FnT P w K mg qb "mark_lap" 1 ["mark"] b1j:=by
 refine D.fn c8f ↑5 ↑8
 ·fail "l"
 ·obtain⟨a,rfl,h⟩:=h
  refine⟨_,(d9 (j1 (o8 b4l (pv 0) i8))),?_⟩;exact⟨_,rfl,_,_,rfl,rfl,⟨by decide,e6x 2 ↑6 ↑6⟩,h⟩
abbrev b1x:Stmt:=top 26
theorem c5d:g7 ["mark"] ["mark"] (d8 b1x):=↑1
theorem c6g(D:DefT K mg "mark_side" b1x ["mark"])(T:Txt K mg cl):FnT P w K mg qb "mark_side" 1 ["mark"] b6o:=by
 refine D.fn c5d ↑5 ↑8
 ·fail "l"
 ·obtain⟨a,rfl,h⟩:=h
  refine⟨_,(d9 (j1 (o8 a5n (pv 0) i8))),?_⟩;exact⟨_,rfl,_,_,rfl,rfl,(by show(0:Int)<2;decide),h⟩
abbrev b1t:Stmt:=top 52
theorem c4z:g7 ["mark"] ["mark"] (d8 b1t):=↑1
theorem c6c(D:DefT K mg "taker_bit" b1t ["mark"])(T:Txt K mg cl)(G_mark_lap:FnT P w K mg qb "mark_lap" 1 ["mark"] b1j)(G_mark_side:FnT P w K mg qb "mark_side" 1 ["mark"] b6o):FnT P w K mg qb "taker_bit" 2 ["mark"] b6m:=by
 refine D.fn c4z ↑5 ↑8
 ·fail "l"
 ·obtain⟨m,rfl,h⟩:=h
  refine⟨_,(d9 (j1 (a6b (k8 e4f (k7 G_mark_lap hr ↑6 rfl i4 (a7 (pv 0) d6)) (k7 G_mark_side hr ↑6 rfl i4 (a7 (pv 0) d6)) (n9 _)) i8 i8))),?_⟩;refine⟨_,rfl,m,rfl,_,rfl,m,rfl,rfl,_,rfl,b3g (λc=>?_) (λc=>?_)⟩
  ·have e:tbI m=1:=by
    unfold tbI;rw[if_neg];intro e;rw[e] at c;simp at c
   rw[e] at h;exact h
  ·have e:tbI m=0:=by
    unfold tbI;rw[if_pos]
    simpa using c
   rw[e] at h;exact h
def b4y(cl:Cl)(ns:List Int)(H:Hp)(E:XK)(k:Prop):Prop:=if 2<=(ns.length:Int)/\(ns.length:Int)<=8 then (if a2z ns=true then k else False) else False
theorem c1c{cl:Cl}{ns:List Int}{H:Hp}{E:XK}{k k':Prop}(h:b4y cl ns H E k)(i:2<=ns.length->ns.length<=8->a2z ns=true->k->k'):b4y cl ns H E k':=by
 unfold b4y at h ⊢;by_cases a:2<=(ns.length:Int)/\(ns.length:Int)<=8
 ·rw[if_pos a] at h ⊢
  by_cases b:a2z ns=true
  ·rw[if_pos b] at h ⊢;exact i ↑3 ↑3 b h
  ·rw[if_neg b] at h ⊢;exact h
 ·rw[if_neg a] at h ⊢;exact h
theorem c7f{cl:Cl}{ns:List Int}{H:Hp}{E:XK}{k:Prop}(h2:2<=ns.length)(h8:ns.length<=8)(hm:a2z ns=true)(h:k):b4y cl ns H E k:=by
 unfold b4y;rw[if_pos ⟨by lia,by lia⟩,if_pos hm]
 exact h
def a6g(K:Frag)(cl:Cl):Sp:=λvs H Q E=>∃a ns,vs=[.ref a]/\SqL K H a (ns.map V.int)/\b4y cl ns H E (Q .non H)
abbrev a7t:Stmt:=top 49
theorem b1d:g7 ["marks","mark"] ["marks"] (d8 a7t):=↑1
theorem c0i(D:DefT K mg "check_marks" a7t ["marks"])(T:Txt K mg cl)(G_check_size:qaa P w K mg qb cl)(G_check_mark:FnT P w K mg qb "check_mark" 1 ["mark"] (b3k cl)):FnT P w K mg qb "check_marks" 2 ["marks"] (a6g K cl):=by
 refine D.fn b1d ↑5 ↑8
 ·fail "l"
 ·obtain⟨a,ns,rfl,hS,h⟩:=h
  refine⟨_,(d5 (j9 (k7 G_check_size hr ↑6 rfl i4 (a7 (l7 (n5 (K:=K)) (by rfl) T.z_len PySem.boot_len (a7 (pv 0) d6)) d6)))
   (d9 (b4i a3u rfl (a1l (K:=K) (pv 0)) (y7 (i:=1) b1d.nd rfl (.inl rfl))
    (d9 (j9 (k7 G_check_mark hr ↑6 rfl i4 (a7 (pv 1) d6))))))),?_⟩
  unfold b4y at h;refine⟨_,rfl,a,_,rfl,.inl hS,_,rfl,?_⟩;rw[List.length_map];refine b3g (λc=>?_) (λc=>?_)
  ·rw[if_pos c] at h
   refine⟨_,rfl,a,rfl,⟨_,hS⟩,b7w (xs:=ns.map V.int) (λi σ H'=>∃x,σ=[some (.ref a),x]/\H'=H/\∀(j:Nat)(y:Int),j<i->(ns.map V.int)[j]?=some (.int y)->0<=y/\y<=3) ⟨_,rfl,rfl,λj y hj=>absurd hj (Nat.not_lt_zero _)⟩ ?_ ?_ ?_⟩
   ·rintro i σ H' _ ⟨x,rfl,rfl,_⟩
    exact hS
   ·rintro i x σ H' hx ⟨y,rfl,rfl,hb⟩
    obtain⟨v,rfl⟩:=c4f hx;refine⟨_,rfl,v,rfl,b3g (λd=>?_) (λd=>?_)⟩
    ·refine⟨_,rfl,rfl,λj y hj e=>?_⟩
     by_cases hji:j<i
     ·exact hb j y hji e
     ·have:j=i:=by lia
      subst this;rw[hx] at e;cases e;exact d
    ·rw[if_neg (by rw[d8e hx d];decide)] at h
     exact h
   ·rintro σ H' ⟨x,rfl,rfl,hb⟩
    rw[if_pos (d2x λi x e=>hb i x (List.getElem?_eq_some_iff.mp e).1 e)] at h;exact h
  ·rw[if_neg c] at h
   exact h
theorem c7l{ns row:List Int}{H1:Hp}{E:XK}{k:Nat->Hp->Prop}(hl:row.length=ns.length)(h2:2<=ns.length)(h8:ns.length<=8)(hb:b1h row=true)(hs:∀f H',Same H1 H'->a6e (toB row)=some f->k f H')(hn:∀H',Same H1 H'->a6e (toB row)=none->False):d1g cl row H1 E k:=by
 unfold d1g;rw[if_pos ⟨by lia,by lia⟩,if_pos hb]
 intro H' s;cases e:a6e (toB row) with
 | none=>exact hn H' s e
 | some f=>exact hs f H' s e
def e0d(cl:Cl)(row:List Int)(H:Hp)(E:XK)(k:Nat->Hp->Prop):Prop:=(∀f H',Same H H'->a6e (toB row)=some f->k f H')/\∀H',Same H H'->a6e (toB row)=none->False
def b3j(K:Frag)(cl:Cl):Sp:=λvs H Q E=>∃a ns,vs=[.ref a]/\SqL K H a (ns.map V.int)/\(∃o,H a=some o)/\b4y cl ns H E (e0d cl (ns.map d8h) H E λf H'=>Q (.int (f:Nat)) H')
def b3h(K:Frag)(cl:Cl):Sp:=λvs H Q E=>∃a ns,vs=[.ref a]/\SqL K H a (ns.map V.int)/\(∃o,H a=some o)/\b4y cl ns H E (e0d cl (ns.map tbI) H E λf H'=>Q (.int (f:Nat)) H')
def onI(f:Int->Int):V->V
 | .int m=>.int (f m)
 | v=>v
theorem d5b(f:Int->Int)(ns:List Int):(ns.map V.int).map (onI f)=(ns.map f).map V.int:=by rw[List.map_map,List.map_map];rfl
abbrev a8z:Stmt:=top 53
theorem c1x:g7 ["marks"] ["marks"] (d8 a8z):=↑1
theorem c3i(D:DefT K mg "giver_turn" a8z ["marks"])(T:Txt K mg cl)(G_check_marks:FnT P w K mg qb "check_marks" 2 ["marks"] (a6g K cl))(G_mark_lap:FnT P w K mg qb "mark_lap" 1 ["mark"] b1j)(G_front:FnT P w K mg qb "front" 4 ["bits"] (c1q K cl)):FnT P w K mg qb "giver_turn" 5 ["marks"] (b3j K cl):=by
 refine D.fn c1x ↑5 ↑8
 ·fail "l"
 ·obtain⟨a,ns,rfl,hS,ha,h⟩:=h
  refine⟨_,(d5 (j9 (k7 G_check_marks hr ↑6 rfl i4 (a7 (pv 0) d6)))
   (d9 (j1 (k7 G_front hr ↑6 rfl i4 (a7 (b2v (N:=["mark"]) (nt:=1) (fr:=[]) rfl (b0q rfl rfl (by decide +kernel) (by decide +kernel) rfl rfl) (a1l (K:=K) (pv 0)) (a6p ↑6) (λ_ _ _ _ _=>y7 (i:=0) (show(["mark"]:List Str).Nodup by decide +kernel) rfl (Or.inl rfl) (Or.inr rfl)) (λ_ _ _ _ _=>(k7 G_mark_lap hr ↑6 rfl d2h (a7 (pv 0) d6)))) d6))))),?_⟩
  refine⟨_,rfl,a,ns,rfl,hS,c1c h λh2 h8 hm q=>?_⟩;refine⟨_,rfl,a,rfl,⟨_,hS⟩,b9t (xs:=ns.map V.int) (f:=onI d8h) hS (by rw[List.length_map];have:=c1g;lia) ha ?_ ?_⟩
  ·intro i x H' kk hx _ q
   obtain⟨v,rfl⟩:=c4f hx;exact⟨_,rfl,v,rfl,q⟩
  ·intro c hc
   rw[d5b];exact⟨c,ns.map d8h,rfl,SqL.of d7,c7l (ns:=ns) (List.length_map _) h2 h8 (e1l hm) (λf H' s e=>q.1 f H' ((i9 hc).trans s) e) (λH' s e=>q.2 H' ((i9 hc).trans s) e)⟩
abbrev a8w:Stmt:=top 54
theorem c1u:g7 ["marks"] ["marks"] (d8 a8w):=↑1
theorem c3f(D:DefT K mg "taker_turn" a8w ["marks"])(T:Txt K mg cl)(G_check_marks:FnT P w K mg qb "check_marks" 2 ["marks"] (a6g K cl))(G_taker_bit:FnT P w K mg qb "taker_bit" 2 ["mark"] b6m)(G_front:FnT P w K mg qb "front" 4 ["bits"] (c1q K cl)):FnT P w K mg qb "taker_turn" 5 ["marks"] (b3h K cl):=by
 refine D.fn c1u ↑5 ↑8
 ·fail "l"
 ·obtain⟨a,ns,rfl,hS,ha,h⟩:=h
  refine⟨_,(d5 (j9 (k7 G_check_marks hr ↑6 rfl i4 (a7 (pv 0) d6)))
   (d9 (j1 (k7 G_front hr ↑6 rfl i4 (a7 (b2v (N:=["mark"]) (nt:=1) (fr:=[]) rfl (b0q rfl rfl (by decide +kernel) (by decide +kernel) rfl rfl) (a1l (K:=K) (pv 0)) (a6p ↑6) (λ_ _ _ _ _=>y7 (i:=0) (show(["mark"]:List Str).Nodup by decide +kernel) rfl (Or.inl rfl) (Or.inr rfl)) (λ_ _ _ _ _=>(k7 G_taker_bit hr ↑6 rfl d2h (a7 (pv 0) d6)))) d6))))),?_⟩
  refine⟨_,rfl,a,ns,rfl,hS,c1c h λh2 h8 hm q=>?_⟩;refine⟨_,rfl,a,rfl,⟨_,hS⟩,b9t (xs:=ns.map V.int) (f:=onI tbI) hS (by rw[List.length_map];have:=c1g;lia) ha ?_ ?_⟩
  ·intro i x H' kk hx _ q
   obtain⟨v,rfl⟩:=c4f hx;exact⟨_,rfl,v,rfl,q⟩
  ·intro c hc
   rw[d5b];exact⟨c,ns.map tbI,rfl,SqL.of d7,c7l (ns:=ns) (List.length_map _) h2 h8 (d7k ns) (λf H' s e=>q.1 f H' ((i9 hc).trans s) e) (λH' s e=>q.2 H' ((i9 hc).trans s) e)⟩
theorem But.nw{w:Addr}{H0 H:Hp}{p:Addr}{o:HO}(s:But w H0 H)(n:H p=none):But w H0 (L2.upd H p o):=s.trans (But.of (i9 n))
theorem But.free{w p:Addr}{H0 H:Hp}(s:But w H0 H)(hw:Well H w)(n:H p=none):H0 p=none:=by
 cases e:H0 p with
 | none=>rfl
 | some o=>
  have:=s p o e (hw.ne n);rw[n] at this;cases this
theorem _root_.L2.Same.set{H H':Hp}{p:Addr}{o:HO}(s:Same H H')(n:H p=none):Same H (upd H' p o):=λb u e=>by rw[c7 (g9 e n)];exact s b u e
theorem d5x{H:Hp}{p q:Addr}{ns:List Bool}(ne:p≠q)(hp:H p=some (.lst (ns.map V.bl)))(hq:H q=some (.lst (ns.map V.bl))):EqD K H 1 (.ref p) (.ref q) true:=by
 have h:=d8y (K:=K) ne (SqL.of hp) (SqL.of hq) (d1j _) (d1j _);rw[d5z] at h
 simpa using h
theorem e4o{l j:Nat}(h:j<l):ixN l (j:Int)=some j:=by
 unfold ixN;rw[if_pos ↑3,if_pos ↑3];exact congrArg some ↑3
def Kp(ps:List Addr)(H H':Hp):Prop:=∀c o,H c=some o->c ∉ ps->H' c=some o
theorem Kp.trans{ps:List Addr}{H H1 H2:Hp}(a:Kp ps H H1)(b:Kp ps H1 H2):Kp ps H H2:=λc o e n=>b c o (a c o e n) n
theorem Kp.mono{ps qs:List Addr}{H H1:Hp}(a:Kp ps H H1)(h:∀c∈ps,c∈qs):Kp qs H H1:=λc o e n=>a c o e λz=>n (h c z)
theorem Kp.of{ps:List Addr}{H H1:Hp}(a:Same H H1):Kp ps H H1:=λc o e _=>a c o e
theorem Kp.upd{ps:List Addr}{H:Hp}{p:Addr}{o:HO}(h:p∈ps):Kp ps H (L2.upd H p o):=λc u e n=>by rw[c7 λz:c=p=>n (by rw[z];exact h)];exact e
def b4x(n:Nat):List Int:=(List.replicate n [2,-1,0,0]).flatten++[-1,-1,0,0]
theorem d2v(n:Nat):(b4x n).length=4*n+4:=by
 unfold b4x;rw[List.length_append,c9m];show n*4+4=_;lia
theorem e0t(n:Nat)(ns:List Int):(List.replicate n (ns.map V.int)).flatten=((List.replicate n ns).flatten).map V.int:=by
 induction n with
 | zero=>rfl
 | succ n ih=>rw[List.replicate_succ,List.replicate_succ,List.flatten_cons,List.flatten_cons,List.map_append,ih]
def Brd(cl:Cl)(H:Hp)(b l:Addr)(n:Nat)(row:List Int)(many:Int)(last:V):Prop :=
 (∃dx,H b=some (.ins cl.Board dx [("size",.int n),("numbers",.ref l),("many_touches",.int many),("newest_touch",last)]))/\H l=some (.lst (row.map V.int))/\row.length=4*n+4/\2<=n/\n<=8
theorem Brd.keep{cl:Cl}{H H':Hp}{b l:Addr}{n:Nat}{row:List Int}{many:Int}{last:V}{ps:List Addr}(h:Brd cl H b l n row many last)(k:Kp ps H H')(hb:b ∉ ps)(hl:l ∉ ps):Brd cl H' b l n row many last:=by
 obtain⟨⟨dx,e⟩,e',z⟩:=h;exact⟨⟨dx,k _ _ e hb⟩,k _ _ e' hl,z⟩
def a4u(cl:Cl):Sp:=λvs H Q E=>∃h:Str,vs=[.str h]/\(if h="giver"\/h="taker" then Q .non H else False)
def y9(d:Int):Sp:=λvs H Q _=>∃p,vs=[.int p]/\Q (.int (4*p+d)) H
def c9w(cl:Cl)(n:Int)(h:Str)(H:Hp)(E:XK)(k:Prop):Prop:=if 2<=n/\n<=8 then (if h="giver"\/h="taker" then k else False) else False
def c7h(h:Str):Int:=if h="giver" then 0 else 1
def a5r(cl:Cl):Sp:=λvs H Q E=>∃(n:Int)(h:Str),vs=[.int n,.str h]/\c9w cl n h H E (Q (.int (4*n+c7h h)) H)
def a2i(cl:Cl):Sp:=λvs H Q E=>∃(n:Int)(h:Str),vs=[.int n,.str h]/\c9w cl n h H E (Q (.int (4*n+c7h h+2)) H)
def b6n:Sp:=λvs H Q _=>∃n:Nat,vs=[.int n]/\n<=8/\∀l H',H l=none->Same H H'->H' l=some (.lst ((b4x n).map V.int))->Q (.ref l) H'
theorem c4n(x y:Str):eqV (.str x) (.str y)=decide (x=y):=by
 first
  | rfl
  | (unfold eqV;simp)
abbrev a9d:Stmt:=top 38
theorem c2c:g7 ["hand"] ["hand"] (d8 a9d):=↑1
theorem c3m(D:DefT K mg "check_hand" a9d ["hand"])(T:Txt K mg cl):FnT P w K mg qb "check_hand" 1 ["hand"] (a4u cl):=by
 refine D.fn c2c ↑5 ↑8
 ·fail "l"
 ·obtain⟨n,rfl,h⟩:=h
  refine⟨_,(d9 (a0s (k8 (c6a (K:=K)) (pv 0) (a2h T.r_HANDS rfl) (by with_unfolding_all rfl))
    (d9 a2x)
    v3)),?_⟩
  ext;refine⟨_,_,rfl,.inr T.kt_HANDS.sq,rfl,rfl,?_⟩;ext;have e:inV (.str n) [.str "giver",.str "taker"]=decide (n="giver"\/n="taker"):=by
   unfold inV;simp only[List.any_cons,List.any_nil,c4n,Bool.or_false];rw[Bool.eq_iff_iff];simp only[Bool.or_eq_true,decide_eq_true_eq];exact or_congr eq_comm eq_comm
  simp only[if_true,e];refine d9s (λc=>?_) (λc=>?_)
  ·rw[if_neg c] at h
   ext;exact h
  ·rw[if_pos c] at h
   ext;exact h
abbrev b1y:Stmt:=top 39
theorem c5e:g7 ["place"] ["place"] (d8 b1y):=↑1
theorem c6h(D:DefT K mg "mark_cell" b1y ["place"])(T:Txt K mg cl):FnT P w K mg qb "mark_cell" 1 ["place"] (y9 0):=by
 refine D.fn c5e ↑5 ↑8
 ·fail "l"
 ·obtain⟨n,rfl,h⟩:=h
  refine⟨_,(d9 (j1 (o8 a5m (v5 T.m_CELLS_OF_A_PLACE rfl) (pv 0)))),?_⟩;ext;rw[Int.add_zero] at h;exact h
abbrev a7s:Stmt:=top 40
theorem b9z:g7 ["place"] ["place"] (d8 a7s):=↑1
theorem c0h(D:DefT K mg "number_cell" a7s ["place"])(T:Txt K mg cl):FnT P w K mg qb "number_cell" 1 ["place"] (y9 1):=by
 refine D.fn b9z ↑5 ↑8
 ·fail "l"
 ·obtain⟨n,rfl,h⟩:=h
  refine⟨_,(d9 (j1 (o8 a1b (o8 a5m (v5 T.m_CELLS_OF_A_PLACE rfl) (pv 0)) i8))),?_⟩;ext;exact h
abbrev b1z:Stmt:=top 41
theorem c5f:g7 ["place"] ["place"] (d8 b1z):=↑1
theorem c6i(D:DefT K mg "left_cell" b1z ["place"])(T:Txt K mg cl):FnT P w K mg qb "left_cell" 1 ["place"] (y9 2):=by
 refine D.fn c5f ↑5 ↑8
 ·fail "l"
 ·obtain⟨n,rfl,h⟩:=h
  refine⟨_,(d9 (j1 (o8 a1b (o8 a5m (v5 T.m_CELLS_OF_A_PLACE rfl) (pv 0)) i8))),?_⟩;ext;exact h
abbrev a8v:Stmt:=top 42
theorem c1t:g7 ["place"] ["place"] (d8 a8v):=↑1
theorem c3e(D:DefT K mg "thing_cell" a8v ["place"])(T:Txt K mg cl):FnT P w K mg qb "thing_cell" 1 ["place"] (y9 3):=by
 refine D.fn c1t ↑5 ↑8
 ·fail "l"
 ·obtain⟨n,rfl,h⟩:=h
  refine⟨_,(d9 (j1 (o8 a1b (o8 a5m (v5 T.m_CELLS_OF_A_PLACE rfl) (pv 0)) i8))),?_⟩;ext;exact h
abbrev b2g:Stmt:=top 43
theorem c5k:g7 ["size","hand"] ["size","hand"] (d8 b2g):=↑1
theorem c6p(D:DefT K mg "card_cell" b2g ["size","hand"])(T:Txt K mg cl)(G_check_size:qaa P w K mg qb cl)(G_check_hand:FnT P w K mg qb "check_hand" 1 ["hand"] (a4u cl)):FnT P w K mg qb "card_cell" 2 ["size","hand"] (a5r cl):=by
 refine D.fn c5k ↑5 ↑8
 ·fail "l"
 ·obtain⟨n,x,rfl,h⟩:=h
  refine⟨_,(d5 (j9 (k7 G_check_size hr ↑6 rfl i4 (a7 (pv 0) d6)))
   (d5 (j9 (k7 G_check_hand hr ↑6 rfl i4 (a7 (pv 1) d6)))
   (d9 (j1 (o8 a1b (o8 a5m (v5 T.m_CELLS_OF_A_PLACE rfl) (pv 0)) (d2g (K:=K) (a2h T.r_HANDS rfl) (a7 (pv 1) d6))))))),?_⟩
  unfold c9w at h;ext;refine⟨n,rfl,b3g (λa=>?_) (λa=>?_)⟩
  ·rw[if_pos a] at h
   ext;refine⟨x,rfl,b3g (λb=>?_) (λb=>?_)⟩
   ·rw[if_pos b] at h
    ext;refine⟨T.kt_HANDS.ty,?_⟩;ext;refine⟨_,_,_,_,rfl,rfl,T.kt_HANDS,rfl,rfl,rfl,?_,?_⟩
    ·rw[c4n,c4n,decide_eq_true_eq,decide_eq_true_eq]
     exact b.imp Eq.symm Eq.symm
    ·ext
     have e:(if eqV (.str "giver") (.str x)=true then (0:Int) else 1)=c7h x:=by
      unfold c7h;rw[c4n];simp only[decide_eq_true_eq];by_cases c:x="giver"
      ·rw[if_pos c,if_pos c.symm]
      ·rw[if_neg c,if_neg λz=>c z.symm]
     rw[e];exact h
   ·rw[if_neg b] at h
    exact h
  ·rw[if_neg a] at h
   exact h
abbrev b2h:Stmt:=top 44
theorem c5l:g7 ["size","hand"] ["size","hand"] (d8 b2h):=↑1
variable(P w K mg qb cl)in
abbrev qae:=FnT P w K mg qb "card_cell" 2 ["size","hand"] (a5r cl)
theorem c6q(D:DefT K mg "bell_cell" b2h ["size","hand"])(T:Txt K mg cl)(G_card_cell:qae P w K mg qb cl):FnT P w K mg qb "bell_cell" 3 ["size","hand"] (a2i cl):=by
 refine D.fn c5l ↑5 ↑8
 ·fail "l"
 ·obtain⟨n,x,rfl,h⟩:=h
  refine⟨_,(d9 (j1 (o8 a1b (k7 G_card_cell hr ↑6 rfl i4 (a7 (pv 0) (a7 (pv 1) d6))) (l7 (n5 (K:=K)) (by rfl) T.z_len PySem.boot_len (a7 (a2h T.r_HANDS rfl) d6))))),?_⟩
  unfold c9w at h;ext;refine⟨n,x,rfl,?_⟩;unfold c9w;refine b3g (λa=>b3g (λb=>?_) (λb=>?_)) (λa=>?_)
  ·rw[if_pos a,if_pos b] at h
   ext;refine⟨_,_,rfl,.inr T.kt_HANDS.sq,?_⟩;ext;exact h
  ·rw[if_pos a,if_neg b] at h
   exact h
  ·rw[if_neg a] at h
   exact h
abbrev b1v:Stmt:=top 45
theorem c5b:g7 ["size"] ["size"] (d8 b1v):=↑1
theorem c6e(D:DefT K mg "new_cells" b1v ["size"])(T:Txt K mg cl):FnT P w K mg qb "new_cells" 1 ["size"] b6n:=by
 refine D.fn c5b ↑5 ↑8
 ·fail "l"
 ·obtain⟨n,rfl,h8,k⟩:=h
  refine⟨_,(d9 (j1 (o8 d0t (o8 d4r (t7 (a7 (v5 T.m_NEW_MARK rfl) (a7 (v5 T.m_NO_ORDER rfl) (a7 i8 (a7 i8 d6))))) (pv 0)) (t7 (a7 (v5 T.m_NO_TURN rfl) (a7 (v5 T.m_NO_TURN rfl) (a7 (v5 T.m_STILL rfl) (a7 (v5 T.m_STILL rfl) d6)))))))),?_⟩;have h20:2000<=sizeLine:=by decide
  ext;refine⟨by show 4<=sizeLine;lia,λp1 h1=>?_⟩
  ext;refine⟨p1,n,_,rfl,rfl,d7,by lia,by lia,by show 4*(n:Int).toNat<=sizeLine;lia,λp2 h2=>?_⟩
  ext;refine⟨by show 4<=sizeLine;lia,λp3 h3=>?_⟩
  refine d5s (i9 h3 _ _ d7) d7 ?_ (λp4 h4=>?_)
  ·rw[c9m]
   show(n:Int).toNat*4+4<=sizeLine;lia
  refine k p4 _ ((((i9 h1).trans (i9 h2)).trans (i9 h3)).free h4) ((((i9 h1).trans (i9 h2)).trans (i9 h3)).trans (i9 h4)) ?_;rw[d7];unfold b4x;rw[List.map_append,show((n:Int)).toNat=n by lia]
  rw[<- e0t n [2,-1,0,0]]
  rfl
inductive ExB(R:Addr->Addr->Nat->List Int->Int->V->Prop):Prop
 | mk (b l:Addr) (n:Nat) (row:List Int) (many:Int) (last:V) (h:R b l n row many last):ExB R
def b3s(cl:Cl):Sp:=λvs H Q E=>∃(x dx:Addr)(n:Int),vs=[.ref x,.int n]/\H x=some (.ins cl.Board dx []) /\
 (if 2<=n/\n<=8 then ∀l H',H l=none->Kp [x] H H'->Brd cl H' x l n.toNat (b4x n.toNat) 0 .non->Q .non H' else False)
def a2d(cl:Cl):Sp:=λvs H Q E=>ExB λb l n row many last=>∃(c:Int),vs=[.ref b,.int c]/\Brd cl H b l n row many last/\(if 0<=c/\c<row.length then Q .non H else False)
def a2b(cl:Cl):Sp:=λvs H Q _=>ExB λb l n row many last=>∃(d:Str)(c x:Int),vs=[.ref b,.str d,.int c,.int x]/\Brd cl H b l n row many last /\
 ∀t H',H t=none->Kp [b] H H'->H' t=some (.tup [.str d,.int c,.int x])->Brd cl H' b l n row (many+1) (.ref t)->Q .non H'
def x0(cl:Cl):Sp:=λvs H Q E=>ExB λb l n row many last=>∃(c:Int),vs=[.ref b,.int c]/\Brd cl H b l n row many last /\
 (if 0<=c/\c<row.length then ∀t H',H t=none->Kp [b] H H'->H' t=some (.tup [.str "read",.int c,.int (row.getD c.toNat 0)])->Brd cl H' b l n row (many+1) (.ref t)->Q (.int (row.getD c.toNat 0)) H' else False)
def v9(cl:Cl):Sp:=λvs H Q E=>ExB λb l n row many last=>∃(c x:Int),vs=[.ref b,.int c,.int x]/\Brd cl H b l n row many last /\
 (if 0<=c/\c<row.length then ∀t H',H t=none->Kp [b,l] H H'->H' t=some (.tup [.str "write",.int c,.int x])->Brd cl H' b l n (row.set c.toNat x) (many+1) (.ref t)->Q .non H' else False)
def a1a(cl:Cl):Sp:=λvs H Q _=>ExB λb l n row many last=>vs=[.ref b]/\Brd cl H b l n row many last/\∀p,H p=none->Q (.ref p) (upd H p (.lst (row.map V.int)))
def a2c(cl:Cl):Sp:=λvs H Q _=>ExB λb l n row many last=>vs=[.ref b]/\Brd cl H b l n row many last/\Q last H
theorem b7d{row:List Int}{c:Int}(h0:0<=c)(h1:c<row.length):atI (row.map V.int) c=some (.int (row.getD c.toNat 0)):=by
 have hn:c.toNat<row.length:=by lia
 have e:=b6l hn;rw[show((c.toNat:Nat):Int)=c by lia] at e
 rw[e,List.getD_eq_getElem?_getD,List.getElem?_eq_getElem hn]
 rfl
theorem d5h{l:Nat}{c:Int}(h0:0<=c)(h1:c<l):ixN l c=some c.toNat:=by
 unfold ixN;rw[if_pos h0,if_pos h1]
abbrev a9q:Stmt:=m9 (top 46) 0
theorem c2n:g7 ["self","size"] ["self","size"] (d8 a9q):=↑1
theorem c4a(D:DefM K cl.Board "__init__" "Board.__init__" a9q ["self","size"])(T:Txt K mg cl)(G_check_size:qaa P w K mg qb cl)(G_new_cells:FnT P w K mg qb "new_cells" 1 ["size"] b6n):MethT P w K mg qb cl.Board "__init__" 2 ["self","size"] (b3s cl):=by
 refine D.fn c2n ↑5 ↑8
 ·fail "l"
 ·obtain⟨x,dx,n,rfl,ex,h⟩:=h
  refine⟨_,(d5 (j9 (k7 G_check_size hr ↑6 rfl i4 (a7 (pv 1) d6)))
   (d5 (m6 (K:=K) (pv 0) (pv 1))
   (d5 (m6 (K:=K) (pv 0) (k7 G_new_cells hr ↑6 rfl i4 (a7 (pv 1) d6)))
   (d5 (m6 (K:=K) (pv 0) i8)
   (d9 (m6 (K:=K) (pv 0) d4k)))))),?_⟩
  ext;refine⟨n,rfl,b3g (λa=>?_) (λa=>?_)⟩
  ·rw[if_pos a] at h
   ext;refine⟨n.toNat,by rw[show((n.toNat:Nat):Int)=n by lia],by lia,λl H1 hl s1 e1=>?_⟩
   have nx:l≠x:=by
    rintro rfl;rw[d7] at hl;cases hl
   have ex1:=s1 _ _ d7;ext;have el:H l=none:=by rw[c7 nx] at hl;exact hl
   refine h l _ el ?_ ⟨⟨dx,?_⟩,?_,d2v _,by lia,by lia⟩
   ·intro c o e n
    have nc:c≠x:=λz=>n (by simp[z])
    rw[c7 nc,c7 nc,c7 nc];exact s1 _ _ (by rw[c7 nc];exact e)
   ·rw[d7,show((n.toNat:Nat):Int)=n by lia]
    rfl
   ·rw[c7 nx,c7 nx,c7 nx]
    exact e1
  ·rw[if_neg a] at h
   exact h
abbrev a2w:Stmt:=m9 (top 46) 1
theorem b1s:g7 ["self","cell"] ["self","cell"] (d8 a2w):=↑1
theorem b3e(D:DefM K cl.Board "check_cell" "Board.check_cell" a2w ["self","cell"])(T:Txt K mg cl):MethT P w K mg qb cl.Board "check_cell" 1 ["self","cell"] (a2d cl):=by
 refine D.fn b1s ↑5 ↑8
 ·fail "l"
 ·obtain⟨b,l,n,row,many,last,c,rfl,⟨⟨dx,eb⟩,el,hl,n2,n8⟩,h⟩:=h
  refine⟨_,(d9 (a0s (PW.pt (b4h (k8 b2w (pv 1) i8 (n9 _)) (a8b (k8 e1h (pv 1) (l7 (n5 (K:=K)) (by rfl) T.z_len PySem.boot_len (a7 ↑4 d6)) (n9 _)))))
    (d9 a2x)
    v3)),?_⟩
  ext;refine a3b (λa=>?_) (λa=>?_)
  ·rw[if_neg ↑3] at h
   ext;exact h
  ·ext
   rw[List.length_map];refine a3b (λd=>?_) (λd=>?_)
   ·rw[if_neg ↑3] at h
    ext;exact h
   ·rw[if_pos ↑3] at h
    ext;exact h
abbrev a2u:Stmt:=m9 (top 46) 2
theorem b1q:g7 ["self","deed","cell","value"] ["self","deed","cell","value"] (d8 a2u):=↑1
theorem b3c(D:DefM K cl.Board "note_touch" "Board.note_touch" a2u ["self","deed","cell","value"])(T:Txt K mg cl):MethT P w K mg qb cl.Board "note_touch" 1 ["self","deed","cell","value"] (a2b cl):=by
 refine D.fn b1q ↑5 ↑8
 ·fail "l"
 ·obtain⟨b,l,n,row,many,last,d,c,x,rfl,⟨⟨dx,eb⟩,el,hl,n2,n8⟩,h⟩:=h
  refine⟨_,(d5 (d2f (K:=K) (pv 0) i8 e4q)
   (d9 (m6 (K:=K) (pv 0) (b7b (a7 (pv 1) (a7 (pv 2) (a7 (pv 3) d6))))))),?_⟩
  have nbl:l≠b:=(a7b eb el (by intro z;cases z)).symm
  ext;refine⟨by show 3<=sizeLine;decide,λt ht=>?_⟩
  have nt:t≠b:=by
   rintro rfl;rw[d7] at ht;cases ht
  have et:H t=none:=by rw[c7 nt] at ht;exact ht
  ext;refine h t _ et ?_ ?_ ⟨⟨dx,d7⟩,?_,hl,n2,n8⟩
  ·intro c o e n
   have nc:c≠b:=λz=>n (by simp[z])
   rw[c7 nc,c7 (g9 e et),c7 nc];exact e
  ·rw[c7 nt,d7]
  ·rw[c7 nbl,c7 (g9 el et),c7 nbl]
   exact el
abbrev a9p:Stmt:=m9 (top 46) 3
theorem c2m:g7 ["self","cell"] ["self","cell"] (d8 a9p):=↑1
theorem c3z(D:DefM K cl.Board "read" "Board.read" a9p ["self","cell"])(T:Txt K mg cl)(G_Board_check_cell:MethT P w K mg qb cl.Board "check_cell" 1 ["self","cell"] (a2d cl))(G_Board_note_touch:MethT P w K mg qb cl.Board "note_touch" 1 ["self","deed","cell","value"] (a2b cl)):MethT P w K mg qb cl.Board "read" 2 ["self","cell"] (x0 cl):=by
 refine D.fn c2m ↑5 ↑8
 ·fail "l"
 ·obtain⟨b,l,n,row,many,last,c,rfl,hB,h⟩:=h
  refine⟨_,(d5 (j9 (a1f (pv 0) T.k_Board G_Board_check_cell hr ↑6 i4 (a7 (pv 1) d6)))
   (d5 (j9 (a1f (pv 0) T.k_Board G_Board_note_touch hr ↑6 i4 (a7 k0 (a7 (pv 1) (a7 (v4 (j4 (K:=K)) ↑4 (pv 1) (λ_ _=>rfl)) d6)))))
   (d9 (j1 (v4 (j4 (K:=K)) ↑4 (pv 1) (λ_ _=>rfl)))))),?_⟩
  have hB':=hB;obtain⟨⟨dx,eb⟩,el,hl,n2,n8⟩:=hB';ext;refine⟨b,l,n,row,many,last,c,rfl,hB,b3g (λa=>?_) (λa=>?_)⟩
  ·rw[if_pos a] at h
   ext;refine a0w el (b7d a.1 a.2) ?_;ext;refine⟨b,l,n,row,many,last,_,c,_,rfl,hB,λt H' ht k et hB1=>?_⟩;obtain⟨⟨dx1,eb1⟩,el1,_⟩:=id hB1;ext;exact a0w el1 (b7d a.1 a.2) (h t H' ht k et hB1)
  ·rw[if_neg a] at h
   exact h
abbrev a7y:Stmt:=m9 (top 46) 4
theorem c0c:g7 ["self","cell","number"] ["self","cell","number"] (d8 a7y):=↑1
theorem c0r(D:DefM K cl.Board "write" "Board.write" a7y ["self","cell","number"])(T:Txt K mg cl)(G_Board_check_cell:MethT P w K mg qb cl.Board "check_cell" 1 ["self","cell"] (a2d cl))(G_Board_note_touch:MethT P w K mg qb cl.Board "note_touch" 1 ["self","deed","cell","value"] (a2b cl)):MethT P w K mg qb cl.Board "write" 2 ["self","cell","number"] (v9 cl):=by
 refine D.fn c0c ↑5 ↑8
 ·fail "l"
 ·obtain⟨b,l,n,row,many,last,c,x,rfl,hB,h⟩:=h
  refine⟨_,(d5 (j9 (a1f (pv 0) T.k_Board G_Board_check_cell hr ↑6 i4 (a7 (pv 1) d6)))
   (d5 (b7a (pv 2) (d0o ↑4 (pv 1) b3t))
   (d9 (j9 (a1f (pv 0) T.k_Board G_Board_note_touch hr ↑6 i4 (a7 k0 (a7 (pv 1) (a7 (pv 2) d6)))))))),?_⟩
  have hB':=hB;obtain⟨⟨dx,eb⟩,el,hl,n2,n8⟩:=hB';have nbl:b≠l:=a7b eb el (by intro z;cases z)
  ext;refine⟨b,l,n,row,many,last,c,rfl,hB,b3g (λa=>?_) (λa=>?_)⟩
  ·rw[if_pos a] at h
   ext;refine d9q el (by rw[List.length_map];exact d5h a.1 a.2) ?_
   ext;refine⟨b,l,n,row.set c.toNat x,many,last,_,c,x,rfl,⟨⟨dx,?_⟩,?_,?_,n2,n8⟩,λt H' ht k et hB1=>?_⟩
   ·rw[c7 nbl];exact eb
   ·rw[d7,List.map_set]
   ·rw[List.length_set];exact hl
   ·ext
    refine h t H' ?_ ?_ et hB1
    ·rw[c7] at ht
     ·exact ht
     ·rintro rfl
      rw[d7] at ht;cases ht
    ·exact(Kp.upd (by simp)).trans (k.mono (by simp))
  ·rw[if_neg a] at h
   exact h
abbrev a3s:Stmt:=m9 (top 46) 6
theorem b4g:g7 ["self"] ["self"] (d8 a3s):=↑1
theorem b4v(D:DefM K cl.Board "all_cells" "Board.all_cells" a3s ["self"])(T:Txt K mg cl):MethT P w K mg qb cl.Board "all_cells" 1 ["self"] (a1a cl):=by
 refine D.fn b4g ↑5 ↑8
 ·fail "l"
 ·obtain⟨b,l,n,row,many,last,rfl,⟨⟨dx,eb⟩,el,hl,n2,n8⟩,h⟩:=h
  refine⟨_,(d9 (j1 (a2y (a7e (K:=K)) (by rfl) T.z_list PyProof.Rows.boot_list (a7 ↑4 d6)))),?_⟩
  ext;exact h
abbrev a9o:Stmt:=m9 (top 46) 7
abbrev a2v:Stmt:=m9 (top 46) 8
theorem b1r:g7 ["self"] ["self"] (d8 a2v):=↑1
theorem b3d(D:DefM K cl.Board "last_touch" "Board.last_touch" a2v ["self"])(T:Txt K mg cl):MethT P w K mg qb cl.Board "last_touch" 1 ["self"] (a2c cl):=by
 refine D.fn b1r ↑5 ↑8
 ·fail "l"
 ·obtain⟨b,l,n,row,many,last,rfl,⟨⟨dx,eb⟩,el,hl,n2,n8⟩,h⟩:=h
  refine⟨_,(d9 (j1 ↑4)),?_⟩;ext;exact h
theorem d7d:(0:Int)<10 ^ 59/\(10:Int) ^ 59<2 ^ 200-1/\(5:Int)*10 ^ 58+5*10 ^ 58=10 ^ 59/\(8:Int)<5*10 ^ 58:=by decide
def d9g(x:Int):Prop:=-(5*10 ^ 58)<=x/\x<=5*10 ^ 58
def b6p:Sp:=λvs H Q _=>∃(w:Addr)(n:Int),vs=[.ref w,.int n]/\Well H w/\1<=n/\n<=8/\∀(p:Addr)(H':Hp)(row:List Int),H p=none->H' p=some (.lst (row.map V.int))->1<=row.length->(row.length:Int)<=n->(∀x∈row,d9g x)->Well H' w->But w H H'->Q (.ref p) H'
abbrev b2a:Stmt:=top 112
theorem a4a:g7 ["well","size","way","order","k","far"] ["well","size"] (d8 b2a):=↑1
variable(P w K mg qb)in
abbrev qaf:=FnT P w K mg qb "_law_take" 1 ["well","many"] a5b
theorem c6j(D:DefT K mg "_law_order" b2a ["well","size"])(T:Txt K mg cl)(G_law_take:qaf P w K mg qb):FnT P w K mg qb "_law_order" 2 ["well","size"] b6p:=by
 refine D.fn a4a ↑5 ↑8
 ·fail "l"
 ·obtain⟨w,n,rfl,hw,n1,n8,k⟩:=h
  refine⟨_,(d5 (n6 (i:=2) a4a.nd rfl (.inl rfl) (k7 G_law_take hr ↑6 rfl i4 (a7 (pv 0) (a7 i8 d6))))
   (d5 (n6 (i:=3) a4a.nd rfl (.inl rfl) (t7 d6))
   (d5 (b4i a3u rfl (b4j rfl T.z_range (a7 (v4 (j4 (K:=K)) (t7 (a7 i8 (a7 (pv 1) (a7 (o8 a1b i8 (k7 G_law_take hr ↑6 rfl i4 (a7 (pv 0) (a7 (pv 1) d6)))) d6)))) (pv 2) (λ_ _=>rfl)) d6)) (y7 (i:=4) a4a.nd rfl (.inl rfl))
     (
     d5 (n6 (i:=5) a4a.nd rfl (.inl rfl) (o8 b1g (k7 G_law_take hr ↑6 rfl i4 (a7 (pv 0) (a7 (o8 d4s i8 i8) d6))) (o8 a5m i8 (o8 d4s i8 i8))))
     (d9 (j9 (a0o (K:=K) (pv 3) (a7 (v4 (j4 (K:=K)) (t7 (a7 (o8 b1g (k7 G_law_take hr ↑6 rfl i4 (a7 (pv 0) (a7 i8 d6))) i8) (a7 (pv 5) d6))) (o8 b4l (k7 G_law_take hr ↑6 rfl i4 (a7 (pv 0) (a7 i8 d6))) i8) (λ_ _=>rfl)) d6))))))
   (d9 (j1 (pv 3)))))),?_⟩
  have h20:2000<=sizeLine:=by decide
  ext;refine⟨w,3,rfl,hw,by decide,by decide,λway H1 a1 c1 w1 b1=>?_⟩
  ext;refine⟨Nat.zero_le _,λp hp=>?_⟩;have hp0:H p=none:=b1.free w1 hp;have np:p≠w:=w1.ne hp;ext;refine⟨w,n,rfl,w1.same (i9 hp),by lia,by lia,λr H2 a2 c2 w2 b2=>?_⟩
  have e2:H2 p=some (.lst (([]:List Int).map V.int)):=b2 p _ d7 np;have bb2:But w H H2:=b1.trans ((But.of (i9 hp)).trans b2);ext;refine⟨by show 3<=sizeLine;lia,λq hq=>?_⟩
  obtain⟨N,hN,g1,g8⟩:=d4h (ns:=[1,n,1+r]) (Pr:=λv=>1<=v/\v<=n) (by intro v hv;simp only[List.mem_cons,List.not_mem_nil,or_false] at hv;lia) a1 c1
  ext;refine a0w d7 hN ?_;ext;refine b6k (n:=N.toNat) (λi σ H'=>∃x4 x5 row,σ=[some (.ref w),some (.int n),some (.int way),some (.ref p),x4,x5]/\H' p=some (.lst ((row:List Int).map V.int))/\row.length=i/\(∀x∈row,d9g x)/\Well H' w/\But w H H') ⟨_,_,[],rfl,i9 hq _ _ e2,rfl,by simp,w2.same (i9 hq),bb2.nw hq⟩ ?_ ?_
  ·rintro i σ H3 hi ⟨x4,x5,row,rfl,e3,hl,hs,w3,b3⟩
   ext;refine⟨w,_,rfl,w3,d7d.1,Int.lt_trans d7d.2.1 ↑6,λr4 H4 a4 c4 w4 b4=>?_⟩;have c4:r4<10 ^ 59:=c4;have e4:H4 p=_:=b4 p _ e3 np;ext;refine⟨w,9,rfl,w4,by decide,by decide,λr5 H5 a5 c5 w5 b5=>?_⟩
   have e5:H5 p=_:=b5 p _ e4 np;ext;refine⟨by show 2<=sizeLine;lia,λq hq=>?_⟩
   have nq:q≠w:=w5.ne hq;have e5':upd H5 q (.lst [.int (r5-4),.int (r4-5*10 ^ 58)]) p=_:=i9 hq _ _ e5;ext;refine⟨w,5,rfl,w5.same (i9 hq),by decide,by decide,λr6 H6 a6 c6 w6 b6=>?_⟩
   have e6:H6 p=_:=b6 p _ e5' np;have e6q:H6 q=_:=b6 q _ d7 nq;ext;obtain⟨y,hy,sy⟩:=d4h (ns:=[r5-4,r4-5*10 ^ 58]) (Pr:=d9g) (by
    have z1:=d7d.2.2.1;have z2:=d7d.2.2.2;intro v hv;simp only[List.mem_cons,List.not_mem_nil,or_false] at hv;unfold d9g;rcases hv with rfl|rfl <;> constructor <;> lia) (r:=r6 / 4) ↑3 (by show r6 / 4<2;lia)
   refine a0w e6q hy ?_;ext;refine c4k e6 (by rw[List.length_map];lia) ?_
   ext;refine⟨_,_,row++[y],rfl,by rw[d7,List.map_append];rfl,by rw[List.length_append];show row.length+1=_;lia,?_,?_,?_⟩
   ·intro x hx
    rcases List.mem_append.mp hx with h|h
    ·exact hs x h
    ·rw[List.mem_singleton.mp h];exact sy
   ·obtain⟨a,b,pr,z,zz⟩:=w6
    exact⟨a,b,pr,(c7 np.symm).trans z,zz⟩
   ·have:But w H H6:=b3.trans (b4.trans (b5.trans ((But.of (i9 hq)).trans b6)))
    intro c o e ne;rw[c7 (g9 e hp0)];exact this c o e ne
  ·rintro σ H3 ⟨x4,x5,row,rfl,e3,hl,hs,w3,b3⟩
   ext;exact k p H3 row hp0 e3 ↑3 ↑3 hs w3 b3
def Rws(H:Hp)(a:Addr)(os:List (List Int)):Prop:=∃ps:List Addr,H a=some (.lst (ps.map V.ref))/\ps.length=os.length/\∀(i:Nat)(p:Addr)(o:List Int),ps[i]?=some p->os[i]?=some o->H p=some (.lst (o.map V.int))
theorem Rws.same{H H':Hp}{a:Addr}{os:List (List Int)}(h:Rws H a os)(s:Same H H'):Rws H' a os:=by
 obtain⟨ps,e,l,r⟩:=h;exact⟨ps,s _ _ e,l,λi p o hp ho=>s _ _ (r i p o hp ho)⟩
theorem c1e{σ:St}{H:Hp}{k:St->Hp->Prop}{p:Addr}{x y:V}{i j n:Nat}(h:H p=some (.tup [x,y]))(hn:2=n)(q:k ((σ.set i (some x)).set j (some y)) H):e7v K n (e2g (c7k i) (e2g (c7k j) e8w)) (.ref p) σ H k :=
 ⟨p,[x,y],rfl,SqT.of h,hn,x,[y],rfl,y,[],rfl,rfl,q⟩
def d0i(K:Frag):Sp:=λvs H Q _=>∃(a:Addr)(ns:List Int),vs=[.ref a]/\SqL K H a (ns.map V.int)/\ns.length<=63/\∀H',Q (.bl true) H'
theorem _root_.L2.op_catTK{X:Cx}{K:Frag}(h:X.K=K:=by rfl):OpR X (binaryOp .Add) (e3t K):=h ▸ e1i
structure Ad where
 o:Nat->Addr
 mg:Addr
 mt:Addr
 fo:Addr->Prop
abbrev Ad.bd(A:Ad):Addr:=A.o 0
abbrev Ad.l(A:Ad):Addr:=A.o 1
abbrev Ad.gv(A:Ad):Addr:=A.o 2
abbrev Ad.tk(A:Ad):Addr:=A.o 3
abbrev Ad.kt(A:Ad):Addr:=A.o 4
abbrev Ad.kg(A:Ad):Addr:=A.o 5
abbrev Ad.kk(A:Ad):Addr:=A.o 6
abbrev Ad.pa(A:Ad):Addr:=A.o 7
inductive Hr where
 | non
 | int (i:Int)
@[reducible] def Hr.v:Hr->V
 | .non=>.non
 | .int i=>.int i
structure Gm where
 st:Str
 he:Hr
 nu:Int
 le:Int
structure Tm where
 st:Str
 he:Hr
 nf:Hr
 nu:Int
 le:Int
abbrev gvO(cl:Cl)(dx:Addr)(A:Ad)(G:Gm):HO:=.ins cl.Giver dx [("kept",.ref A.kg),("board",.ref A.bd),("name",.str "giver"),("other",.str "taker"),("stage_behind_marks",.str "told"),("stage_now",.str G.st),("marks_read",.ref A.mg),("here",G.he.v),("touched",.ref A.kt),("number",.int G.nu),("left",.int G.le)]
abbrev tkO(cl:Cl)(dx:Addr)(A:Ad)(T:Tm):HO:=.ins cl.Taker dx [("taken",.ref A.kk),("board",.ref A.bd),("name",.str "taker"),("other",.str "giver"),("stage_behind_marks",.str "look"),("stage_now",.str T.st),("marks_read",.ref A.mt),("here",T.he.v),("touched",.ref A.kt),("not_freed",T.nf.v),("number",.int T.nu),("left",.int T.le),("parts",.ref A.pa)]
def RwsX(A:Ad)(H:Hp)(a:Addr)(os:List (List Int)):Prop:=∃ps:List Addr,H a=some (.lst (ps.map V.ref))/\ps.length=os.length/\∀(i:Nat)(p:Addr)(o:List Int),ps[i]?=some p->os[i]?=some o->(∀j,j<8->p≠A.o j)/\H p=some (.lst (o.map V.int))
def c0d(n:Nat)(c:Pr.Cells):List Int:=(List.range (4*n+4)).map c
theorem d0l(n:Nat)(c:Pr.Cells):(c0d n c).length=4*n+4:=by unfold c0d;rw[List.length_map,List.length_range]
theorem a0n{n k:Nat}(c:Pr.Cells)(h:k<4*n+4):(c0d n c).getD k 0=c k:=by
 unfold c0d;rw[List.getD_eq_getElem?_getD,List.getElem?_map,List.getElem?_range h]
 rfl
theorem d7r{n k:Nat}(c:Pr.Cells)(x:Int)(h:k<4*n+4):(c0d n c).set k x=c0d n (Pr.put c k x):=by
 apply List.ext_getElem?;intro j;unfold c0d;by_cases e:j=k
 ·subst e
  rw[List.getElem?_set_self (by rw[List.length_map,List.length_range];exact h),List.getElem?_map,List.getElem?_range h]
  show some x=some (Pr.put c j x j);rw[Pr.put_same]
 ·rw[List.getElem?_set_ne (Ne.symm e),List.getElem?_map,List.getElem?_map]
  by_cases hj:j<4*n+4
  ·rw[List.getElem?_range hj]
   show some (c j)=some (Pr.put c k x j);rw[Pr.put_ne _ _ e]
  ·rw[List.getElem?_eq_none (by rw[List.length_range];lia)]
   rfl
structure Tc where
 w:Bool
 k:Nat
 x:Int
def Tc.d(t:Tc):Str:=if t.w then "write" else "read"
structure Lt where
 m:Int
 o:Option Tc
def Lt.rd(lt:Lt)(k:Nat)(x:Int):Lt:=⟨lt.m+1,some ⟨false,k,x⟩⟩
def Lt.wr(lt:Lt)(k:Nat)(x:Int):Lt:=⟨lt.m+1,some ⟨true,k,x⟩⟩
def Lt.tch(lt:Lt)(t:Tc):Lt:=⟨lt.m+1,some t⟩
abbrev Tr:Type:=Bool×Tc
def e5y(t:Tr):HO:=.tup [.str (if t.1 then "giver" else "taker"),.str t.2.d,.int t.2.k,.int t.2.x]
def LastOk(A:Ad)(H:Hp)(lt:Lt)(many:Int)(last:V):Prop:=many=lt.m/\(lt.o=none->last=.non)/\∀q,lt.o=some q->∃t,last=.ref t/\(∀j,j<8->t≠A.o j)/\H t=some (.tup [.str q.d,.int q.k,.int q.x])
def TrX(A:Ad)(H:Hp)(a:Addr)(tl:List Tr):Prop:=∃ps:List Addr,H a=some (.lst (ps.map V.ref))/\ps.length=tl.length/\∀(i:Nat)(p:Addr)(t:Tr),ps[i]?=some p->tl[i]?=some t->(∀j,j<8->p≠A.o j)/\¬ A.fo p/\H p=some (e5y t)
theorem TrX.gen{A A':Ad}{H H':Hp}{a a':Addr}{tl:List Tr}(h:TrX A H a tl)(ea:∀o,H a=some o->H' a'=some o)(k:∀p t,H p=some (e5y t)->(∀j,j<8->p≠A.o j)->¬ A.fo p->(∀j,j<8->p≠A'.o j)/\¬ A'.fo p/\H' p=some (e5y t)):TrX A' H' a' tl:=by
 obtain⟨ps,e,l,r⟩:=h;refine⟨ps,ea _ e,l,λi p t hp ht=>?_⟩;obtain⟨r1,r2,r3⟩:=r i p t hp ht;exact k p _ r3 r1 r2
def Unr(H:Hp)(a x:Addr):Prop:=∀xs,H a=some (.lst xs)->V.ref x ∉ xs
def Unl(H:Hp)(b x:Addr):Prop:=∀C dx fs,H b=some (.ins C dx fs)->fs.lookup ("newest_touch":Str)≠some (V.ref x)
def Fo(H:Hp)(A:Ad):Prop:=∀x,A.fo x->(∃o,H x=some o)/\(∀j,j<8->x≠A.o j)/\x≠A.mg/\x≠A.mt/\Unr H A.kg x/\Unr H A.kk x/\Unl H A.bd x
theorem Fo.keep{H H':Hp}{A:Ad}(h:Fo H A)(ks:∀x o,H x=some o->(∀j,j<8->x≠A.o j)->∃o,H' x=some o)(e5:H' A.kg=H A.kg)(e6:H' A.kk=H A.kk)(e0:H' A.bd=H A.bd):Fo H' A:=λx hx=>by
 obtain⟨⟨o,a⟩,b,c,d,e,f,g⟩:=h x hx;exact⟨ks x o a b,b,c,d,(λxs z=>e xs (e5 ▸ z)),(λxs z=>f xs (e6 ▸ z)),(λC dx fs z=>g C dx fs (e0 ▸ z))⟩
theorem Fo.updO{H:Hp}{A:Ad}{u:HO}(h:Fo H A)(nd:∀i j,i<8->j<8->i≠j->A.o i≠A.o j)(j:Nat)(hj:j<8)(j0:j≠0)(j5:j≠5)(j6:j≠6):Fo (upd H (A.o j) u) A :=
 h.keep (λx o e n=>⟨o,by rw[c7 (n j hj)];exact e⟩) (c7 (nd 5 j ↑3 hj (Ne.symm j5))) (c7 (nd 6 j ↑3 hj (Ne.symm j6))) (c7 (nd 0 j ↑3 hj (Ne.symm j0)))
inductive ExL(R:Ad->Nat->Pr.Cells->List (List Int)->List (List Int)->List Int->List Int->List Int->Gm->Tm->List Tr->Lt->Prop):Prop
 | mk (A:Ad) (n:Nat) (c:Pr.Cells) (os bk:List (List Int)) (gs ts ps:List Int) (G:Gm) (T:Tm) (tl:List Tr) (lt:Lt) (h:R A n c os bk gs ts ps G T tl lt):ExL R
inductive ExN(R:Addr->Ad->Pr.Ln->List Tr->Prop):Prop
 | mk (la:Addr) (A:Ad) (L:Pr.Ln) (tl:List Tr) (h:R la A L tl):ExN R
structure LH(cl:Cl)(H:Hp)(A:Ad)(n:Nat)(c:Pr.Cells)(os bk:List (List Int))(gs ts ps:List Int)(G:Gm)(T:Tm)(tl:List Tr)(lt:Lt):Prop where
 brd:∃many last,Brd cl H A.bd A.l n (c0d n c) many last/\LastOk A H lt many last
 gv:∃dx,H A.gv=some (gvO cl dx A G)
 tk:∃dx,H A.tk=some (tkO cl dx A T)
 mg:H A.mg=some (.lst (gs.map V.int))
 mt:H A.mt=some (.lst (ts.map V.int))
 kept:RwsX A H A.kg os
 book:RwsX A H A.kk bk
 pa:H A.pa=some (.lst (ps.map V.int))
 tr:TrX A H A.kt tl
 nd:∀i j,i<8->j<8->i≠j->A.o i≠A.o j
 om:∀i,i<8->A.mg≠A.o i/\A.mt≠A.o i
 fo:Fo H A
section
variable{H H':Hp}{A:Ad}{n:Nat}{c:Pr.Cells}{os bk:List (List Int)}{gs ts ps:List Int}{G:Gm}{T:Tm}{tl:List Tr}{lt:Lt}
theorem RwsX.kp{a:Addr}{S:List Addr}(h:RwsX A H a os)(k:Kp S H H')(ha:a ∉ S)(hS:∀x∈S,(∃j,j<8/\x=A.o j)):RwsX A H' a os:=by
 obtain⟨ps,e,l,r⟩:=h;refine⟨ps,k _ _ e ha,l,λi p o hp ho=>⟨(r i p o hp ho).1,k _ _ (r i p o hp ho).2 λz=>?_⟩⟩;obtain⟨j,hj,e⟩:=hS p z;exact(r i p o hp ho).1 j hj e
def KpA(A:Ad)(H H':Hp):Prop:=∀x o,H x=some o->(∀j,j<8->x≠A.o j)->H' x=some o
theorem KpA.trans{H1 H2:Hp}(a:KpA A H H1)(b:KpA A H1 H2):KpA A H H2:=λx o e n=>b x o (a x o e n) n
theorem KpA.of(s:Same H H'):KpA A H H':=λx o e _=>s x o e
theorem KpA.kp{S:List Addr}(k:Kp S H H')(hS:∀x∈S,(∃j,j<8/\x=A.o j)):KpA A H H':=λx o e n=>k x o e λz=>by
 obtain⟨j,hj,q⟩:=hS x z;exact n j hj q
theorem KpA.upd{j:Nat}{o:HO}(hj:j<8):KpA A H (L2.upd H (A.o j) o):=λx u e n=>by rw[c7 (n j hj)];exact e
theorem LastOk.kpa{many:Int}{last:V}{lt:Lt}(h:LastOk A H lt many last)(k:KpA A H H'):LastOk A H' lt many last:=⟨h.1,h.2.1,λq z=>by
 obtain⟨t,e,n,u⟩:=h.2.2 q z;exact⟨t,e,n,k _ _ u n⟩⟩
theorem TrX.kpa{a:Addr}{tl:List Tr}(h:TrX A H a tl)(k:KpA A H H')(ea:∀o,H a=some o->H' a=some o):TrX A H' a tl:=h.gen ea λp o e n f=>⟨n,f,k _ _ e n⟩
theorem LH.has(h:LH cl H A n c os bk gs ts ps G T tl lt):∀j,j<8->∃o,H (A.o j)=some o:=by
 intro j hj;obtain⟨_,_,⟨⟨_,e0⟩,e1,_⟩,_⟩:=h.brd;obtain⟨_,e2⟩:=h.gv;obtain⟨_,e3⟩:=h.tk;obtain⟨_,e4,_⟩:=h.tr;obtain⟨_,e5,_⟩:=h.kept;obtain⟨_,e6,_⟩:=h.book;have:j=0\/j=1\/j=2\/j=3\/j=4\/j=5\/j=6\/j=7:=by lia
 rcases this with rfl|rfl|rfl|rfl|rfl|rfl|rfl|rfl
 ·exact⟨_,e0⟩
 ·exact⟨_,e1⟩
 ·exact⟨_,e2⟩
 ·exact⟨_,e3⟩
 ·exact⟨_,e4⟩
 ·exact⟨_,e5⟩
 ·exact⟨_,e6⟩
 ·exact⟨_,h.pa⟩
theorem LH.same(h:LH cl H A n c os bk gs ts ps G T tl lt)(s:Same H H'):LH cl H' A n c os bk gs ts ps G T tl lt where
 brd:=let ⟨m,l,z,y⟩:=h.brd;⟨m,l,z.keep (Kp.of (ps:=[]) s) (by simp) (by simp),y.kpa (KpA.of s)⟩
 gv:=let ⟨d,z⟩:=h.gv;⟨d,s _ _ z⟩
 tk:=let ⟨d,z⟩:=h.tk;⟨d,s _ _ z⟩
 mg:=s _ _ h.mg
 mt:=s _ _ h.mt
 kept:=h.kept.kp (Kp.of (ps:=[]) s) (by simp) (by simp)
 book:=h.book.kp (Kp.of (ps:=[]) s) (by simp) (by simp)
 pa:=s _ _ h.pa
 tr:=h.tr.kpa (KpA.of s) λo z=>s _ _ z
 nd:=h.nd
 om:=h.om
 fo:=by
  have e:∀j,j<8->H' (A.o j)=H (A.o j):=λj hj=>by
   obtain⟨o,z⟩:=h.has j hj;rw[z];exact s _ _ z
  exact h.fo.keep (λx o z _=>⟨o,s _ _ z⟩) (e 5 ↑3) (e 6 ↑3) (e 0 ↑3)
theorem LH.nfo(h:LH cl H A n c os bk gs ts ps G T tl lt){t:Addr}(ht:H t=none):¬ A.fo t:=λz=>by
 obtain⟨⟨o,e⟩,_⟩:=h.fo t z;rw[ht] at e;cases e
theorem LH.off(h:LH cl H A n c os bk gs ts ps G T tl lt){t:Addr}(ht:H t=none):∀j,j<8->t≠A.o j:=λj hj z=>by
 obtain⟨o,e⟩:=h.has j hj;rw[<- z,ht] at e;cases e
theorem e1g:∀x∈[A.bd,A.l],(∃j,j<8/\x=A.o j):=λx hx=>by
 simp only[List.mem_cons,List.not_mem_nil,or_false] at hx;rcases hx with rfl|rfl
 ·exact⟨0,by lia,rfl⟩
 ·exact⟨1,by lia,rfl⟩
theorem LH.board{c':Pr.Cells}{many:Int}{last:V}{lt':Lt}(h:LH cl H A n c os bk gs ts ps G T tl lt)(k:Kp [A.bd,A.l] H H')(hB:Brd cl H' A.bd A.l n (c0d n c') many last)(hL:LastOk A H' lt' many last)(hf:∀x,A.fo x->last≠.ref x):LH cl H' A n c' os bk gs ts ps G T tl lt':=by
 have ne:∀i,2<=i->i<8->A.o i ∉ [A.bd,A.l]:=λi h2 h8=>by
  simp only[List.mem_cons,List.not_mem_nil,or_false,not_or];exact⟨h.nd i 0 h8 ↑3 ↑3,h.nd i 1 h8 ↑3 ↑3⟩
 have hS:∀x∈[A.bd,A.l],(∃j,j<8/\x=A.o j):=λx hx=>by
  simp only[List.mem_cons,List.not_mem_nil,or_false] at hx;rcases hx with rfl|rfl
  ·exact⟨0,by lia,rfl⟩
  ·exact⟨1,by lia,rfl⟩
 have nm:A.mg ∉ [A.bd,A.l]/\A.mt ∉ [A.bd,A.l]:=by
  simp only[List.mem_cons,List.not_mem_nil,or_false,not_or];exact⟨⟨(h.om 0 ↑3).1,(h.om 1 ↑3).1⟩,⟨(h.om 0 ↑3).2,(h.om 1 ↑3).2⟩⟩
 refine⟨⟨_,_,hB,hL⟩,(let ⟨d,z⟩:=h.gv;⟨d,k _ _ z (ne 2 ↑3 ↑3)⟩),(let ⟨d,z⟩:=h.tk;⟨d,k _ _ z (ne 3 ↑3 ↑3)⟩),k _ _ h.mg nm.1,k _ _ h.mt nm.2,h.kept.kp k (ne 5 ↑3 ↑3) hS,h.book.kp k (ne 6 ↑3 ↑3) hS,k _ _ h.pa (ne 7 ↑3 ↑3),(h.tr.kpa (KpA.kp k hS) λo z=>k _ _ z (ne 4 ↑3 ↑3)),h.nd,h.om,λx hx=>?_⟩
 obtain⟨⟨o,a⟩,b,c1,d,e,f,g⟩:=h.fo x hx;obtain⟨o5,z5⟩:=h.has 5 ↑3;obtain⟨o6,z6⟩:=h.has 6 ↑3;have y5:H' A.kg=H A.kg:=(k _ _ z5 (ne 5 ↑3 ↑3)).trans z5.symm;have y6:H' A.kk=H A.kk:=(k _ _ z6 (ne 6 ↑3 ↑3)).trans z6.symm;refine⟨⟨o,k _ _ a ?_⟩,b,c1,d,(λxs z=>e xs (y5 ▸ z)),(λxs z=>f xs (y6 ▸ z)),λC dx fs z=>?_⟩
 ·simp only[List.mem_cons,List.not_mem_nil,or_false,not_or];exact⟨b 0 ↑3,b 1 ↑3⟩
 ·obtain⟨⟨dxb,eb⟩,_⟩:=hB
  rw[eb] at z;cases z;exact λz2=>hf x hx (Option.some.inj z2)
theorem LH.wrote{k:Nat}{x:Int}{many:Int}{t:Addr}(h:LH cl H A n c os bk gs ts ps G T tl lt)(hk:k<4*n+4)(ht:H t=none)(kp:Kp [A.bd,A.l] H H')(et:H' t=some (.tup [.str "write",.int (k:Int),.int x]))(hB:Brd cl H' A.bd A.l n ((c0d n c).set k x) (many+1) (.ref t))(hm:many=lt.m):
  LH cl H' A n (Pr.put c k x) os bk gs ts ps G T tl (lt.wr k x)/\KpA A H H':=by
 rw[d7r c x hk] at hB;exact⟨h.board kp hB ⟨by rw[hm];rfl,(λz=>(nomatch z)),(λq z=>by cases z;exact⟨t,rfl,h.off ht,et⟩)⟩ (λx hx z=>h.nfo ht (V.ref.inj z ▸ hx)),KpA.kp kp e1g⟩
theorem LH.wasRead{ki:Int}{many:Int}{t:Addr}(h:LH cl H A n c os bk gs ts ps G T tl lt)(ht:H t=none)(kp:Kp [A.bd] H H')(et:H' t=some (.tup [.str "read",.int ki,.int ((c0d n c).getD ki.toNat 0)]))(hB:Brd cl H' A.bd A.l n (c0d n c) (many+1) (.ref t))(hm:many=lt.m)(k:Nat)(hk:k<4*n+4)(ek:ki=(k:Int)):
  LH cl H' A n c os bk gs ts ps G T tl (lt.rd k (c k))/\KpA A H H':=by
 subst ek;rw[Int.toNat_natCast,a0n c hk] at et;have kp':Kp [A.bd,A.l] H H':=kp.mono (by simp)
 exact⟨h.board kp' hB ⟨by rw[hm];rfl,(λz=>(nomatch z)),(λq z=>by cases z;exact⟨t,rfl,h.off ht,et⟩)⟩ (λx hx z=>h.nfo ht (V.ref.inj z ▸ hx)),KpA.kp kp' e1g⟩
theorem RwsX.set{a x:Addr}{o:HO}{j:Nat}(h:RwsX A H a os)(hj:j<8)(hx:x=A.o j)(ne:a≠x):RwsX A (upd H x o) a os :=
 h.kp (S:=[x]) (Kp.upd (by simp)) (by simpa using ne) λy hy=>⟨j,hj,by rw[List.mem_singleton.mp hy];exact hx⟩
theorem LH.setG{G':Gm}{dx:Addr}(h:LH cl H A n c os bk gs ts ps G T tl lt):LH cl (upd H A.gv (gvO cl dx A G')) A n c os bk gs ts ps G' T tl lt:=by
 have ne:∀i,i<8->i≠2->A.o i≠A.gv:=λi h8 h2=>h.nd i 2 h8 ↑3 h2;obtain⟨m,l,hB,hL⟩:=h.brd;refine⟨⟨m,l,hB.keep (ps:=[A.gv]) (Kp.upd (by simp)) (by simpa using ne 0 ↑3 ↑3) (by simpa using ne 1 ↑3 ↑3),hL.kpa (KpA.upd (j:=2) ↑3)⟩,⟨dx,d7⟩,?_,?_,?_,h.kept.set (j:=2) ↑3 rfl (ne 5 ↑3 ↑3),h.book.set (j:=2) ↑3 rfl (ne 6 ↑3 ↑3),?_,?_,h.nd,h.om,h.fo.updO h.nd 2 ↑3 ↑3 ↑3 ↑3⟩
 ·obtain⟨d,z⟩:=h.tk;exact⟨d,by rw[c7 (ne 3 ↑3 ↑3)];exact z⟩
 ·rw[c7 (h.om 2 ↑3).1];exact h.mg
 ·rw[c7 (h.om 2 ↑3).2];exact h.mt
 ·rw[c7 (ne 7 ↑3 ↑3)];exact h.pa
 ·exact h.tr.kpa (KpA.upd (j:=2) ↑3) λo z=>by rw[c7 (ne 4 ↑3 ↑3)];exact z
theorem LH.setT{T':Tm}{dx:Addr}(h:LH cl H A n c os bk gs ts ps G T tl lt):LH cl (upd H A.tk (tkO cl dx A T')) A n c os bk gs ts ps G T' tl lt:=by
 have ne:∀i,i<8->i≠3->A.o i≠A.tk:=λi h8 h2=>h.nd i 3 h8 ↑3 h2;obtain⟨m,l,hB,hL⟩:=h.brd;refine⟨⟨m,l,hB.keep (ps:=[A.tk]) (Kp.upd (by simp)) (by simpa using ne 0 ↑3 ↑3) (by simpa using ne 1 ↑3 ↑3),hL.kpa (KpA.upd (j:=3) ↑3)⟩,?_,⟨dx,d7⟩,?_,?_,h.kept.set (j:=3) ↑3 rfl (ne 5 ↑3 ↑3),h.book.set (j:=3) ↑3 rfl (ne 6 ↑3 ↑3),?_,?_,h.nd,h.om,h.fo.updO h.nd 3 ↑3 ↑3 ↑3 ↑3⟩
 ·obtain⟨d,z⟩:=h.gv;exact⟨d,by rw[c7 (ne 2 ↑3 ↑3)];exact z⟩
 ·rw[c7 (h.om 3 ↑3).1];exact h.mg
 ·rw[c7 (h.om 3 ↑3).2];exact h.mt
 ·rw[c7 (ne 7 ↑3 ↑3)];exact h.pa
 ·exact h.tr.kpa (KpA.upd (j:=3) ↑3) λo z=>by rw[c7 (ne 4 ↑3 ↑3)];exact z
end
def HOf(A:Ad)(b:Bool)(h:Addr):Prop:=(b=true/\h=A.gv)\/(b=false/\h=A.tk)
def b7m(b:Bool):Nat:=if b then 0 else 1
def a2m(b:Bool):Nat:=if b then 2 else 3
def b4w(b:Bool):Nat:=if b then 3 else 2
theorem a9x{n:Nat}{x:Str}{H:Hp}{E:XK}{k:Prop}(n2:2<=n)(n8:n<=8)(hx:x="giver"\/x="taker")(h:k):c9w cl n x H E k:=by
 unfold c9w;rw[if_pos ↑3,if_pos hx];exact h
theorem hI0:c7h "giver" = 0:=by decide
theorem hI1:c7h "taker" = 1:=by decide
def a4s(cl:Cl):Sp:=λvs H Q _=>ExL λA n c os bk gs ts ps Gq Tq tl lt=>∃(b:Bool)(h:Addr)(x:Int),vs=[.ref h,.int x]/\HOf A b h/\LH cl H A n c os bk gs ts ps Gq Tq tl lt/\∀H',LH cl H' A n (Pr.put c (4*n+b7m b) x) os bk gs ts ps Gq Tq tl (lt.wr (4*n+b7m b) x)->KpA A H H'->Q .non H'
abbrev a8u:Stmt:=top 56
theorem c1s:g7 ["hand","number"] ["hand","number"] (d8 a8u):=↑1
variable(P w K mg qb cl)in
abbrev qag:=MethT P w K mg qb cl.Board "write" 2 ["self","cell","number"] (v9 cl)
theorem c3d(D:DefT K mg "write_card" a8u ["hand","number"])(T:Txt K mg cl)(G_Board_write:qag P w K mg qb cl)(G_card_cell:qae P w K mg qb cl):FnT P w K mg qb "write_card" 3 ["hand","number"] (a4s cl):=by
 refine D.fn c1s ↑5 ↑2
 ·fail "l"
 ·obtain⟨A,n,c,os,bk,gs,ts,ps,Gq,Tq,tl,lt,b,h,x,rfl,ho,hL,k⟩:=h
  refine⟨_,(d9 (j9 (a1f ↑4 T.k_Board G_Board_write hr ↑6 i4 (a7 (k7 G_card_cell hr ↑6 rfl i4 (a7 (a0c (K:=K) ↑4) (a7 ↑4 d6))) (a7 (pv 1) d6))))),?_⟩;obtain⟨dxg,eg⟩:=hL.gv;obtain⟨dxt,et⟩:=hL.tk;fail "c";rcases ho with ⟨rfl,rfl⟩|⟨rfl,rfl⟩
  all_goals
   ext;refine⟨n,_,rfl,a9x n2 n8 (by first|exact .inl rfl|exact .inr rfl) ?_⟩
   ext
   first|rw[hI0] | rw[hI1]
   refine⟨A.bd,A.l,n,_,many,last,_,_,rfl,hB,?_⟩;rw[if_pos ⟨by lia,by rw[hlen];lia⟩]
   intro t H' ht kp ett hB'
  ·rw[show(4*(n:Int)+0).toNat=4*n+b7m true by show _=4*n+0;lia] at hB'
   obtain⟨z1,z2⟩:=hL.wrote (k:=4*n+b7m true) (by show 4*n+0<_;lia) ht kp (by rw[ett];show _=some (HO.tup [_,.int ((4*n+0:Nat):Int),_]);congr) hB' hLast.1
   exact k H' z1 z2
  ·rw[show(4*(n:Int)+1).toNat=4*n+b7m false by show _=4*n+1;lia] at hB'
   obtain⟨z1,z2⟩:=hL.wrote (k:=4*n+b7m false) (by show 4*n+1<_;lia) ht kp (by rw[ett];show _=some (HO.tup [_,.int ((4*n+1:Nat):Int),_]);congr) hB' hLast.1
   exact k H' z1 z2
def a7h(cl:Cl):Sp:=λvs H Q _=>ExL λA n c os bk gs ts ps Gq Tq tl lt=>∃(b:Bool)(h:Addr),vs=[.ref h]/\HOf A b h/\LH cl H A n c os bk gs ts ps Gq Tq tl lt/\∀H',LH cl H' A n (Pr.put c (4*n+b4w b) 1) os bk gs ts ps Gq Tq tl (lt.wr (4*n+b4w b) 1)->KpA A H H'->Q .non H'
abbrev a8y:Stmt:=top 57
theorem c1w:g7 ["hand"] ["hand"] (d8 a8y):=↑1
variable(P w K mg qb cl)in
abbrev qah:=FnT P w K mg qb "bell_cell" 3 ["size","hand"] (a2i cl)
theorem c3h(D:DefT K mg "ring_other" a8y ["hand"])(T:Txt K mg cl)(G_Board_write:qag P w K mg qb cl)(G_bell_cell:qah P w K mg qb cl):FnT P w K mg qb "ring_other" 4 ["hand"] (a7h cl):=by
 refine D.fn c1w ↑5 ↑2
 ·fail "l"
 ·obtain⟨A,n,c,os,bk,gs,ts,ps,Gq,Tq,tl,lt,b,h,rfl,ho,hL,k⟩:=h
  refine⟨_,(d9 (j9 (a1f ↑4 T.k_Board G_Board_write hr ↑6 i4 (a7 (k7 G_bell_cell hr ↑6 rfl i4 (a7 (a0c (K:=K) ↑4) (a7 ↑4 d6))) (a7 (v5 T.m_RUNG rfl) d6))))),?_⟩;obtain⟨dxg,eg⟩:=hL.gv;obtain⟨dxt,et⟩:=hL.tk;fail "c";rcases ho with ⟨rfl,rfl⟩|⟨rfl,rfl⟩
  all_goals
   ext;refine⟨n,_,rfl,a9x n2 n8 (by first|exact .inl rfl|exact .inr rfl) ?_⟩
   ext
   first|rw[hI0] | rw[hI1]
   refine⟨A.bd,A.l,n,_,many,last,_,_,rfl,hB,?_⟩;rw[if_pos ⟨by lia,by rw[hlen];lia⟩]
   intro t H' ht kp ett hB'
  ·rw[show(4*(n:Int)+1+2).toNat=4*n+b4w true by show _=4*n+3;lia] at hB'
   obtain⟨z1,z2⟩:=hL.wrote (k:=4*n+b4w true) (by show 4*n+3<_;lia) ht kp (by rw[ett];show _=some (HO.tup [_,.int ((4*n+3:Nat):Int),_]);congr) hB' hLast.1
   exact k H' z1 z2
  ·rw[show(4*(n:Int)+0+2).toNat=4*n+b4w false by show _=4*n+2;lia] at hB'
   obtain⟨z1,z2⟩:=hL.wrote (k:=4*n+b4w false) (by show 4*n+2<_;lia) ht kp (by rw[ett];show _=some (HO.tup [_,.int ((4*n+2:Nat):Int),_]);congr) hB' hLast.1
   exact k H' z1 z2
def a7g(cl:Cl):Sp:=λvs H Q _=>ExL λA n c os bk gs ts ps Gq Tq tl lt=>∃(b:Bool)(h:Addr),vs=[.ref h]/\HOf A b h/\LH cl H A n c os bk gs ts ps Gq Tq tl lt/\∀H',LH cl H' A n (Pr.put c (4*n+a2m b) 0) os bk gs ts ps Gq Tq tl (lt.wr (4*n+a2m b) 0)->KpA A H H'->Q .non H'
abbrev a8x:Stmt:=top 58
theorem c1v:g7 ["hand"] ["hand"] (d8 a8x):=↑1
theorem c3g(D:DefT K mg "still_bell" a8x ["hand"])(T:Txt K mg cl)(G_Board_write:qag P w K mg qb cl)(G_bell_cell:qah P w K mg qb cl):FnT P w K mg qb "still_bell" 4 ["hand"] (a7g cl):=by
 refine D.fn c1v ↑5 ↑2
 ·fail "l"
 ·obtain⟨A,n,c,os,bk,gs,ts,ps,Gq,Tq,tl,lt,b,h,rfl,ho,hL,k⟩:=h
  refine⟨_,(d9 (j9 (a1f ↑4 T.k_Board G_Board_write hr ↑6 i4 (a7 (k7 G_bell_cell hr ↑6 rfl i4 (a7 (a0c (K:=K) ↑4) (a7 ↑4 d6))) (a7 (v5 T.m_STILL rfl) d6))))),?_⟩;obtain⟨dxg,eg⟩:=hL.gv;obtain⟨dxt,et⟩:=hL.tk;fail "c";rcases ho with ⟨rfl,rfl⟩|⟨rfl,rfl⟩
  all_goals
   ext;refine⟨n,_,rfl,a9x n2 n8 (by first|exact .inl rfl|exact .inr rfl) ?_⟩
   ext
   first|rw[hI0] | rw[hI1]
   refine⟨A.bd,A.l,n,_,many,last,_,_,rfl,hB,?_⟩;rw[if_pos ⟨by lia,by rw[hlen];lia⟩]
   intro t H' ht kp ett hB'
  ·rw[show(4*(n:Int)+0+2).toNat=4*n+a2m true by show _=4*n+2;lia] at hB'
   obtain⟨z1,z2⟩:=hL.wrote (k:=4*n+a2m true) (by show 4*n+2<_;lia) ht kp (by rw[ett];show _=some (HO.tup [_,.int ((4*n+2:Nat):Int),_]);congr) hB' hLast.1
   exact k H' z1 z2
  ·rw[show(4*(n:Int)+1+2).toNat=4*n+a2m false by show _=4*n+3;lia] at hB'
   obtain⟨z1,z2⟩:=hL.wrote (k:=4*n+a2m false) (by show 4*n+3<_;lia) ht kp (by rw[ett];show _=some (HO.tup [_,.int ((4*n+3:Nat):Int),_]);congr) hB' hLast.1
   exact k H' z1 z2
def a7k(cl:Cl):Sp:=λvs H Q _=>ExL λA n c os bk gs ts ps Gq Tq tl lt=>∃(b:Bool)(h:Addr),vs=[.ref h]/\HOf A b h/\LH cl H A n c os bk gs ts ps Gq Tq tl lt/\∀H',LH cl H' A n (Pr.put c (4*n+b4w b) 1) os bk gs ts ps Gq Tq tl (lt.wr (4*n+b4w b) 1)->KpA A H H'->Q (.str "clear") H'
abbrev b5r:Stmt:=top 60
theorem c8g:g7 ["hand"] ["hand"] (d8 b5r):=↑1
theorem c9c(D:DefT K mg "at_rouse" b5r ["hand"])(T:Txt K mg cl)(G_ring_other:FnT P w K mg qb "ring_other" 4 ["hand"] (a7h cl)):FnT P w K mg qb "at_rouse" 5 ["hand"] (a7k cl):=by
 refine D.fn c8g ↑5 ↑2
 ·fail "l"
 ·obtain⟨A,n,c,os,bk,gs,ts,ps,Gq,Tq,tl,lt,b,h,rfl,ho,hL,k⟩:=h
  refine⟨_,(d5 (j9 (k7 G_ring_other hr ↑6 rfl i4 (a7 (pv 0) d6)))
   (d9 (j1 k0))),?_⟩
  ext;refine⟨A,n,c,os,bk,gs,ts,ps,Gq,Tq,tl,lt,b,h,rfl,ho,hL,λH1 z1 z2=>?_⟩;ext;exact k H1 z1 z2
def a7m(cl:Cl):Sp:=λvs H Q _=>ExL λA n c os bk gs ts ps Gq Tq tl lt=>∃(b:Bool)(h:Addr),vs=[.ref h]/\HOf A b h/\LH cl H A n c os bk gs ts ps Gq Tq tl lt/\∀H',LH cl H' A n (Pr.put c (4*n+b7m b) (-1)) os bk gs ts ps Gq Tq tl (lt.wr (4*n+b7m b) (-1))->KpA A H H'->Q (.str "mute") H'
abbrev b5u:Stmt:=top 61
theorem c8i:g7 ["hand"] ["hand"] (d8 b5u):=↑1
variable(P w K mg qb cl)in
abbrev qai:=FnT P w K mg qb "write_card" 3 ["hand","number"] (a4s cl)
theorem c9f(D:DefT K mg "at_clear" b5u ["hand"])(T:Txt K mg cl)(G_write_card:qai P w K mg qb cl):FnT P w K mg qb "at_clear" 4 ["hand"] (a7m cl):=by
 refine D.fn c8i ↑5 ↑2
 ·fail "l"
 ·obtain⟨A,n,c,os,bk,gs,ts,ps,Gq,Tq,tl,lt,b,h,rfl,ho,hL,k⟩:=h
  refine⟨_,(d5 (j9 (k7 G_write_card hr ↑6 rfl i4 (a7 (pv 0) (a7 (v5 T.m_NO_TURN rfl) d6))))
   (d9 (j1 k0))),?_⟩
  ext;refine⟨A,n,c,os,bk,gs,ts,ps,Gq,Tq,tl,lt,b,h,_,rfl,ho,hL,λH1 z1 z2=>?_⟩;ext;exact k H1 z1 z2
def b0e(cl:Cl):Sp:=λvs H Q _=>ExL λA n c os bk gs ts ps Gq Tq tl lt=>∃(b:Bool)(h:Addr),vs=[.ref h]/\HOf A b h/\LH cl H A n c os bk gs ts ps Gq Tq tl lt/\∀H',LH cl H' A n (Pr.put c (4*n+a2m b) 0) os bk gs ts ps Gq Tq tl (lt.wr (4*n+a2m b) 0)->KpA A H H'->Q (.str "marks") H'
abbrev b8q:Stmt:=top 62
theorem d2a:g7 ["hand"] ["hand"] (d8 b8q):=↑1
theorem d2o(D:DefT K mg "at_mute" b8q ["hand"])(T:Txt K mg cl)(G_still_bell:FnT P w K mg qb "still_bell" 4 ["hand"] (a7g cl)):FnT P w K mg qb "at_mute" 5 ["hand"] (b0e cl):=by
 refine D.fn d2a ↑5 ↑2
 ·fail "l"
 ·obtain⟨A,n,c,os,bk,gs,ts,ps,Gq,Tq,tl,lt,b,h,rfl,ho,hL,k⟩:=h
  refine⟨_,(d5 (j9 (k7 G_still_bell hr ↑6 rfl i4 (a7 (pv 0) d6)))
   (d9 (j1 k0))),?_⟩
  ext;refine⟨A,n,c,os,bk,gs,ts,ps,Gq,Tq,tl,lt,b,h,rfl,ho,hL,λH1 z1 z2=>?_⟩;ext;exact k H1 z1 z2
def b0g(cl:Cl):Sp:=λvs H Q _=>ExL λA n c os bk gs ts ps Gq Tq tl lt=>∃(b:Bool)(h:Addr),vs=[.ref h]/\HOf A b h/\LH cl H A n c os bk gs ts ps Gq Tq tl lt/\∀H',LH cl H' A n (Pr.put c (4*n+a2m b) 0) os bk gs ts ps Gq Tq tl (lt.wr (4*n+a2m b) 0)->KpA A H H'->Q (.str "unwish") H'
abbrev b8t:Stmt:=top 68
theorem d2d:g7 ["hand"] ["hand"] (d8 b8t):=↑1
theorem d2r(D:DefT K mg "at_hush" b8t ["hand"])(T:Txt K mg cl)(G_still_bell:FnT P w K mg qb "still_bell" 4 ["hand"] (a7g cl)):FnT P w K mg qb "at_hush" 5 ["hand"] (b0g cl):=by
 refine D.fn d2d ↑5 ↑2
 ·fail "l"
 ·obtain⟨A,n,c,os,bk,gs,ts,ps,Gq,Tq,tl,lt,b,h,rfl,ho,hL,k⟩:=h
  refine⟨_,(d5 (j9 (k7 G_still_bell hr ↑6 rfl i4 (a7 (pv 0) d6)))
   (d9 (j1 k0))),?_⟩
  ext;refine⟨A,n,c,os,bk,gs,ts,ps,Gq,Tq,tl,lt,b,h,rfl,ho,hL,λH1 z1 z2=>?_⟩;ext;exact k H1 z1 z2
def a5s(cl:Cl):Sp:=λvs H Q _=>ExL λA n c os bk gs ts ps Gq Tq tl lt=>∃(b:Bool)(h:Addr),vs=[.ref h]/\HOf A b h/\LH cl H A n c os bk gs ts ps Gq Tq tl lt/\∀H',LH cl H' A n (Pr.put c (4*n+b7m b) (-1)) os bk gs ts ps Gq Tq tl (lt.wr (4*n+b7m b) (-1))->KpA A H H'->Q (.str "look") H'
abbrev b2j:Stmt:=top 69
theorem c5m:g7 ["hand"] ["hand"] (d8 b2j):=↑1
theorem c6r(D:DefT K mg "at_unwish" b2j ["hand"])(T:Txt K mg cl)(G_write_card:qai P w K mg qb cl):FnT P w K mg qb "at_unwish" 4 ["hand"] (a5s cl):=by
 refine D.fn c5m ↑5 ↑2
 ·fail "l"
 ·obtain⟨A,n,c,os,bk,gs,ts,ps,Gq,Tq,tl,lt,b,h,rfl,ho,hL,k⟩:=h
  refine⟨_,(d5 (j9 (k7 G_write_card hr ↑6 rfl i4 (a7 (pv 0) (a7 (v5 T.m_NO_TURN rfl) d6))))
   (d9 (j1 k0))),?_⟩
  ext;refine⟨A,n,c,os,bk,gs,ts,ps,Gq,Tq,tl,lt,b,h,_,rfl,ho,hL,λH1 z1 z2=>?_⟩;ext;exact k H1 z1 z2
def a7j(cl:Cl):Sp:=λvs H Q _=>ExL λA n c os bk gs ts ps Gq Tq tl lt=>∃(b:Bool)(h:Addr),vs=[.ref h]/\HOf A b h/\LH cl H A n c os bk gs ts ps Gq Tq tl lt/\∀H',LH cl H' A n c os bk gs ts ps Gq Tq tl (lt.rd (4*n+a2m b) (c (4*n+a2m b)))->KpA A H H'->Q (.str (if c (4*n+a2m b)=0 then "sleep" else "hush")) H'
abbrev b5q:Stmt:=top 67
theorem b8f:g7 ["hand","bell"] ["hand"] (d8 b5q):=↑1
variable(P w K mg qb cl)in
abbrev qaj:=MethT P w K mg qb cl.Board "read" 2 ["self","cell"] (x0 cl)
theorem c9b(D:DefT K mg "at_sleep" b5q ["hand"])(T:Txt K mg cl)(G_Board_read:qaj P w K mg qb cl)(G_bell_cell:qah P w K mg qb cl):FnT P w K mg qb "at_sleep" 4 ["hand"] (a7j cl):=by
 refine D.fn b8f ↑5 ↑2
 ·fail "l"
 ·obtain⟨A,n,c,os,bk,gs,ts,ps,Gq,Tq,tl,lt,b,h,rfl,ho,hL,k⟩:=h
  refine⟨_,(d5 (n6 (i:=1) b8f.nd rfl (.inl rfl) (a1f ↑4 T.k_Board G_Board_read hr ↑6 i4 (a7 (k7 G_bell_cell hr ↑6 rfl i4 (a7 (a0c (K:=K) ↑4) (a7 ↑4 d6))) d6)))
   (d9 (j1 (a6b (k8 a8a (pv 1) (v5 T.m_STILL rfl) (n9 _)) k0 k0)))),?_⟩
  obtain⟨dxg,eg⟩:=hL.gv;obtain⟨dxt,et⟩:=hL.tk;fail "c";rcases ho with ⟨rfl,rfl⟩|⟨rfl,rfl⟩
  all_goals
   ext;refine⟨n,_,rfl,a9x n2 n8 (by first|exact .inl rfl|exact .inr rfl) ?_⟩
   ext
   first|rw[hI0] | rw[hI1]
   refine⟨A.bd,A.l,n,_,many,last,_,rfl,hB,?_⟩;rw[if_pos ⟨by lia,by rw[hlen];lia⟩]
   intro t H' ht kp ett hB';have q:=k H' (by first|exact(hL.wasRead ht kp ett hB' hLast.1 (4*n+a2m true) (by show 4*n+2<_;lia) (by show _=((4*n+2:Nat):Int);lia)).1|exact(hL.wasRead ht kp ett hB' hLast.1 (4*n+a2m false) (by show 4*n+3<_;lia) (by show _=((4*n+3:Nat):Int);lia)).1) (KpA.kp (kp.mono (by simp)) e1g)
   ext
  ·rw[show(4*(n:Int)+0+2).toNat=4*n+a2m true by show _=4*n+2;lia,a0n c (by show 4*n+2<_;lia)]
   refine a3b (λa=>?_) (λa=>?_)
   ·rw[if_pos (V.int.inj a)] at q;ext;exact q
   ·rw[if_neg λy=>a (by rw[y])] at q;ext;exact q
  ·rw[show(4*(n:Int)+1+2).toNat=4*n+a2m false by show _=4*n+3;lia,a0n c (by show 4*n+3<_;lia)]
   refine a3b (λa=>?_) (λa=>?_)
   ·rw[if_pos (V.int.inj a)] at q;ext;exact q
   ·rw[if_neg λy=>a (by rw[y])] at q;ext;exact q
def b9q(b:Bool)(Gq:Gm)(Tq:Tm):Hr:=if b then Gq.he else Tq.he
def a3x(b:Bool)(n t:Int):Int:=if b then 2*(1-t / n)+0 else 2*(t / n)+1
def v7(cl:Cl):Sp:=λvs H Q _=>ExL λA n c os bk gs ts ps Gq Tq tl lt=>∃(b:Bool)(h:Addr)(t:Int),vs=[.ref h]/\HOf A b h/\LH cl H A n c os bk gs ts ps Gq Tq tl lt/\b9q b Gq Tq=.int t/\0<=t/\t<2*(n:Int)/\Q (.int (t % (n:Int))) H
abbrev a5z:Stmt:=m9 (top 73) 3
theorem c2i:g7 ["self"] ["self"] (d8 a5z):=↑1
variable(P w K mg qb cl)in
abbrev qak:=FnT P w K mg qb "place_of" 3 ["size","turn"] (a7i cl)
theorem b4q{C:Addr}(D:DefM K C "place" "Hand.place" a5z ["self"])(T:Txt K mg cl)(G_place_of:qak P w K mg qb cl):MethT P w K mg qb C "place" 4 ["self"] (v7 cl):=by
 refine D.fn c2i ↑5 ↑2
 ·fail "l"
 ·obtain⟨A,n,c,os,bk,gs,ts,ps,Gq,Tq,tl,lt,b,h,t,rfl,ho,hL,he,t0,t1,k⟩:=h
  refine⟨_,(d9 (j1 (k7 G_place_of hr ↑6 rfl i4 (a7 (a0c (K:=K) ↑4) (a7 ↑4 d6))))),?_⟩;obtain⟨dxg,eg⟩:=hL.gv;obtain⟨dxt,et⟩:=hL.tk;fail "c";rcases ho with ⟨rfl,rfl⟩|⟨rfl,rfl⟩
  ·have he:Gq.he=.int t:=he
   ext;rw[he];exact⟨n,t,rfl,a0j ↑3 ↑3 t0 t1 k⟩
  ·have he:Tq.he=.int t:=he
   ext;rw[he];exact⟨n,t,rfl,a0j ↑3 ↑3 t0 t1 k⟩
def a3z(cl:Cl):Sp:=λvs H Q _=>ExL λA n c os bk gs ts ps Gq Tq tl lt=>∃(b:Bool)(h:Addr)(t:Int),vs=[.ref h]/\HOf A b h/\LH cl H A n c os bk gs ts ps Gq Tq tl lt/\b9q b Gq Tq=.int t/\0<=t/\t<2*(n:Int)/\b=true/\Q (.int (a3x true n t)) H
abbrev a1s:Stmt:=m9 (top 89) 13
theorem a8t:g7 ["self"] ["self"] (d8 a1s):=↑1
theorem a9w(D:DefM K cl.Giver "awaited_mark" "Giver.awaited_mark" a1s ["self"])(T:Txt K mg cl)(G_mark_to_give:FnT P w K mg qb "mark_to_give" 4 ["size","turn"] (a8l cl)):MethT P w K mg qb cl.Giver "awaited_mark" 5 ["self"] (a3z cl):=by
 refine D.fn a8t ↑5 ↑2
 ·fail "l"
 ·obtain⟨A,n,c,os,bk,gs,ts,ps,Gq,Tq,tl,lt,b,h,t,rfl,ho,hL,he,t0,t1,rfl,k⟩:=h
  refine⟨_,(d9 (j1 (k7 G_mark_to_give hr ↑6 rfl i4 (a7 (a0c (K:=K) ↑4) (a7 ↑4 d6))))),?_⟩;obtain⟨dxg,eg⟩:=hL.gv;obtain⟨dxt,et⟩:=hL.tk;fail "c";rcases ho with ⟨hb,rfl⟩|⟨hb,rfl⟩
  all_goals cases hb
  have he:Gq.he=.int t:=he;ext;rw[he];exact⟨n,t,rfl,a0j ↑3 ↑3 t0 t1 k⟩
def a3y(cl:Cl):Sp:=λvs H Q _=>ExL λA n c os bk gs ts ps Gq Tq tl lt=>∃(b:Bool)(h:Addr)(t:Int),vs=[.ref h]/\HOf A b h/\LH cl H A n c os bk gs ts ps Gq Tq tl lt/\b9q b Gq Tq=.int t/\0<=t/\t<2*(n:Int)/\b=false/\Q (.int (a3x false n t)) H
abbrev a1p:Stmt:=m9 (top 99) 7
theorem a8p:g7 ["self"] ["self"] (d8 a1p):=↑1
theorem a9t(D:DefM K cl.Taker "awaited_mark" "Taker.awaited_mark" a1p ["self"])(T:Txt K mg cl)(G_full_mark:FnT P w K mg qb "full_mark" 4 ["size","turn"] (a8n cl)):MethT P w K mg qb cl.Taker "awaited_mark" 5 ["self"] (a3y cl):=by
 refine D.fn a8p ↑5 ↑2
 ·fail "l"
 ·obtain⟨A,n,c,os,bk,gs,ts,ps,Gq,Tq,tl,lt,b,h,t,rfl,ho,hL,he,t0,t1,rfl,k⟩:=h
  refine⟨_,(d9 (j1 (k7 G_full_mark hr ↑6 rfl i4 (a7 (a0c (K:=K) ↑4) (a7 ↑4 d6))))),?_⟩;obtain⟨dxg,eg⟩:=hL.gv;obtain⟨dxt,et⟩:=hL.tk;fail "c";rcases ho with ⟨hb,rfl⟩|⟨hb,rfl⟩
  all_goals cases hb
  have he:Tq.he=.int t:=he;ext;rw[he];exact⟨n,t,rfl,a0j ↑3 ↑3 t0 t1 k⟩
def a8k(cl:Cl):Sp:=λvs H Q _=>ExL λA n c os bk gs ts ps Gq Tq tl lt=>∃(b:Bool)(h:Addr)(t:Int),vs=[.ref h]/\HOf A b h/\LH cl H A n c os bk gs ts ps Gq Tq tl lt/\b9q b Gq Tq=.int t/\0<=t/\t<2*(n:Int)/\∀H',LH cl H' A n c os bk gs ts ps Gq Tq tl (lt.rd (4*(t % (n:Int)).toNat) (c (4*(t % (n:Int)).toNat)))->KpA A H H'->Q (.bl (decide (c (4*(t % (n:Int)).toNat)=a3x b n t))) H'
abbrev b1w:Stmt:=top 59
theorem c5c:g7 ["hand"] ["hand"] (d8 b1w):=↑1
variable(P w K mg qb)in
abbrev qal:=FnT P w K mg qb "mark_cell" 1 ["place"] (y9 0)
variable(P w K mg qb cl)in
abbrev qam:=MethT P w K mg qb cl.Giver "place" 4 ["self"] (v7 cl)
variable(P w K mg qb cl)in
abbrev qan:=MethT P w K mg qb cl.Taker "place" 4 ["self"] (v7 cl)
theorem c6f(D:DefT K mg "may_go_on" b1w ["hand"])(T:Txt K mg cl)(G_Board_read:qaj P w K mg qb cl)(G_mark_cell:qal P w K mg qb)(GP:qam P w K mg qb cl)(TP:qan P w K mg qb cl)(GA:MethT P w K mg qb cl.Giver "awaited_mark" 5 ["self"] (a3z cl))(TA:MethT P w K mg qb cl.Taker "awaited_mark" 5 ["self"] (a3y cl)):FnT P w K mg qb "may_go_on" 6 ["hand"] (a8k cl):=by
 refine D.fn c5c ↑5 ↑2
 ·fail "l"
 ·obtain⟨A,n,c,os,bk,gs,ts,ps,Gq,Tq,tl,lt,b,h,t,rfl,ho,hL,he,t0,t1,k⟩:=h
  refine⟨_,(d9 (j1 (a3t a8a (a1f ↑4 T.k_Board G_Board_read hr ↑6 i4 (a7 (k7 G_mark_cell hr ↑6 rfl i4 (a7 (l9 (k:=4) (pv 0) hr ↑6 i4) d6)) d6)) (l9 (k:=5) (pv 0) hr ↑6 i4) (n9 _)))),?_⟩;obtain⟨dxg,eg⟩:=hL.gv;obtain⟨dxt,et⟩:=hL.tk;fail "c";have p0:=Int.emod_nonneg t (show(n:Int)≠0 by lia)
  have p1:=Int.emod_lt_of_pos t (show(0:Int)<n by lia)
  have ho':=ho;rcases ho' with ⟨rfl,rfl⟩|⟨rfl,rfl⟩
  ·ext
   refine c4j ?_;ext;refine⟨A.gv,cl.Giver,dxg,_,_,_,rfl,eg,rfl,T.k_Giver,GP,?_⟩;ext;refine⟨A,n,c,os,bk,gs,ts,ps,Gq,Tq,tl,lt,true,A.gv,t,rfl,ho,hL,he,t0,t1,?_⟩;ext;fail "g";obtain⟨z1,z2⟩:=hL.wasRead ht kp ett hB' hLast.1 (4*(t % (n:Int)).toNat) ↑3 ↑3;obtain⟨dxg2,eg2⟩:=z1.gv;rw[show(4*(t % (n:Int))+0).toNat=4*(t % (n:Int)).toNat by lia,a0n c ↑3]
   fail "e";refine⟨A.gv,cl.Giver,dxg2,_,_,_,rfl,eg2,rfl,T.k_Giver,GA,?_⟩;ext;refine⟨A,n,c,os,bk,gs,ts,ps,Gq,Tq,tl,_,true,A.gv,t,rfl,ho,z1,he,t0,t1,rfl,?_⟩;ext;rw[show decide (V.int (c (4*(t % (n:Int)).toNat))=V.int (a3x true n t))=decide (c (4*(t % (n:Int)).toNat)=a3x true n t) by simp]
   exact k H' z1 z2
  ·ext
   refine c4j ?_;ext;refine⟨A.tk,cl.Taker,dxt,_,_,_,rfl,et,rfl,T.k_Taker,TP,?_⟩;ext;refine⟨A,n,c,os,bk,gs,ts,ps,Gq,Tq,tl,lt,false,A.tk,t,rfl,ho,hL,he,t0,t1,?_⟩;ext;fail "g";obtain⟨z1,z2⟩:=hL.wasRead ht kp ett hB' hLast.1 (4*(t % (n:Int)).toNat) ↑3 ↑3;obtain⟨dxt2,et2⟩:=z1.tk;rw[show(4*(t % (n:Int))+0).toNat=4*(t % (n:Int)).toNat by lia,a0n c ↑3]
   fail "e";refine⟨A.tk,cl.Taker,dxt2,_,_,_,rfl,et2,rfl,T.k_Taker,TA,?_⟩;ext;refine⟨A,n,c,os,bk,gs,ts,ps,Gq,Tq,tl,_,false,A.tk,t,rfl,ho,z1,he,t0,t1,rfl,?_⟩;ext;rw[show decide (V.int (c (4*(t % (n:Int)).toNat))=V.int (a3x false n t))=decide (c (4*(t % (n:Int)).toNat)=a3x false n t) by simp]
   exact k H' z1 z2
def b0f(cl:Cl):Sp:=λvs H Q _=>ExL λA n c os bk gs ts ps Gq Tq tl lt=>∃(b:Bool)(h:Addr)(t:Int),vs=[.ref h]/\HOf A b h/\LH cl H A n c os bk gs ts ps Gq Tq tl lt/\b9q b Gq Tq=.int t/\0<=t/\t<2*(n:Int)/\∀H',LH cl H' A n c os bk gs ts ps Gq Tq tl (lt.rd (4*(t % (n:Int)).toNat) (c (4*(t % (n:Int)).toNat)))->KpA A H H'->Q (.str (if c (4*(t % (n:Int)).toNat)=a3x b n t then "number" else "wish")) H'
abbrev b8s:Stmt:=top 64
theorem d2c:g7 ["hand"] ["hand"] (d8 b8s):=↑1
theorem d2q(D:DefT K mg "at_look" b8s ["hand"])(T:Txt K mg cl)(G_may_go_on:FnT P w K mg qb "may_go_on" 6 ["hand"] (a8k cl)):FnT P w K mg qb "at_look" 7 ["hand"] (b0f cl):=by
 refine D.fn d2c ↑5 ↑2
 ·fail "l"
 ·obtain⟨A,n,c,os,bk,gs,ts,ps,Gq,Tq,tl,lt,b,h,t,rfl,ho,hL,he,t0,t1,k⟩:=h
  refine⟨_,(d9 (j1 (a6b (a8c (k7 G_may_go_on hr ↑6 rfl i4 (a7 (pv 0) d6))) k0 k0))),?_⟩;ext;refine⟨A,n,c,os,bk,gs,ts,ps,Gq,Tq,tl,lt,b,h,t,rfl,ho,hL,he,t0,t1,λH' z1 z2=>?_⟩;have q:=k H' z1 z2;ext;refine a3b (λy=>?_) (λy=>?_)
  ·rw[if_pos y] at q;ext;exact q
  ·rw[if_neg y] at q;ext;exact q
def a7n(cl:Cl):Sp:=λvs H Q _=>ExL λA n c os bk gs ts ps Gq Tq tl lt=>∃(b:Bool)(h:Addr)(t:Int),vs=[.ref h]/\HOf A b h/\LH cl H A n c os bk gs ts ps Gq Tq tl lt/\b9q b Gq Tq=.int t/\0<=t/\t<2*(n:Int)/\∀H',LH cl H' A n c os bk gs ts ps Gq Tq tl (lt.rd (4*(t % (n:Int)).toNat) (c (4*(t % (n:Int)).toNat)))->KpA A H H'->Q (.str (if c (4*(t % (n:Int)).toNat)=a3x b n t then "unwish" else "sleep")) H'
abbrev b5v:Stmt:=top 66
theorem c8j:g7 ["hand"] ["hand"] (d8 b5v):=↑1
theorem c9g(D:DefT K mg "at_again" b5v ["hand"])(T:Txt K mg cl)(G_may_go_on:FnT P w K mg qb "may_go_on" 6 ["hand"] (a8k cl)):FnT P w K mg qb "at_again" 7 ["hand"] (a7n cl):=by
 refine D.fn c8j ↑5 ↑2
 ·fail "l"
 ·obtain⟨A,n,c,os,bk,gs,ts,ps,Gq,Tq,tl,lt,b,h,t,rfl,ho,hL,he,t0,t1,k⟩:=h
  refine⟨_,(d9 (j1 (a6b (a8c (k7 G_may_go_on hr ↑6 rfl i4 (a7 (pv 0) d6))) k0 k0))),?_⟩;ext;refine⟨A,n,c,os,bk,gs,ts,ps,Gq,Tq,tl,lt,b,h,t,rfl,ho,hL,he,t0,t1,λH' z1 z2=>?_⟩;have q:=k H' z1 z2;ext;refine a3b (λy=>?_) (λy=>?_)
  ·rw[if_pos y] at q;ext;exact q
  ·rw[if_neg y] at q;ext;exact q
def b0c(cl:Cl):Sp:=λvs H Q _=>ExL λA n c os bk gs ts ps Gq Tq tl lt=>∃(b:Bool)(h:Addr)(t:Int),vs=[.ref h]/\HOf A b h/\LH cl H A n c os bk gs ts ps Gq Tq tl lt/\b9q b Gq Tq=.int t/\0<=t/\t<2*(n:Int)/\∀H',LH cl H' A n (Pr.put c (4*n+b7m b) t) os bk gs ts ps Gq Tq tl (lt.wr (4*n+b7m b) t)->KpA A H H'->Q (.str "again") H'
abbrev b8n:Stmt:=top 65
theorem d1x:g7 ["hand"] ["hand"] (d8 b8n):=↑1
theorem d2l(D:DefT K mg "at_wish" b8n ["hand"])(T:Txt K mg cl)(G_write_card:qai P w K mg qb cl):FnT P w K mg qb "at_wish" 4 ["hand"] (b0c cl):=by
 refine D.fn d1x ↑5 ↑2
 ·fail "l"
 ·obtain⟨A,n,c,os,bk,gs,ts,ps,Gq,Tq,tl,lt,b,h,t,rfl,ho,hL,he,t0,t1,k⟩:=h
  refine⟨_,(d5 (j9 (k7 G_write_card hr ↑6 rfl i4 (a7 (pv 0) (a7 ↑4 d6))))
   (d9 (j1 k0))),?_⟩
  obtain⟨dxg,eg⟩:=hL.gv;obtain⟨dxt,et⟩:=hL.tk;fail "c";have ho':=ho;rcases ho' with ⟨rfl,rfl⟩|⟨rfl,rfl⟩
  ·have he:Gq.he=.int t:=he
   ext;rw[he];refine⟨A,n,c,os,bk,gs,ts,ps,Gq,Tq,tl,lt,true,A.gv,t,rfl,ho,hL,λH' z1 z2=>?_⟩;ext;exact k H' z1 z2
  ·have he:Tq.he=.int t:=he
   ext;rw[he];refine⟨A,n,c,os,bk,gs,ts,ps,Gq,Tq,tl,lt,false,A.tk,t,rfl,ho,hL,λH' z1 z2=>?_⟩;ext;exact k H' z1 z2
theorem MethT.lift{C:Addr}{m:Str}{j k:Nat}{qs:List Str}{sp:Sp}(M:MethT P w K mg qb C m j qs sp)(h:j<=k):MethT P w K mg qb C m k qs sp:=by
 obtain⟨f,fd,F,hm,hb⟩:=M.ex;exact⟨f,fd,F.mono h,hm,hb⟩
theorem RwsX.pick{A:Ad}{H:Hp}{a:Addr}{os:List (List Int)}(h:RwsX A H a os){i:Int}(h0:0<=i)(hi:i<os.length):∃xs p,H a=some (.lst xs)/\atI xs i=some (.ref p)/\H p=some (.lst ((os.getD i.toNat []).map V.int)):=by
 obtain⟨ps,e,l,r⟩:=h;have hp:i.toNat<ps.length:=by lia
 have ho:i.toNat<os.length:=by lia
 refine⟨_,ps[i.toNat],e,?_,?_⟩
 ·unfold atI
  rw[List.length_map,d5h h0 ↑3];show(ps.map V.ref)[i.toNat]?=_;rw[List.getElem?_map,List.getElem?_eq_getElem hp]
  rfl
 ·have z:=(r _ _ _ (List.getElem?_eq_getElem hp) (List.getElem?_eq_getElem ho)).2
  rw[z,List.getD_eq_getElem?_getD,List.getElem?_eq_getElem ho]
  rfl
theorem RwsX.len{A:Ad}{H:Hp}{a:Addr}{os:List (List Int)}(h:RwsX A H a os):∃xs,H a=some (.lst xs)/\xs.length=os.length:=by
 obtain⟨ps,e,l,_⟩:=h;exact⟨_,e,by rw[List.length_map];exact l⟩
def a8f(nu le:Int):Bool:=decide (nu=-1) || decide (le<=0)
def a2k(nu le:Int):Int:=if a8f nu le then nu+1 else nu
def b0y(os:List (List Int))(nu le:Int):Int:=if a8f nu le then 0 else ((os.getD nu.toNat []).length:Int)-le
def a8g(os:List (List Int))(nu le:Int):Int:=((os.getD (a2k nu le).toNat []).length:Int)-b0y os nu le-1
def b6i(os:List (List Int))(nu le:Int):Bool:=decide (0<=a2k nu le/\a2k nu le<os.length) && decide (0<=b0y os nu le/\b0y os nu le<((os.getD (a2k nu le).toNat []).length:Int))
def b1a(os:List (List Int))(nu le:Int):Prop:=a8f nu le=true\/(0<=nu/\nu<os.length)
def a1d(cl:Cl):Sp:=λvs H Q _=>ExL λA n c os bk gs ts ps Gq Tq tl lt=>vs=[.ref A.gv]/\LH cl H A n c os bk gs ts ps Gq Tq tl lt/\Q (.bl (a8f Gq.nu Gq.le)) H
abbrev a1r:Stmt:=m9 (top 89) 4
theorem a8s:g7 ["self"] ["self"] (d8 a1r):=↑1
theorem a9v(D:DefM K cl.Giver "begins_order" "Giver.begins_order" a1r ["self"])(T:Txt K mg cl):MethT P w K mg qb cl.Giver "begins_order" 1 ["self"] (a1d cl):=by
 refine D.fn a8s ↑5 ↑2
 ·fail "l"
 ·obtain⟨A,n,c,os,bk,gs,ts,ps,Gq,Tq,tl,lt,rfl,hL,k⟩:=h
  refine⟨_,(d9 (j1 (e1a (a3t a8a ↑4 (v5 T.m_NO_ORDER rfl) (n9 _)) (b4k (a3t e6w ↑4 i8 (n9 _)))))),?_⟩;obtain⟨dxg,eg⟩:=hL.gv;fail "c";unfold a8f at k;ext;rw[show decide (V.int Gq.nu=V.int (-1))=decide (Gq.nu=-1) by simp]
  refine a3b (λy=>?_) (λy=>?_)
  ·rw[decide_eq_true y,Bool.true_or] at k;exact k
  ·rw[decide_eq_false y,Bool.false_or] at k
   ext;exact k
def v6(cl:Cl):Sp:=λvs H Q _=>ExL λA n c os bk gs ts ps Gq Tq tl lt=>vs=[.ref A.gv]/\LH cl H A n c os bk gs ts ps Gq Tq tl lt/\Q (.int (a2k Gq.nu Gq.le)) H
abbrev a2t:Stmt:=m9 (top 89) 5
theorem b1p:g7 ["self"] ["self"] (d8 a2t):=↑1
theorem b3b(D:DefM K cl.Giver "next_order" "Giver.next_order" a2t ["self"])(T:Txt K mg cl)(G_begins_order:MethT P w K mg qb cl.Giver "begins_order" 1 ["self"] (a1d cl)):MethT P w K mg qb cl.Giver "next_order" 2 ["self"] (v6 cl):=by
 refine D.fn b1p ↑5 ↑2
 ·fail "l"
 ·obtain⟨A,n,c,os,bk,gs,ts,ps,Gq,Tq,tl,lt,rfl,hL,k⟩:=h
  refine⟨_,(d9 (j1 (a6b (a8c (l9 (k:=1) (pv 0) hr ↑6 i4)) (o8 a1b ↑4 i8) ↑4))),?_⟩;obtain⟨dxg,eg⟩:=hL.gv;fail "c";unfold a2k at k;fail "e";refine⟨A.gv,cl.Giver,dxg,_,_,_,rfl,eg,rfl,T.k_Giver,G_begins_order,?_⟩;ext;refine⟨A,n,c,os,bk,gs,ts,ps,Gq,Tq,tl,lt,rfl,hL,?_⟩;ext;refine c7j (λy=>?_) (λy=>?_)
  ·rw[y] at k;ext;exact k
  ·rw[y] at k;ext;exact k
def a0z(cl:Cl):Sp:=λvs H Q _=>ExL λA n c os bk gs ts ps Gq Tq tl lt=>vs=[.ref A.gv]/\LH cl H A n c os bk gs ts ps Gq Tq tl lt/\b1a os Gq.nu Gq.le/\Q (.int (b0y os Gq.nu Gq.le)) H
abbrev a3p:Stmt:=m9 (top 89) 6
theorem b4d:g7 ["self"] ["self"] (d8 a3p):=↑1
theorem b4s(D:DefM K cl.Giver "next_part" "Giver.next_part" a3p ["self"])(T:Txt K mg cl)(G_begins_order:MethT P w K mg qb cl.Giver "begins_order" 1 ["self"] (a1d cl)):MethT P w K mg qb cl.Giver "next_part" 2 ["self"] (a0z cl):=by
 refine D.fn b4d ↑5 ↑2
 ·fail "l"
 ·obtain⟨A,n,c,os,bk,gs,ts,ps,Gq,Tq,tl,lt,rfl,hL,kn,k⟩:=h
  refine⟨_,(d9 (j1 (a6b (a8c (l9 (k:=1) (pv 0) hr ↑6 i4)) i8 (o8 b1g (l7 (n5 (K:=K)) (by rfl) T.z_len PySem.boot_len (a7 (v4 (j4 (K:=K)) ↑4 ↑4 (λ_ _=>rfl)) d6)) ↑4)))),?_⟩
  obtain⟨dxg,eg⟩:=hL.gv;fail "c";unfold b0y at k;fail "e";refine⟨A.gv,cl.Giver,dxg,_,_,_,rfl,eg,rfl,T.k_Giver,G_begins_order,?_⟩;ext;refine⟨A,n,c,os,bk,gs,ts,ps,Gq,Tq,tl,lt,rfl,hL,?_⟩;ext;refine c7j (λy=>?_) (λy=>?_)
  ·rw[y] at k;ext;exact k
  ·rw[y] at k
   rcases kn with kn|kn
   ·rw[y] at kn;cases kn
   obtain⟨xs,p,ex,hp,ep⟩:=hL.kept.pick kn.1 kn.2;ext;refine a0w ex hp ?_;ext;rw[List.length_map];exact k
def a2p(cl:Cl):Sp:=λvs H Q _=>ExL λA n c os bk gs ts ps Gq Tq tl lt=>vs=[.ref A.gv]/\LH cl H A n c os bk gs ts ps Gq Tq tl lt/\(b1a os Gq.nu Gq.le/\0<=a2k Gq.nu Gq.le/\a2k Gq.nu Gq.le<os.length)/\Q (.int (a8g os Gq.nu Gq.le)) H
abbrev a3q:Stmt:=m9 (top 89) 7
theorem b4e:g7 ["self"] ["self"] (d8 a3q):=↑1
variable(P w K mg qb cl)in
abbrev qao:=MethT P w K mg qb cl.Giver "next_order" 2 ["self"] (v6 cl)
variable(P w K mg qb cl)in
abbrev qap:=MethT P w K mg qb cl.Giver "next_part" 2 ["self"] (a0z cl)
theorem b4t(D:DefM K cl.Giver "next_left" "Giver.next_left" a3q ["self"])(T:Txt K mg cl)(G_next_order:qao P w K mg qb cl)(G_next_part:qap P w K mg qb cl):MethT P w K mg qb cl.Giver "next_left" 3 ["self"] (a2p cl):=by
 refine D.fn b4e ↑5 ↑2
 ·fail "l"
 ·obtain⟨A,n,c,os,bk,gs,ts,ps,Gq,Tq,tl,lt,rfl,hL,kn,k⟩:=h
  refine⟨_,(d9 (j1 (o8 b1g (o8 b1g (l7 (n5 (K:=K)) (by rfl) T.z_len PySem.boot_len (a7 (v4 (j4 (K:=K)) ↑4 (l9 (k:=2) (pv 0) hr ↑6 i4) (λ_ _=>rfl)) d6)) (l9 (k:=2) (pv 0) hr ↑6 i4)) i8))),?_⟩
  obtain⟨dxg,eg⟩:=hL.gv;fail "c";unfold a8g at k;obtain⟨xs,p,ex,hp,ep⟩:=hL.kept.pick kn.2.1 kn.2.2;fail "e";refine⟨A.gv,cl.Giver,dxg,_,_,_,rfl,eg,rfl,T.k_Giver,G_next_order,?_⟩;ext;refine⟨A,n,c,os,bk,gs,ts,ps,Gq,Tq,tl,lt,rfl,hL,?_⟩;refine a0w ex hp ?_;ext;rw[List.length_map];refine c4j ?_;ext;refine⟨A.gv,cl.Giver,dxg,_,_,_,rfl,eg,rfl,T.k_Giver,G_next_part,?_⟩;ext;refine⟨A,n,c,os,bk,gs,ts,ps,Gq,Tq,tl,lt,rfl,hL,kn.1,?_⟩;ext;exact k
def a6u(cl:Cl):Sp:=λvs H Q _=>ExL λA n c os bk gs ts ps Gq Tq tl lt=>vs=[.ref A.gv]/\LH cl H A n c os bk gs ts ps Gq Tq tl lt/\b1a os Gq.nu Gq.le/\Q (.bl (b6i os Gq.nu Gq.le)) H
abbrev a4q:Stmt:=m9 (top 89) 8
theorem a7a:g7 ["self","order"] ["self"] (d8 a4q):=↑1
theorem b6g(D:DefM K cl.Giver "has_part" "Giver.has_part" a4q ["self"])(T:Txt K mg cl)(G_next_order:qao P w K mg qb cl)(G_next_part:qap P w K mg qb cl):MethT P w K mg qb cl.Giver "has_part" 3 ["self"] (a6u cl):=by
 refine D.fn a7a ↑5 ↑2
 ·fail "l"
 ·obtain⟨A,n,c,os,bk,gs,ts,ps,Gq,Tq,tl,lt,rfl,hL,kn,k⟩:=h
  refine⟨_,(d5 (n6 (i:=1) a7a.nd rfl (.inl rfl) (l9 (k:=2) (pv 0) hr ↑6 i4))
   (d9 (j1 (b9a (d0p rfl T.z_range (pv 1) (a7 (l7 (n5 (K:=K)) (by rfl) T.z_len PySem.boot_len (a7 ↑4 d6)) d6)) (b4k (d0p rfl T.z_range (l9 (k:=2) (pv 0) hr ↑6 i4) (a7 (l7 (n5 (K:=K)) (by rfl) T.z_len PySem.boot_len (a7 (v4 (j4 (K:=K)) ↑4 (pv 1) (λ_ _=>rfl)) d6)) d6))))))),?_⟩
  obtain⟨dxg,eg⟩:=hL.gv;fail "c";unfold b6i at k;obtain⟨xs,ex,lx⟩:=hL.kept.len;fail "e";refine⟨A.gv,cl.Giver,dxg,_,_,_,rfl,eg,rfl,T.k_Giver,G_next_order,?_⟩;ext;refine⟨A,n,c,os,bk,gs,ts,ps,Gq,Tq,tl,lt,rfl,hL,?_⟩;ext;refine d5q ?_;ext;rw[lx];refine d1e ?_;ext;refine a3b (λy=>?_) (λy=>?_)
  ·rw[show decide (0<=a2k Gq.nu Gq.le/\a2k Gq.nu Gq.le<os.length)=true from decide_eq_true y,Bool.true_and] at k
   ext;refine d5q ?_;fail "e";refine⟨A.gv,cl.Giver,dxg,_,_,_,rfl,eg,rfl,T.k_Giver,G_next_part,?_⟩;ext;refine⟨A,n,c,os,bk,gs,ts,ps,Gq,Tq,tl,lt,rfl,hL,kn,?_⟩;obtain⟨xs',p,ex',hp,ep⟩:=hL.kept.pick y.1 y.2;ext;refine a0w ex' hp ?_;ext;rw[List.length_map];refine d1e ?_;exact k
  ·rw[show decide (0<=a2k Gq.nu Gq.le/\a2k Gq.nu Gq.le<os.length)=false from decide_eq_false y,Bool.false_and] at k
   exact k
def a4j(cl:Cl):Sp:=λvs H Q _=>ExL λA n c os bk gs ts ps Gq Tq tl lt=>vs=[.ref A.gv]/\LH cl H A n c os bk gs ts ps Gq Tq tl lt/\(Gq.st="look"->b1a os Gq.nu Gq.le)/\Q (.bl (decide (Gq.st="look") && !b6i os Gq.nu Gq.le)) H
abbrev a5k:Stmt:=m9 (top 89) 16
theorem b7h:g7 ["self"] ["self"] (d8 a5k):=↑1
theorem b7l(D:DefM K cl.Giver "resting" "Giver.resting" a5k ["self"])(T:Txt K mg cl)(G_has_part:MethT P w K mg qb cl.Giver "has_part" 3 ["self"] (a6u cl)):MethT P w K mg qb cl.Giver "resting" 4 ["self"] (a4j cl):=by
 refine D.fn b7h ↑5 ↑2
 ·fail "l"
 ·obtain⟨A,n,c,os,bk,gs,ts,ps,Gq,Tq,tl,lt,rfl,hL,kn,k⟩:=h
  refine⟨_,(d9 (j1 (b9a (a3t a8a ↑4 k0 (n9 _)) (b4k (e4a (l9 (k:=3) (pv 0) hr ↑6 i4)))))),?_⟩;obtain⟨dxg,eg⟩:=hL.gv;fail "c";ext;rw[show decide (V.str Gq.st=V.str "look")=decide (Gq.st="look") by simp]
  refine a3b (λy=>?_) (λy=>?_)
  ·rw[decide_eq_true y,Bool.true_and] at k
   fail "e";refine⟨A.gv,cl.Giver,dxg,_,_,_,rfl,eg,rfl,T.k_Giver,G_has_part,?_⟩;ext;refine⟨A,n,c,os,bk,gs,ts,ps,Gq,Tq,tl,lt,rfl,hL,kn y,?_⟩;ext;exact k
  ·rw[decide_eq_false y,Bool.false_and] at k
   exact k
structure DefV(K:Frag)(f:Addr)(x:Str)(st:Stmt)(ps:List Str):Prop where
 ex:∃fd:FuncData,Fun K x x st f fd/\Binds K fd ps []
theorem DefV.fn{f:Addr}{x:Str}{st:Stmt}{N ps:List Str}{k:Nat}{sp:Sp}(D:DefV K f x st ps)(S:g7 N ps (d8 st))(len:∀vs H Q E,sp vs H Q E->vs.length=ps.length)(hbody:∀(f:Addr) (cdv:Value) (A:Around) (outer:List Env) (s:Shared) (H:Hp) (vs:List V) (Q:VK) (E:XK),Room k (A.deeper (PyProof.Rows.envOfC x (d8 st) s.heap.objs.size f cdv))->sp vs H Q E ->
   ∃t,PSs (c9t (CXK P w) P w K mg qb N x (d8 st) f cdv A outer s H E) (a0q st) t/\t { nx:=λ_ H'=>Q .non H',rt:=Q } (L2.start N vs) H):FnV P w K mg qb f (k+1) ps sp:=by
 obtain⟨fd,F,hb⟩:=D.ex;exact⟨fd,F.okX S len (hbody f),F.kp,hb⟩
theorem FnT.toV{x:Str}{k:Nat}{ps:List Str}{sp:Sp}{f:Addr}(F:FnT P w K mg qb x k ps sp)(hm:mg x=some (.ref f)):FnV P w K mg qb f k ps sp:=by
 obtain⟨f',fd,F,hm',hk,hb⟩:=F.ex;rw[hm] at hm';cases hm';exact⟨fd,F,hk,hb⟩
theorem d9t{f:Str}{ta:TE}{v:V}{σ:St}{H:Hp}{Q:St->Hp->Prop}(q:ta σ H λx H1=>∃a C dx fs,x=.ref a/\H1 a=some (.ins C dx fs)/\Cls K C/\NoAttr K C f/\fs.length<1000/\Q σ (upd H1 a (.ins C dx (a4e f v fs)))):e8x K ta f v σ H Q:=q
abbrev ahd(n t:Int):Int:=((t + -1) % (2*n)) % n
def a1o(cl:Cl):Sp:=λvs H Q _=>ExL λA n c os bk gs ts ps Gq Tq tl lt=>∃(t:Int),vs=[.ref A.gv]/\LH cl H A n c os bk gs ts ps Gq Tq tl lt/\Gq.he=.int t/\0<=t/\t<2*(n:Int)/\Q (.int (ahd n t)) H
abbrev a2g:Stmt:=m9 (top 89) 3
theorem a4r:g7 ["self","size"] ["self"] (d8 a2g):=↑1
theorem b0x(D:DefM K cl.Giver "place_ahead" "Giver.place_ahead" a2g ["self"])(T:Txt K mg cl)(G_place_of:qak P w K mg qb cl)(G_onward:qad P w K mg qb cl):MethT P w K mg qb cl.Giver "place_ahead" 4 ["self"] (a1o cl):=by
 refine D.fn a4r ↑5 ↑2
 ·fail "l"
 ·obtain⟨A,n,c,os,bk,gs,ts,ps,Gq,Tq,tl,lt,t,rfl,hL,he,t0,t1,k⟩:=h
  refine⟨_,(d5 (n6 (i:=1) a4r.nd rfl (.inl rfl) (a0c (K:=K) ↑4))
   (d9 (j1 (k7 G_place_of hr ↑6 rfl i4 (a7 (pv 1) (a7 (k7 G_onward hr ↑6 rfl i4 (a7 (pv 1) (a7 ↑4 (a7 (e6v e2w i8) d6)))) d6)))))),?_⟩
  obtain⟨dxg,eg⟩:=hL.gv;fail "a";ext;rw[he];refine⟨n,t,_,rfl,a0j ↑3 ↑3 t0 t1 ?_⟩;ext;exact⟨n,_,rfl,a0j ↑3 ↑3 o0 o1 k⟩
def b5d(cl:Cl):Sp:=λvs H Q _=>ExL λA n c os bk gs ts ps Gq Tq tl lt=>∃(t:Int),vs=[.ref A.gv]/\LH cl H A n c os bk gs ts ps Gq Tq tl lt/\Gq.he=.int t/\0<=t/\t<2*(n:Int)/\∀H',LH cl H' A n c os bk gs ts ps { Gq with nu:=c (4*(ahd n t).toNat+1) } Tq tl (lt.rd (4*(ahd n t).toNat+1) (c (4*(ahd n t).toNat+1)))->KpA A H H'->Q (.str "lacks") H'
abbrev b8o:Stmt:=top 79
theorem d1y:g7 ["giver"] ["giver"] (d8 b8o):=↑1
theorem d2m(D:DefT K mg "at_told" b8o ["giver"])(T:Txt K mg cl)(G_Board_read:qaj P w K mg qb cl)(G_number_cell:FnT P w K mg qb "number_cell" 1 ["place"] (y9 1))(G_Giver_place_ahead:MethT P w K mg qb cl.Giver "place_ahead" 4 ["self"] (a1o cl)):FnT P w K mg qb "at_told" 5 ["giver"] (b5d cl):=by
 refine D.fn d1y ↑5 ↑2
 ·fail "l"
 ·obtain⟨A,n,c,os,bk,gs,ts,ps,Gq,Tq,tl,lt,t,rfl,hL,he,t0,t1,k⟩:=h
  refine⟨_,(d5 (m6 (K:=K) (pv 0) (a1f ↑4 T.k_Board G_Board_read hr ↑6 i4 (a7 (k7 G_number_cell hr ↑6 rfl i4 (a7 (l9 (k:=4) (pv 0) hr ↑6 i4) d6)) d6)))
   (d9 (j1 k0))),?_⟩
  obtain⟨dxg,eg⟩:=hL.gv;fail "a";fail "e";refine⟨A.gv,cl.Giver,dxg,_,_,_,rfl,eg,rfl,T.k_Giver,G_Giver_place_ahead,?_⟩;ext;refine⟨A,n,c,os,bk,gs,ts,ps,Gq,Tq,tl,lt,t,rfl,hL,he,t0,t1,?_⟩;ext;fail "g";obtain⟨z1,z2⟩:=hL.wasRead ht kp ett hB' hLast.1 (4*(ahd n t).toNat+1) ↑3 ↑3;obtain⟨dxg2,eg2⟩:=z1.gv;rw[show(4*ahd n t+1).toNat=4*(ahd n t).toNat+1 by lia,a0n c ↑3]
  ext;exact k _ (z1.setG (dx:=dxg2) (G':={ Gq with nu:=c (4*(ahd n t).toNat+1) })) (z2.trans (KpA.upd (j:=2) (by lia)))
def b1m(cl:Cl):Sp:=λvs H Q _=>ExL λA n c os bk gs ts ps Gq Tq tl lt=>∃(t:Int),vs=[.ref A.gv]/\LH cl H A n c os bk gs ts ps Gq Tq tl lt/\Gq.he=.int t/\0<=t/\t<2*(n:Int)/\∀H',LH cl H' A n c os bk gs ts ps { Gq with le:=c (4*(ahd n t).toNat+2) } Tq tl (lt.rd (4*(ahd n t).toNat+2) (c (4*(ahd n t).toNat+2)))->KpA A H H'->Q (.str "look") H'
abbrev b5t:Stmt:=top 80
theorem c8h:g7 ["giver"] ["giver"] (d8 b5t):=↑1
theorem c9e(D:DefT K mg "at_lacks" b5t ["giver"])(T:Txt K mg cl)(G_Board_read:qaj P w K mg qb cl)(G_left_cell:FnT P w K mg qb "left_cell" 1 ["place"] (y9 2))(G_Giver_place_ahead:MethT P w K mg qb cl.Giver "place_ahead" 4 ["self"] (a1o cl)):FnT P w K mg qb "at_lacks" 5 ["giver"] (b1m cl):=by
 refine D.fn c8h ↑5 ↑2
 ·fail "l"
 ·obtain⟨A,n,c,os,bk,gs,ts,ps,Gq,Tq,tl,lt,t,rfl,hL,he,t0,t1,k⟩:=h
  refine⟨_,(d5 (m6 (K:=K) (pv 0) (a1f ↑4 T.k_Board G_Board_read hr ↑6 i4 (a7 (k7 G_left_cell hr ↑6 rfl i4 (a7 (l9 (k:=4) (pv 0) hr ↑6 i4) d6)) d6)))
   (d9 (j1 k0))),?_⟩
  obtain⟨dxg,eg⟩:=hL.gv;fail "a";fail "e";refine⟨A.gv,cl.Giver,dxg,_,_,_,rfl,eg,rfl,T.k_Giver,G_Giver_place_ahead,?_⟩;ext;refine⟨A,n,c,os,bk,gs,ts,ps,Gq,Tq,tl,lt,t,rfl,hL,he,t0,t1,?_⟩;ext;fail "g";obtain⟨z1,z2⟩:=hL.wasRead ht kp ett hB' hLast.1 (4*(ahd n t).toNat+2) ↑3 ↑3;obtain⟨dxg2,eg2⟩:=z1.gv;rw[show(4*ahd n t+2).toNat=4*(ahd n t).toNat+2 by lia,a0n c ↑3]
  ext;exact k _ (z1.setG (dx:=dxg2) (G':={ Gq with le:=c (4*(ahd n t).toNat+2) })) (z2.trans (KpA.upd (j:=2) (by lia)))
def a0y(cl:Cl):Sp:=λvs H Q _=>ExL λA n c os bk gs ts ps Gq Tq tl lt=>∃(t:Int),vs=[.ref A.gv]/\LH cl H A n c os bk gs ts ps Gq Tq tl lt/\Gq.he=.int t/\0<=t/\t<2*(n:Int)/\∀H',LH cl H' A n (Pr.put c (4*(t % (n:Int)).toNat+1) (a2k Gq.nu Gq.le)) os bk gs ts ps Gq Tq tl (lt.wr (4*(t % (n:Int)).toNat+1) (a2k Gq.nu Gq.le))->KpA A H H'->Q (.str "left") H'
abbrev a3l:Stmt:=top 81
theorem b3x:g7 ["giver"] ["giver"] (d8 a3l):=↑1
theorem b4n{fa:Addr}(D:DefV K fa "at_number" a3l ["giver"])(T:Txt K mg cl)(G_Board_write:qag P w K mg qb cl)(G_number_cell:FnT P w K mg qb "number_cell" 1 ["place"] (y9 1))(GP:qam P w K mg qb cl)(G_next_order:qao P w K mg qb cl):FnV P w K mg qb fa 5 ["giver"] (a0y cl):=by
 refine D.fn b3x ↑5 ↑2
 ·fail "l"
 ·obtain⟨A,n,c,os,bk,gs,ts,ps,Gq,Tq,tl,lt,t,rfl,hL,he,t0,t1,k⟩:=h
  refine⟨_,(d5 (j9 (a1f ↑4 T.k_Board G_Board_write hr ↑6 i4 (a7 (k7 G_number_cell hr ↑6 rfl i4 (a7 (l9 (k:=4) (pv 0) hr ↑6 i4) d6)) (a7 (l9 (k:=2) (pv 0) hr ↑6 i4) d6))))
   (d9 (j1 k0))),?_⟩
  obtain⟨dxg,eg⟩:=hL.gv;fail "a";fail "e";refine⟨A.gv,cl.Giver,dxg,_,_,_,rfl,eg,rfl,T.k_Giver,GP,?_⟩;ext;refine⟨A,n,c,os,bk,gs,ts,ps,Gq,Tq,tl,lt,true,A.gv,t,rfl,.inl ⟨rfl,rfl⟩,hL,he,t0,t1,?_⟩;ext;refine⟨_,rfl,?_⟩;fail "e";refine⟨A.gv,cl.Giver,dxg,_,_,_,rfl,eg,rfl,T.k_Giver,G_next_order,?_⟩;ext;refine⟨A,n,c,os,bk,gs,ts,ps,Gq,Tq,tl,lt,rfl,hL,?_⟩;ext;refine⟨A.bd,A.l,n,_,many,last,_,_,rfl,hB,?_⟩;rw[if_pos ⟨by lia,by rw[hlen];lia⟩]
  intro tt H' ht kp ett hB';rw[show(4*(t % (n:Int))+1).toNat=4*(t % (n:Int)).toNat+1 by lia] at hB'
  obtain⟨z1,z2⟩:=hL.wrote (k:=4*(t % (n:Int)).toNat+1) ↑3 ht kp (by rw[ett];rw[show(4*(t % (n:Int))+1)=((4*(t % (n:Int)).toNat+1:Nat):Int) by lia]) hB' hLast.1
  ext;exact k H' z1 z2
def a1x(cl:Cl):Sp:=λvs H Q _=>ExL λA n c os bk gs ts ps Gq Tq tl lt=>∃(t:Int),vs=[.ref A.gv]/\LH cl H A n c os bk gs ts ps Gq Tq tl lt/\Gq.he=.int t/\0<=t/\t<2*(n:Int)/\(b1a os Gq.nu Gq.le/\0<=a2k Gq.nu Gq.le/\a2k Gq.nu Gq.le<os.length)/\∀H',LH cl H' A n (Pr.put c (4*(t % (n:Int)).toNat+2) (a8g os Gq.nu Gq.le)) os bk gs ts ps Gq Tq tl (lt.wr (4*(t % (n:Int)).toNat+2) (a8g os Gq.nu Gq.le))->KpA A H H'->Q (.str "thing") H'
abbrev a5h:Stmt:=top 83
theorem b7f:g7 ["giver"] ["giver"] (d8 a5h):=↑1
theorem b7j{fa:Addr}(D:DefV K fa "at_left" a5h ["giver"])(T:Txt K mg cl)(G_Board_write:qag P w K mg qb cl)(G_left_cell:FnT P w K mg qb "left_cell" 1 ["place"] (y9 2))(GP:qam P w K mg qb cl)(G_next_left:MethT P w K mg qb cl.Giver "next_left" 3 ["self"] (a2p cl)):FnV P w K mg qb fa 5 ["giver"] (a1x cl):=by
 refine D.fn b7f ↑5 ↑2
 ·fail "l"
 ·obtain⟨A,n,c,os,bk,gs,ts,ps,Gq,Tq,tl,lt,t,rfl,hL,he,t0,t1,kn,k⟩:=h
  refine⟨_,(d5 (j9 (a1f ↑4 T.k_Board G_Board_write hr ↑6 i4 (a7 (k7 G_left_cell hr ↑6 rfl i4 (a7 (l9 (k:=4) (pv 0) hr ↑6 i4) d6)) (a7 (l9 (k:=3) (pv 0) hr ↑6 i4) d6))))
   (d9 (j1 k0))),?_⟩
  obtain⟨dxg,eg⟩:=hL.gv;fail "a";fail "e";refine⟨A.gv,cl.Giver,dxg,_,_,_,rfl,eg,rfl,T.k_Giver,GP,?_⟩;ext;refine⟨A,n,c,os,bk,gs,ts,ps,Gq,Tq,tl,lt,true,A.gv,t,rfl,.inl ⟨rfl,rfl⟩,hL,he,t0,t1,?_⟩;ext;refine⟨_,rfl,?_⟩;fail "e";refine⟨A.gv,cl.Giver,dxg,_,_,_,rfl,eg,rfl,T.k_Giver,G_next_left,?_⟩;ext;refine⟨A,n,c,os,bk,gs,ts,ps,Gq,Tq,tl,lt,rfl,hL,kn,?_⟩;ext;refine⟨A.bd,A.l,n,_,many,last,_,_,rfl,hB,?_⟩;rw[if_pos ⟨by lia,by rw[hlen];lia⟩]
  intro tt H' ht kp ett hB';rw[show(4*(t % (n:Int))+2).toNat=4*(t % (n:Int)).toNat+2 by lia] at hB'
  obtain⟨z1,z2⟩:=hL.wrote (k:=4*(t % (n:Int)).toNat+2) ↑3 ht kp (by rw[ett];rw[show(4*(t % (n:Int))+2)=((4*(t % (n:Int)).toNat+2:Nat):Int) by lia]) hB' hLast.1
  ext;exact k H' z1 z2
def a1k(cl:Cl):Sp:=λvs H Q _=>ExL λA n c os bk gs ts ps Gq Tq tl lt=>∃(t:Int),vs=[.ref A.gv]/\LH cl H A n c os bk gs ts ps Gq Tq tl lt/\Gq.he=.int t/\0<=t/\t<2*(n:Int)/\(b1a os Gq.nu Gq.le/\(0<=a2k Gq.nu Gq.le/\a2k Gq.nu Gq.le<os.length)/\0<=b0y os Gq.nu Gq.le/\b0y os Gq.nu Gq.le<((os.getD (a2k Gq.nu Gq.le).toNat []).length:Int))/\∀H',LH cl H' A n (Pr.put c (4*(t % (n:Int)).toNat+3) ((os.getD (a2k Gq.nu Gq.le).toNat []).getD (b0y os Gq.nu Gq.le).toNat 0)) os bk gs ts ps Gq Tq tl (lt.wr (4*(t % (n:Int)).toNat+3) ((os.getD (a2k Gq.nu Gq.le).toNat []).getD (b0y os Gq.nu Gq.le).toNat 0))->KpA A H H'->Q (.str "mark") H'
abbrev a4m:Stmt:=top 85
theorem a6w:g7 ["giver","order"] ["giver"] (d8 a4m):=↑1
theorem b6a{fa:Addr}(D:DefV K fa "at_thing" a4m ["giver"])(T:Txt K mg cl)(G_Board_write:qag P w K mg qb cl)(G_thing_cell:FnT P w K mg qb "thing_cell" 1 ["place"] (y9 3))(GP:qam P w K mg qb cl)(G_next_order:qao P w K mg qb cl)(G_next_part:qap P w K mg qb cl):FnV P w K mg qb fa 5 ["giver"] (a1k cl):=by
 refine D.fn a6w ↑5 ↑2
 ·fail "l"
 ·obtain⟨A,n,c,os,bk,gs,ts,ps,Gq,Tq,tl,lt,t,rfl,hL,he,t0,t1,kn,k⟩:=h
  refine⟨_,(d5 (n6 (i:=1) a6w.nd rfl (.inl rfl) (v4 (j4 (K:=K)) ↑4 (l9 (k:=2) (pv 0) hr ↑6 i4) (λ_ _=>rfl)))
   (d5 (j9 (a1f ↑4 T.k_Board G_Board_write hr ↑6 i4 (a7 (k7 G_thing_cell hr ↑6 rfl i4 (a7 (l9 (k:=4) (pv 0) hr ↑6 i4) d6)) (a7 (v4 (j4 (K:=K)) (pv 1) (l9 (k:=2) (pv 0) hr ↑6 i4) (λ_ _=>rfl)) d6))))
   (d9 (j1 k0)))),?_⟩
  obtain⟨dxg,eg⟩:=hL.gv;fail "a";obtain⟨xs,p,ex,hp,ep⟩:=hL.kept.pick kn.2.1.1 kn.2.1.2;fail "e";refine⟨A.gv,cl.Giver,dxg,_,_,_,rfl,eg,rfl,T.k_Giver,G_next_order,?_⟩;ext;refine⟨A,n,c,os,bk,gs,ts,ps,Gq,Tq,tl,lt,rfl,hL,?_⟩;refine a0w ex hp ?_;fail "e";refine⟨A.gv,cl.Giver,dxg,_,_,_,rfl,eg,rfl,T.k_Giver,GP,?_⟩;ext;refine⟨A,n,c,os,bk,gs,ts,ps,Gq,Tq,tl,lt,true,A.gv,t,rfl,.inl ⟨rfl,rfl⟩,hL,he,t0,t1,?_⟩;ext;refine⟨_,rfl,?_⟩;fail "e";refine⟨A.gv,cl.Giver,dxg,_,_,_,rfl,eg,rfl,T.k_Giver,G_next_part,?_⟩;ext;refine⟨A,n,c,os,bk,gs,ts,ps,Gq,Tq,tl,lt,rfl,hL,kn.1,?_⟩;refine a0w ep (b7d kn.2.2.1 kn.2.2.2) ?_;ext;refine⟨A.bd,A.l,n,_,many,last,_,_,rfl,hB,?_⟩;rw[if_pos ⟨by lia,by rw[hlen];lia⟩]
  intro tt H' ht kp ett hB';rw[show(4*(t % (n:Int))+3).toNat=4*(t % (n:Int)).toNat+3 by lia] at hB'
  obtain⟨z1,z2⟩:=hL.wrote (k:=4*(t % (n:Int)).toNat+3) ↑3 ht kp (by rw[ett];rw[show(4*(t % (n:Int))+3)=((4*(t % (n:Int)).toNat+3:Nat):Int) by lia]) hB' hLast.1
  ext;exact k H' z1 z2
def b5e(cl:Cl):Sp:=λvs H Q _=>ExL λA n c os bk gs ts ps Gq Tq tl lt=>∃(t:Int),vs=[.ref A.gv]/\LH cl H A n c os bk gs ts ps Gq Tq tl lt/\Gq.he=.int t/\0<=t/\t<2*(n:Int)/\∀H',LH cl H' A n (Pr.put c (4*(t % (n:Int)).toNat+0) (2*(t / (n:Int))+1)) os bk gs ts ps Gq Tq tl (lt.wr (4*(t % (n:Int)).toNat+0) (2*(t / (n:Int))+1))->KpA A H H'->Q (.str "card") H'
abbrev b8r:Stmt:=top 87
theorem d2b:g7 ["giver"] ["giver"] (d8 b8r):=↑1
theorem d2p(D:DefT K mg "at_mark" b8r ["giver"])(T:Txt K mg cl)(G_Board_write:qag P w K mg qb cl)(G_mark_cell:qal P w K mg qb)(GP:qam P w K mg qb cl)(G_full_mark:FnT P w K mg qb "full_mark" 4 ["size","turn"] (a8n cl)):FnT P w K mg qb "at_mark" 5 ["giver"] (b5e cl):=by
 refine D.fn d2b ↑5 ↑2
 ·fail "l"
 ·obtain⟨A,n,c,os,bk,gs,ts,ps,Gq,Tq,tl,lt,t,rfl,hL,he,t0,t1,k⟩:=h
  refine⟨_,(d5 (j9 (a1f ↑4 T.k_Board G_Board_write hr ↑6 i4 (a7 (k7 G_mark_cell hr ↑6 rfl i4 (a7 (l9 (k:=4) (pv 0) hr ↑6 i4) d6)) (a7 (k7 G_full_mark hr ↑6 rfl i4 (a7 (a0c (K:=K) ↑4) (a7 ↑4 d6))) d6))))
   (d9 (j1 k0))),?_⟩
  obtain⟨dxg,eg⟩:=hL.gv;fail "a";fail "e";refine⟨A.gv,cl.Giver,dxg,_,_,_,rfl,eg,rfl,T.k_Giver,GP,?_⟩;ext;refine⟨A,n,c,os,bk,gs,ts,ps,Gq,Tq,tl,lt,true,A.gv,t,rfl,.inl ⟨rfl,rfl⟩,hL,he,t0,t1,?_⟩;ext;refine⟨_,rfl,?_⟩;ext;rw[he];refine⟨n,t,rfl,a0j ↑3 ↑3 t0 t1 ?_⟩;ext;refine⟨A.bd,A.l,n,_,many,last,_,_,rfl,hB,?_⟩;rw[if_pos ⟨by lia,by rw[hlen];lia⟩]
  intro tt H' ht kp ett hB';rw[show(4*(t % (n:Int))+0).toNat=4*(t % (n:Int)).toNat+0 by lia] at hB'
  obtain⟨z1,z2⟩:=hL.wrote (k:=4*(t % (n:Int)).toNat+0) ↑3 ht kp (by rw[ett];rw[show(4*(t % (n:Int))+0)=((4*(t % (n:Int)).toNat+0:Nat):Int) by lia]) hB' hLast.1
  ext;exact k H' z1 z2
def a1n(cl:Cl):Sp:=λvs H Q _=>ExL λA n c os bk gs ts ps Gq Tq tl lt=>∃(t:Int),vs=[.ref A.gv]/\LH cl H A n c os bk gs ts ps Gq Tq tl lt/\Gq.he=.int t/\0<=t/\t<2*(n:Int)/\Q (.int t) H
abbrev a2f:Stmt:=m9 (top 89) 14
theorem b0u:g7 ["self"] ["self"] (d8 a2f):=↑1
theorem b0w(D:DefM K cl.Giver "turn_served" "Giver.turn_served" a2f ["self"])(T:Txt K mg cl):MethT P w K mg qb cl.Giver "turn_served" 1 ["self"] (a1n cl):=by
 refine D.fn b0u ↑5 ↑2
 ·fail "l"
 ·obtain⟨A,n,c,os,bk,gs,ts,ps,Gq,Tq,tl,lt,t,rfl,hL,he,t0,t1,k⟩:=h
  refine⟨_,(d9 (j1 ↑4)),?_⟩;obtain⟨dxg,eg⟩:=hL.gv;fail "a";ext;rw[he];exact k
theorem d0c{row:List Int}{H:Hp}{E:XK}{k:Nat->Hp->Prop}{f:Nat}(h:a6e (toB row)=some f)(q:∀H',Same H H'->k f H'):e0d cl row H E k:=by
 refine⟨λf' H' s e=>?_,λH' s e=>?_⟩
 ·rw[h] at e;cases e;exact q H' s
 ·rw[h] at e;cases e
def a5w(K:Frag)(cl:Cl):Sp:=λvs H Q _=>ExL λA n c os bk gs ts ps Gq Tq tl lt=>∃(t:Int)(m:Addr)(ms:List Int)(f:Nat),vs=[.ref A.gv,.ref m]/\LH cl H A n c os bk gs ts ps Gq Tq tl lt/\H m=some (.lst (ms.map V.int))/\ms.length=n/\a2z ms=true/\a6e (toB (ms.map d8h))=some f/\∀H',LH cl H' A n c os bk gs ts ps { Gq with he:=.int (f:Nat) } Tq tl lt->KpA A H H'->Q .non H'
abbrev a3r:Stmt:=m9 (top 89) 12
theorem b4f:g7 ["self","marks"] ["self","marks"] (d8 a3r):=↑1
theorem b4u(D:DefM K cl.Giver "know_turn" "Giver.know_turn" a3r ["self","marks"])(T:Txt K mg cl)(G_giver_turn:FnT P w K mg qb "giver_turn" 5 ["marks"] (b3j K cl)):MethT P w K mg qb cl.Giver "know_turn" 6 ["self","marks"] (a5w K cl):=by
 refine D.fn b4f ↑5 ↑2
 ·fail "l"
 ·obtain⟨A,n,c,os,bk,gs,ts,ps,Gq,Tq,tl,lt,t,m,ms,f,rfl,hL,em,lm,mo,fr,k⟩:=h
  refine⟨_,(d9 (m6 (K:=K) (pv 0) (k7 G_giver_turn hr ↑6 rfl i4 (a7 (pv 1) d6)))),?_⟩;obtain⟨dxg,eg⟩:=hL.gv;fail "c";ext;refine⟨m,ms,rfl,SqL.of em,⟨_,em⟩,c7f ↑3 ↑3 mo (d0c fr λH1 s1=>?_)⟩;have z1:=hL.same s1;obtain⟨dxg2,eg2⟩:=z1.gv;ext;exact k _ (z1.setG (dx:=dxg2) (G':={ Gq with he:=.int (f:Nat) })) ((KpA.of s1).trans (KpA.upd (j:=2) (by lia)))
def a6i(cl:Cl):Sp:=λvs H Q _=>ExL λA n c os bk gs ts ps Gq Tq tl lt=>∃(t:Int),vs=[.ref A.gv]/\LH cl H A n c os bk gs ts ps Gq Tq tl lt/\Gq.he=.int t/\0<=t/\t<2*(n:Int)/\(b1a os Gq.nu Gq.le/\0<=a2k Gq.nu Gq.le/\a2k Gq.nu Gq.le<os.length)/\∀H',LH cl H' A n c os bk gs ts ps { Gq with he:=.int ((t+1) % (2*(n:Int))),nu:=a2k Gq.nu Gq.le,le:=a8g os Gq.nu Gq.le } Tq tl lt->KpA A H H'->Q (.str "look") H'
abbrev a7x:Stmt:=m9 (top 89) 15
theorem c0b:g7 ["self"] ["self"] (d8 a7x):=↑1
theorem c0q(D:DefM K cl.Giver "go_on" "Giver.go_on" a7x ["self"])(T:Txt K mg cl)(G_next_order:qao P w K mg qb cl)(G_next_left:MethT P w K mg qb cl.Giver "next_left" 3 ["self"] (a2p cl))(G_onward:qad P w K mg qb cl):MethT P w K mg qb cl.Giver "go_on" 4 ["self"] (a6i cl):=by
 refine D.fn c0b ↑5 ↑2
 ·fail "l"
 ·obtain⟨A,n,c,os,bk,gs,ts,ps,Gq,Tq,tl,lt,t,rfl,hL,he,t0,t1,kn,k⟩:=h
  refine⟨_,(d5 (b7a (b7b (a7 (l9 (k:=2) (pv 0) hr ↑6 i4) (a7 (l9 (k:=3) (pv 0) hr ↑6 i4) d6))) (c3a (K:=K) rfl (a6a (d4j (K:=K) (pv 0)) (a6a (d4j (K:=K) (pv 0)) c2z))))
   (d5 (m6 (K:=K) (pv 0) (k7 G_onward hr ↑6 rfl i4 (a7 (a0c (K:=K) ↑4) (a7 ↑4 (a7 i8 d6)))))
   (d9 (j1 k0)))),?_⟩
  obtain⟨dxg,eg⟩:=hL.gv;fail "a";fail "e";refine⟨A.gv,cl.Giver,dxg,_,_,_,rfl,eg,rfl,T.k_Giver,G_next_order,?_⟩;ext;refine⟨A,n,c,os,bk,gs,ts,ps,Gq,Tq,tl,lt,rfl,hL,?_⟩;fail "e";refine⟨A.gv,cl.Giver,dxg,_,_,_,rfl,eg,rfl,T.k_Giver,G_next_left,?_⟩;ext;refine⟨A,n,c,os,bk,gs,ts,ps,Gq,Tq,tl,lt,rfl,hL,kn,?_⟩;ext;refine⟨by show 2<=sizeLine;decide,λp hp=>?_⟩
  have z1:=hL.same (i9 (o:=.tup [.int (a2k Gq.nu Gq.le),.int (a8g os Gq.nu Gq.le)]) hp);obtain⟨dxg2,eg2⟩:=z1.gv;refine⟨p,_,rfl,SqT.of d7,rfl,_,_,rfl,d9t ?_⟩;ext;refine⟨_,_,rfl,d9t ?_⟩;ext;refine⟨rfl,?_⟩;have z2:=z1.setG (dx:=dxg2) (G':={ Gq with nu:=a2k Gq.nu Gq.le })
  have z3:=z2.setG (dx:=dxg2) (G':={ Gq with nu:=a2k Gq.nu Gq.le,le:=a8g os Gq.nu Gq.le })
  have ka:KpA A H _:=((KpA.of (i9 (o:=.tup [.int (a2k Gq.nu Gq.le),.int (a8g os Gq.nu Gq.le)]) hp)).trans (KpA.upd (A:=A) (j:=2) (o:=gvO cl dxg2 A { Gq with nu:=a2k Gq.nu Gq.le }) (by lia))).trans (KpA.upd (A:=A) (j:=2) (o:=gvO cl dxg2 A { Gq with nu:=a2k Gq.nu Gq.le,le:=a8g os Gq.nu Gq.le }) (by lia))
  refine e2c (by assumption) ?_
  revert z3 ka
  change _->_->e3a _ _ _ _ (upd (upd (upd H p (.tup [.int (a2k Gq.nu Gq.le),.int (a8g os Gq.nu Gq.le)])) A.gv (gvO cl dxg2 A { Gq with nu:=a2k Gq.nu Gq.le })) A.gv (gvO cl dxg2 A { Gq with nu:=a2k Gq.nu Gq.le,le:=a8g os Gq.nu Gq.le }))
  generalize upd (upd (upd H p (.tup [.int (a2k Gq.nu Gq.le),.int (a8g os Gq.nu Gq.le)])) A.gv (gvO cl dxg2 A { Gq with nu:=a2k Gq.nu Gq.le })) A.gv (gvO cl dxg2 A { Gq with nu:=a2k Gq.nu Gq.le,le:=a8g os Gq.nu Gq.le })=H3
  intro z3 ka;obtain⟨dxg3,eg3⟩:=z3.gv;obtain⟨many3,last3,hB3,hLast3⟩:=z3.brd;obtain⟨⟨dxb3,eb3⟩,el3,hlen3,_,_⟩:=id hB3;ext;rw[he];refine⟨n,t,_,rfl,a0j ↑3 ↑3 t0 t1 ?_⟩;ext;exact k _ (z3.setG (dx:=dxg3) (G':={ Gq with he:=.int ((t+1) % (2*(n:Int))),nu:=a2k Gq.nu Gq.le,le:=a8g os Gq.nu Gq.le })) (ka.trans (KpA.upd (j:=2) (by lia)))
section
variable{H H':Hp}{A:Ad}{n:Nat}{c:Pr.Cells}{os bk:List (List Int)}{gs ts ps:List Int}{Gq:Gm}{Tq:Tm}{tl:List Tr}{lt:Lt}
theorem LH.setPa{qs:List Int}(h:LH cl H A n c os bk gs ts ps Gq Tq tl lt):LH cl (upd H A.pa (.lst (qs.map V.int))) A n c os bk gs ts qs Gq Tq tl lt:=by
 have ne:∀i,i<8->i≠7->A.o i≠A.pa:=λi h8 h2=>h.nd i 7 h8 ↑3 h2;obtain⟨m,l,hB,hL⟩:=h.brd;refine⟨⟨m,l,hB.keep (ps:=[A.pa]) (Kp.upd (by simp)) (by simpa using ne 0 ↑3 ↑3) (by simpa using ne 1 ↑3 ↑3),hL.kpa (KpA.upd (j:=7) ↑3)⟩,?_,?_,?_,?_,h.kept.set (j:=7) ↑3 rfl (ne 5 ↑3 ↑3),h.book.set (j:=7) ↑3 rfl (ne 6 ↑3 ↑3),d7,?_,h.nd,h.om,h.fo.updO h.nd 7 ↑3 ↑3 ↑3 ↑3⟩
 ·obtain⟨d,z⟩:=h.gv;exact⟨d,by rw[c7 (ne 2 ↑3 ↑3)];exact z⟩
 ·obtain⟨d,z⟩:=h.tk;exact⟨d,by rw[c7 (ne 3 ↑3 ↑3)];exact z⟩
 ·rw[c7 (h.om 7 ↑3).1];exact h.mg
 ·rw[c7 (h.om 7 ↑3).2];exact h.mt
 ·exact h.tr.kpa (KpA.upd (j:=7) ↑3) λo z=>by rw[c7 (ne 4 ↑3 ↑3)];exact z
theorem LH.setTr{xs:List V}{p:Addr}{t:Tr}(h:LH cl H A n c os bk gs ts ps Gq Tq tl lt)(ex:H A.kt=some (.lst xs))(op:∀j,j<8->p≠A.o j)(fp:¬ A.fo p)(ep:H p=some (e5y t)):LH cl (upd H A.kt (.lst (xs++[.ref p]))) A n c os bk gs ts ps Gq Tq (tl++[t]) lt:=by
 have ne:∀i,i<8->i≠4->A.o i≠A.kt:=λi h8 h2=>h.nd i 4 h8 ↑3 h2;obtain⟨m,l,hB,hL⟩:=h.brd;refine⟨⟨m,l,hB.keep (ps:=[A.kt]) (Kp.upd (by simp)) (by simpa using ne 0 ↑3 ↑3) (by simpa using ne 1 ↑3 ↑3),hL.kpa (KpA.upd (j:=4) ↑3)⟩,?_,?_,?_,?_,h.kept.set (j:=4) ↑3 rfl (ne 5 ↑3 ↑3),h.book.set (j:=4) ↑3 rfl (ne 6 ↑3 ↑3),?_,?_,h.nd,h.om,h.fo.updO h.nd 4 ↑3 ↑3 ↑3 ↑3⟩
 ·obtain⟨d,z⟩:=h.gv;exact⟨d,by rw[c7 (ne 2 ↑3 ↑3)];exact z⟩
 ·obtain⟨d,z⟩:=h.tk;exact⟨d,by rw[c7 (ne 3 ↑3 ↑3)];exact z⟩
 ·rw[c7 (h.om 4 ↑3).1];exact h.mg
 ·rw[c7 (h.om 4 ↑3).2];exact h.mt
 ·rw[c7 (ne 7 ↑3 ↑3)];exact h.pa
 ·obtain⟨qs,e,l,r⟩:=h.tr
  rw[e] at ex;cases ex;refine⟨qs++[p],by rw[d7,List.map_append];rfl,by rw[List.length_append,List.length_append,l];rfl,λi q u hq hu=>?_⟩
  by_cases y:i<qs.length
  ·rw[List.getElem?_append_left y] at hq
   rw[List.getElem?_append_left ↑3] at hu;obtain⟨r1,r2,r3⟩:=r i q u hq hu;exact⟨r1,r2,by rw[c7 (r1 4 ↑3)];exact r3⟩
  ·rw[List.getElem?_append_right ↑3] at hq hu
   have i0:i-qs.length=0:=by
    by_cases z:i-qs.length=0
    ·exact z
    ·rw[List.getElem?_eq_none (by simp;lia)] at hq;cases hq
   rw[i0] at hq;rw[<- l,i0] at hu;cases hq;cases hu;exact⟨op,fp,by rw[c7 (op 4 ↑3)];exact ep⟩
def Ad.setPa(A:Ad)(p:Addr):Ad:={ A with o:=λj=>if j=7 then p else A.o j }
theorem Ad.setPa_o{A:Ad}{p:Addr}{j:Nat}(h:j≠7):(A.setPa p).o j=A.o j:=if_neg h
theorem Ad.setPa_7{A:Ad}{p:Addr}:(A.setPa p).o 7=p:=by
 show(if 7=7 then p else A.o 7)=p;exact if_pos rfl
theorem LH.move{p dx:Addr}{bk':List (List Int)}(h:LH cl H A n c os bk gs ts ps Gq Tq tl lt)(k:Kp [A.kk,A.tk] H H')(hp:H p=none)(ep:H' p=some (.lst []))(et:H' A.tk=some (tkO cl dx (A.setPa p) Tq))(hk:RwsX (A.setPa p) H' A.kk bk')(hf:∀x,A.fo x->Unr H' A.kk x):LH cl H' (A.setPa p) n c os bk' gs ts [] Gq Tq tl lt:=by
 have ne:∀i,i<8->i≠6->i≠3->A.o i ∉ [A.kk,A.tk]:=λi h8 h6 h3=>by
  simp only[List.mem_cons,List.not_mem_nil,or_false,not_or];exact⟨h.nd i 6 h8 ↑3 h6,h.nd i 3 h8 ↑3 h3⟩
 have offp:=h.off hp;obtain⟨m,l,hB,hL⟩:=h.brd;have kz:KpA A H H':=KpA.kp k λx hx=>by
  simp only[List.mem_cons,List.not_mem_nil,or_false] at hx;rcases hx with rfl|rfl
  ·exact⟨6,by lia,rfl⟩
  ·exact⟨3,by lia,rfl⟩
 refine⟨⟨m,l,hB.keep k (ne 0 ↑3 ↑3 ↑3) (ne 1 ↑3 ↑3 ↑3),hL.1,hL.2.1,λq0 z=>?_⟩,?_,⟨dx,et⟩,k _ _ h.mg ?_,k _ _ h.mt ?_,?_,hk,ep,?_,?_,?_,?_⟩
 ·obtain⟨t,e,n1,q⟩:=hL.2.2 q0 z
  refine⟨t,e,λj hj=>?_,kz _ _ q n1⟩;by_cases e7:j=7
  ·subst e7;rw[Ad.setPa_7];exact g9 q hp
  ·rw[Ad.setPa_o e7];exact n1 j hj
 ·obtain⟨d,z⟩:=h.gv
  exact⟨d,k _ _ z (ne 2 ↑3 ↑3 ↑3)⟩
 ·simp only[List.mem_cons,List.not_mem_nil,or_false,not_or];exact⟨(h.om 6 ↑3).1,(h.om 3 ↑3).1⟩
 ·simp only[List.mem_cons,List.not_mem_nil,or_false,not_or];exact⟨(h.om 6 ↑3).2,(h.om 3 ↑3).2⟩
 ·obtain⟨qs,e,l,r⟩:=h.kept
  refine⟨qs,k _ _ e (ne 5 ↑3 ↑3 ↑3),l,λi q o hq ho=>?_⟩;obtain⟨a,b⟩:=r i q o hq ho;refine⟨λj hj=>?_,kz _ _ b a⟩;by_cases e7:j=7
  ·subst e7;rw[Ad.setPa_7];exact g9 b hp
  ·rw[Ad.setPa_o e7];exact a j hj
 ·refine h.tr.gen (λo z=>k _ _ z (ne 4 ↑3 ↑3 ↑3)) λq o e n1 f=>⟨λj hj=>?_,f,kz _ _ e n1⟩
  by_cases e7:j=7
  ·subst e7;rw[Ad.setPa_7];exact g9 e hp
  ·rw[Ad.setPa_o e7];exact n1 j hj
 ·intro i j hi hj hij
  by_cases i7:i=7
  ·subst i7
   rw[Ad.setPa_7,Ad.setPa_o (Ne.symm hij)];exact offp j hj
  ·rw[Ad.setPa_o i7]
   by_cases j7:j=7
   ·subst j7
    rw[Ad.setPa_7];exact(offp i hi).symm
   ·rw[Ad.setPa_o j7]
    exact h.nd i j hi hj hij
 ·intro i hi
  by_cases i7:i=7
  ·subst i7
   rw[Ad.setPa_7];exact⟨g9 h.mg hp,g9 h.mt hp⟩
  ·rw[Ad.setPa_o i7]
   exact h.om i hi
 ·intro x hx
  obtain⟨⟨o,a⟩,b,c1,d,e,f,g⟩:=h.fo x hx;obtain⟨o5,z5⟩:=h.has 5 ↑3;obtain⟨o0,z0⟩:=h.has 0 ↑3;have y5:H' A.kg=H A.kg:=(k _ _ z5 (ne 5 ↑3 ↑3 ↑3)).trans z5.symm;have y0:H' A.bd=H A.bd:=(k _ _ z0 (ne 0 ↑3 ↑3 ↑3)).trans z0.symm;refine⟨⟨o,kz _ _ a b⟩,λj hj=>?_,c1,d,(λxs z=>e xs (y5 ▸ z)),hf x hx,(λC dx fs z=>g C dx fs (y0 ▸ z))⟩;by_cases e7:j=7
  ·subst e7;rw[Ad.setPa_7];exact g9 a hp
  ·rw[Ad.setPa_o e7];exact b j hj
def Nx(A A':Ad)(H:Hp):Prop:=(∀j,j<7->A'.o j=A.o j)/\(A'.o 7=A.o 7\/H (A'.o 7)=none)/\A'.fo=A.fo
theorem Nx.refl(A:Ad)(H:Hp):Nx A A H:=⟨λ_ _=>rfl,.inl rfl,rfl⟩
theorem Nx.pa{p:Addr}(hp:H p=none):Nx A (A.setPa p) H:=⟨λj hj=>Ad.setPa_o ↑3,.inr (by rw[Ad.setPa_7];exact hp),rfl⟩
end
def a0x(cl:Cl):Sp:=λvs H Q _=>ExL λA n c os bk gs ts ps Gq Tq tl lt=>∃(t:Int),vs=[.ref A.tk]/\LH cl H A n c os bk gs ts ps Gq Tq tl lt/\Tq.he=.int t/\0<=t/\t<2*(n:Int)/\∀H',LH cl H' A n c os bk gs ts ps Gq { Tq with nu:=c (4*(t % (n:Int)).toNat+1) } tl (lt.rd (4*(t % (n:Int)).toNat+1) (c (4*(t % (n:Int)).toNat+1)))->KpA A H H'->Q (.str "left") H'
abbrev a3k:Stmt:=top 91
theorem b3w:g7 ["taker"] ["taker"] (d8 a3k):=↑1
theorem b4m{fa:Addr}(D:DefV K fa "at_number" a3k ["taker"])(T:Txt K mg cl)(G_Board_read:qaj P w K mg qb cl)(G_number_cell:FnT P w K mg qb "number_cell" 1 ["place"] (y9 1))(TP:qan P w K mg qb cl):FnV P w K mg qb fa 5 ["taker"] (a0x cl):=by
 refine D.fn b3w ↑5 ↑2
 ·fail "l"
 ·obtain⟨A,n,c,os,bk,gs,ts,ps,Gq,Tq,tl,lt,t,rfl,hL,he,t0,t1,k⟩:=h
  refine⟨_,(d5 (m6 (K:=K) (pv 0) (a1f ↑4 T.k_Board G_Board_read hr ↑6 i4 (a7 (k7 G_number_cell hr ↑6 rfl i4 (a7 (l9 (k:=4) (pv 0) hr ↑6 i4) d6)) d6)))
   (d9 (j1 k0))),?_⟩
  obtain⟨dxt,et⟩:=hL.tk;fail "c";have p0:=Int.emod_nonneg t (show(n:Int)≠0 by lia)
  have p1:=Int.emod_lt_of_pos t (show(0:Int)<n by lia)
  fail "e";refine⟨A.tk,cl.Taker,dxt,_,_,_,rfl,et,rfl,T.k_Taker,TP,?_⟩;ext;refine⟨A,n,c,os,bk,gs,ts,ps,Gq,Tq,tl,lt,false,A.tk,t,rfl,.inr ⟨rfl,rfl⟩,hL,he,t0,t1,?_⟩;ext;fail "g";obtain⟨z1,z2⟩:=hL.wasRead ht kp ett hB' hLast.1 (4*(t % (n:Int)).toNat+1) ↑3 ↑3;obtain⟨dxt2,et2⟩:=z1.tk;rw[show(4*(t % (n:Int))+1).toNat=4*(t % (n:Int)).toNat+1 by lia,a0n c ↑3]
  ext;exact k _ (z1.setT (dx:=dxt2) (T':={ Tq with nu:=c (4*(t % (n:Int)).toNat+1) })) (z2.trans (KpA.upd (j:=3) (by lia)))
def a1w(cl:Cl):Sp:=λvs H Q _=>ExL λA n c os bk gs ts ps Gq Tq tl lt=>∃(t:Int),vs=[.ref A.tk]/\LH cl H A n c os bk gs ts ps Gq Tq tl lt/\Tq.he=.int t/\0<=t/\t<2*(n:Int)/\∀H',LH cl H' A n c os bk gs ts ps Gq { Tq with le:=c (4*(t % (n:Int)).toNat+2) } tl (lt.rd (4*(t % (n:Int)).toNat+2) (c (4*(t % (n:Int)).toNat+2)))->KpA A H H'->Q (.str "thing") H'
abbrev a5g:Stmt:=top 93
theorem b7e:g7 ["taker"] ["taker"] (d8 a5g):=↑1
theorem b7i{fa:Addr}(D:DefV K fa "at_left" a5g ["taker"])(T:Txt K mg cl)(G_Board_read:qaj P w K mg qb cl)(G_left_cell:FnT P w K mg qb "left_cell" 1 ["place"] (y9 2))(TP:qan P w K mg qb cl):FnV P w K mg qb fa 5 ["taker"] (a1w cl):=by
 refine D.fn b7e ↑5 ↑2
 ·fail "l"
 ·obtain⟨A,n,c,os,bk,gs,ts,ps,Gq,Tq,tl,lt,t,rfl,hL,he,t0,t1,k⟩:=h
  refine⟨_,(d5 (m6 (K:=K) (pv 0) (a1f ↑4 T.k_Board G_Board_read hr ↑6 i4 (a7 (k7 G_left_cell hr ↑6 rfl i4 (a7 (l9 (k:=4) (pv 0) hr ↑6 i4) d6)) d6)))
   (d9 (j1 k0))),?_⟩
  obtain⟨dxt,et⟩:=hL.tk;fail "c";have p0:=Int.emod_nonneg t (show(n:Int)≠0 by lia)
  have p1:=Int.emod_lt_of_pos t (show(0:Int)<n by lia)
  fail "e";refine⟨A.tk,cl.Taker,dxt,_,_,_,rfl,et,rfl,T.k_Taker,TP,?_⟩;ext;refine⟨A,n,c,os,bk,gs,ts,ps,Gq,Tq,tl,lt,false,A.tk,t,rfl,.inr ⟨rfl,rfl⟩,hL,he,t0,t1,?_⟩;ext;fail "g";obtain⟨z1,z2⟩:=hL.wasRead ht kp ett hB' hLast.1 (4*(t % (n:Int)).toNat+2) ↑3 ↑3;obtain⟨dxt2,et2⟩:=z1.tk;rw[show(4*(t % (n:Int))+2).toNat=4*(t % (n:Int)).toNat+2 by lia,a0n c ↑3]
  ext;exact k _ (z1.setT (dx:=dxt2) (T':={ Tq with le:=c (4*(t % (n:Int)).toNat+2) })) (z2.trans (KpA.upd (j:=3) (by lia)))
def b5f(cl:Cl):Sp:=λvs H Q _=>ExL λA n c os bk gs ts ps Gq Tq tl lt=>∃(t:Int),vs=[.ref A.tk]/\LH cl H A n c os bk gs ts ps Gq Tq tl lt/\Tq.nf=.int t/\0<=t/\t<2*(n:Int)/\∀H',LH cl H' A n (Pr.put c (4*(t % (n:Int)).toNat+0) (2*(t / (n:Int))+0)) os bk gs ts ps Gq Tq tl (lt.wr (4*(t % (n:Int)).toNat+0) (2*(t / (n:Int))+0))->KpA A H H'->Q (.str "card") H'
abbrev b8u:Stmt:=top 97
theorem b5i:g7 ["taker","size","place"] ["taker"] (d8 b8u):=↑1
theorem d2s(D:DefT K mg "at_free" b8u ["taker"])(T:Txt K mg cl)(G_Board_write:qag P w K mg qb cl)(G_mark_cell:qal P w K mg qb)(G_place_of:qak P w K mg qb cl)(G_free_mark:FnT P w K mg qb "free_mark" 4 ["size","turn"] (b6s cl)):FnT P w K mg qb "at_free" 5 ["taker"] (b5f cl):=by
 refine D.fn b5i ↑5 ↑2
 ·fail "l"
 ·obtain⟨A,n,c,os,bk,gs,ts,ps,Gq,Tq,tl,lt,t,rfl,hL,he,t0,t1,k⟩:=h
  refine⟨_,(d5 (n6 (i:=1) b5i.nd rfl (.inl rfl) (a0c (K:=K) ↑4))
   (d5 (n6 (i:=2) b5i.nd rfl (.inl rfl) (k7 G_place_of hr ↑6 rfl i4 (a7 (pv 1) (a7 ↑4 d6))))
   (d5 (j9 (a1f ↑4 T.k_Board G_Board_write hr ↑6 i4 (a7 (k7 G_mark_cell hr ↑6 rfl i4 (a7 (pv 2) d6)) (a7 (k7 G_free_mark hr ↑6 rfl i4 (a7 (pv 1) (a7 ↑4 d6))) d6))))
   (d9 (j1 k0))))),?_⟩
  obtain⟨dxt,et⟩:=hL.tk;fail "c";have p0:=Int.emod_nonneg t (show(n:Int)≠0 by lia)
  have p1:=Int.emod_lt_of_pos t (show(0:Int)<n by lia)
  ext;rw[he];refine⟨n,t,rfl,a0j ↑3 ↑3 t0 t1 ?_⟩;ext;refine⟨_,rfl,?_⟩;ext;rw[he];refine⟨n,t,rfl,a0j ↑3 ↑3 t0 t1 ?_⟩;ext;refine⟨A.bd,A.l,n,_,many,last,_,_,rfl,hB,?_⟩;rw[if_pos ⟨by lia,by rw[hlen];lia⟩]
  intro tt H' ht kp ett hB';rw[show(4*(t % (n:Int))+0).toNat=4*(t % (n:Int)).toNat+0 by lia] at hB'
  obtain⟨z1,z2⟩:=hL.wrote (k:=4*(t % (n:Int)).toNat+0) ↑3 ht kp (by rw[ett];rw[show(4*(t % (n:Int))+0)=((4*(t % (n:Int)).toNat+0:Nat):Int) by lia]) hB' hLast.1
  ext;exact k H' z1 z2
def a4i(cl:Cl):Sp:=λvs H Q _=>ExL λA n c os bk gs ts ps Gq Tq tl lt=>∃(t:Int),vs=[.ref A.tk]/\LH cl H A n c os bk gs ts ps Gq Tq tl lt/\Q (.bl false) H
abbrev a5i:Stmt:=m9 (top 99) 10
theorem b7g:g7 ["self"] ["self"] (d8 a5i):=↑1
theorem b7k(D:DefM K cl.Taker "resting" "Taker.resting" a5i ["self"])(T:Txt K mg cl):MethT P w K mg qb cl.Taker "resting" 1 ["self"] (a4i cl):=by
 refine D.fn b7g ↑5 ↑2
 ·fail "l"
 ·obtain⟨A,n,c,os,bk,gs,ts,ps,Gq,Tq,tl,lt,t,rfl,hL,k⟩:=h
  refine⟨_,(d9 (j1 a9s)),?_⟩;obtain⟨dxt,et⟩:=hL.tk;fail "c";ext;exact k
def a1m(cl:Cl):Sp:=λvs H Q _=>ExL λA n c os bk gs ts ps Gq Tq tl lt=>∃(t:Int),vs=[.ref A.tk]/\LH cl H A n c os bk gs ts ps Gq Tq tl lt/\Tq.nf=.int t/\0<=t/\t<2*(n:Int)/\Q (.int ((t+(n:Int)) % (2*(n:Int)))) H
abbrev a2e:Stmt:=m9 (top 99) 8
theorem b0t:g7 ["self"] ["self"] (d8 a2e):=↑1
theorem b0v(D:DefM K cl.Taker "turn_served" "Taker.turn_served" a2e ["self"])(T:Txt K mg cl)(G_onward:qad P w K mg qb cl):MethT P w K mg qb cl.Taker "turn_served" 4 ["self"] (a1m cl):=by
 refine D.fn b0t ↑5 ↑2
 ·fail "l"
 ·obtain⟨A,n,c,os,bk,gs,ts,ps,Gq,Tq,tl,lt,t,rfl,hL,he,t0,t1,k⟩:=h
  refine⟨_,(d9 (j1 (k7 G_onward hr ↑6 rfl i4 (a7 (a0c (K:=K) ↑4) (a7 ↑4 (a7 (a0c (K:=K) ↑4) d6)))))),?_⟩;obtain⟨dxt,et⟩:=hL.tk;fail "c";ext;rw[he];exact⟨n,t,_,rfl,a0j ↑3 ↑3 t0 t1 k⟩
def a5t(K:Frag)(cl:Cl):Sp:=λvs H Q _=>ExL λA n c os bk gs ts ps Gq Tq tl lt=>∃(t:Int)(m:Addr)(ms:List Int)(f:Nat),vs=[.ref A.tk,.ref m]/\LH cl H A n c os bk gs ts ps Gq Tq tl lt/\H m=some (.lst (ms.map V.int))/\ms.length=n/\a2z ms=true/\a6e (toB (ms.map tbI))=some f/\∀H',LH cl H' A n c os bk gs ts ps Gq { Tq with he:=.int (f:Nat),nf:=.int (f:Nat) } tl lt->KpA A H H'->Q .non H'
abbrev a3m:Stmt:=m9 (top 99) 6
theorem b3y:g7 ["self","marks"] ["self","marks"] (d8 a3m):=↑1
theorem b4o(D:DefM K cl.Taker "know_turn" "Taker.know_turn" a3m ["self","marks"])(T:Txt K mg cl)(G_taker_turn:FnT P w K mg qb "taker_turn" 5 ["marks"] (b3h K cl)):MethT P w K mg qb cl.Taker "know_turn" 6 ["self","marks"] (a5t K cl):=by
 refine D.fn b3y ↑5 ↑2
 ·fail "l"
 ·obtain⟨A,n,c,os,bk,gs,ts,ps,Gq,Tq,tl,lt,t,m,ms,f,rfl,hL,em,lm,mo,fr,k⟩:=h
  refine⟨_,(d5 (m6 (K:=K) (pv 0) (k7 G_taker_turn hr ↑6 rfl i4 (a7 (pv 1) d6)))
   (d9 (m6 (K:=K) (pv 0) ↑4))),?_⟩
  obtain⟨dxt,et⟩:=hL.tk;fail "c";ext;refine⟨m,ms,rfl,SqL.of em,⟨_,em⟩,c7f ↑3 ↑3 mo (d0c fr λH1 s1=>?_)⟩;have z1:=hL.same s1;obtain⟨dxt2,et2⟩:=z1.tk;have z2:=z1.setT (dx:=dxt2) (T':={ Tq with he:=.int (f:Nat) })
  ext;exact k _ (z2.setT (dx:=dxt2) (T':={ Tq with he:=.int (f:Nat),nf:=.int (f:Nat) })) (((KpA.of s1).trans (KpA.upd (j:=3) (by lia))).trans (KpA.upd (j:=3) (by lia)))
def a6h(cl:Cl):Sp:=λvs H Q _=>ExL λA n c os bk gs ts ps Gq Tq tl lt=>∃(t:Int)(f:Int),vs=[.ref A.tk]/\LH cl H A n c os bk gs ts ps Gq Tq tl lt/\Tq.he=.int t/\Tq.nf=.int f/\0<=f/\f<2*(n:Int)/\∀H',(if f=t then LH cl H' A n c os bk gs ts ps Gq { Tq with he:=.int ((f+1) % (2*(n:Int))),nf:=.int ((f+1) % (2*(n:Int))) } tl lt else LH cl H' A n c os bk gs ts ps Gq { Tq with nf:=.int ((f+1) % (2*(n:Int))) } tl lt)->KpA A H H'->Q (.str (if f=t then "look" else "free")) H'
abbrev a7v:Stmt:=m9 (top 99) 9
theorem b1e:g7 ["self","all_freed"] ["self"] (d8 a7v):=↑1
theorem c0m(D:DefM K cl.Taker "go_on" "Taker.go_on" a7v ["self"])(T:Txt K mg cl)(G_onward:qad P w K mg qb cl):MethT P w K mg qb cl.Taker "go_on" 4 ["self"] (a6h cl):=by
 refine D.fn b1e ↑5 ↑2
 ·fail "l"
 ·obtain⟨A,n,c,os,bk,gs,ts,ps,Gq,Tq,tl,lt,t,f,rfl,hL,he,hf,t0,t1,k⟩:=h
  refine⟨_,(d5 (n6 (i:=1) b1e.nd rfl (.inl rfl) (a3t a8a ↑4 ↑4 (n9 _)))
   (d5 (m6 (K:=K) (pv 0) (k7 G_onward hr ↑6 rfl i4 (a7 (a0c (K:=K) ↑4) (a7 ↑4 (a7 i8 d6)))))
   (d5 (a0s (c0y (a8c (pv 1)))
     (d9 (j1 k0))
     v3)
   (d5 (m6 (K:=K) (pv 0) ↑4)
   (d9 (j1 k0)))))),?_⟩
  obtain⟨dxt,et⟩:=hL.tk;fail "c";ext;rw[hf,he];refine e8u rfl ?_;ext;rw[hf];refine⟨n,f,_,rfl,a0j ↑3 ↑3 t0 t1 ?_⟩;have z2:=hL.setT (dx:=dxt) (T':={ Tq with nf:=.int ((f+1) % (2*(n:Int))) })
  ext;rw[show decide (V.int f=V.int t)=decide (f=t) by simp]
  refine d9s (λy=>?_) (λy=>?_)
  ·ext
   have q:=k _ (by rw[if_neg y];exact z2) (KpA.upd (j:=3) ↑3)
   rw[if_neg y] at q;exact q
  ·ext
   have q:=k _ (by rw[if_pos y];exact z2.setT (dx:=dxt) (T':={ Tq with he:=.int ((f+1) % (2*(n:Int))),nf:=.int ((f+1) % (2*(n:Int))) })) ((KpA.upd (j:=3) (by lia)).trans (KpA.upd (j:=3) (by lia)))
   rw[if_pos y] at q;exact q
theorem LH.booked{cl:Cl}{H:Hp}{A:Ad}{n:Nat}{c:Pr.Cells}{os bk:List (List Int)}{gs ts ps:List Int}{Gq:Gm}{Tq:Tm}{tl:List Tr}{lt:Lt}{p dx:Addr}{bps:List Addr}(h:LH cl H A n c os bk gs ts ps Gq Tq tl lt)(hp:H p=none)(eb:H A.kk=some (.lst (bps.map V.ref))):
  LH cl (upd (upd (upd H A.kk (.lst (bps.map V.ref++[.ref A.pa]))) p (.lst [])) A.tk (tkO cl dx (A.setPa p) Tq)) (A.setPa p) n c os (bk++[ps]) gs ts [] Gq Tq tl lt:=by
 have offp:=h.off hp;have n63:A.kk≠A.tk:=h.nd 6 3 ↑3 ↑3 ↑3;have nkp:A.kk≠p:=(offp 6 ↑3).symm;have npt:p≠A.tk:=offp 3 ↑3;refine h.move (p:=p) (dx:=dx) (λx o e nx=>?_) hp ?_ d7 ?_ ?_
 ·have x1:x≠A.kk:=λz=>nx (by simp[z])
  have x2:x≠A.tk:=λz=>nx (by simp[z])
  rw[c7 x2,c7 (g9 e hp),c7 x1];exact e
 ·rw[c7 npt,d7]
 ·obtain⟨qs,e,l,r⟩:=h.book
  rw[eb] at e;have e:bps=qs:=by
   have:=HO.lst.inj (Option.some.inj e);exact List.map_inj_right (λ_ _ z=>V.ref.inj z) |>.mp this
  subst e;refine⟨bps++[A.pa],by rw[c7 n63,c7 nkp,d7,List.map_append];rfl,by rw[List.length_append,List.length_append,l];rfl,λi q o hq ho=>?_⟩
  have look:∀x o,H x=some o->x≠A.tk->x≠A.kk->upd (upd (upd H A.kk (.lst (bps.map V.ref++[.ref A.pa]))) p (.lst [])) A.tk (tkO cl dx (A.setPa p) Tq) x=some o:=λx o e x2 x1=>by
   rw[c7 x2,c7 (g9 e hp),c7 x1];exact e
  by_cases hi:i<bps.length
  ·rw[List.getElem?_append_left hi] at hq
   rw[List.getElem?_append_left ↑3] at ho;obtain⟨a,b⟩:=r i q o hq ho;refine⟨λj hj=>?_,look _ _ b (a 3 ↑3) (a 6 ↑3)⟩;by_cases e7:j=7
   ·subst e7;rw[Ad.setPa_7];exact g9 b hp
   ·rw[Ad.setPa_o e7];exact a j hj
  ·have hi':i=bps.length:=by
    have:=(List.getElem?_eq_some_iff.mp hq).1;rw[List.length_append] at this;have:i<bps.length+1:=this;lia
   subst hi';rw[List.getElem?_append_right (Nat.le_refl _),Nat.sub_self] at hq;rw[List.getElem?_append_right ↑3,l,Nat.sub_self] at ho;cases hq;cases ho;refine⟨λj hj=>?_,look _ _ h.pa (h.nd 7 3 ↑3 ↑3 ↑3) (h.nd 7 6 ↑3 ↑3 ↑3)⟩;by_cases e7:j=7
   ·subst e7;rw[Ad.setPa_7];exact g9 h.pa hp
   ·rw[Ad.setPa_o e7];exact h.nd 7 j ↑3 hj (Ne.symm e7)
 ·intro x hx xs z
  rw[c7 n63,c7 nkp,d7] at z;cases z;obtain⟨_,b,_,_,_,f,_⟩:=h.fo x hx;intro q;rcases List.mem_append.mp q with q|q
  ·exact f _ eb q
  ·exact b 7 ↑3 (V.ref.inj (List.mem_singleton.mp q))
theorem LH.dropped{cl:Cl}{H:Hp}{A:Ad}{n:Nat}{c:Pr.Cells}{os bk:List (List Int)}{gs ts ps:List Int}{Gq:Gm}{Tq:Tm}{tl:List Tr}{lt:Lt}{p dx:Addr}(h:LH cl H A n c os bk gs ts ps Gq Tq tl lt)(hp:H p=none):
  LH cl (upd (upd H p (.lst [])) A.tk (tkO cl dx (A.setPa p) Tq)) (A.setPa p) n c os bk gs ts [] Gq Tq tl lt:=by
 have offp:=h.off hp;have npt:p≠A.tk:=offp 3 ↑3;have look:∀x o,H x=some o->x≠A.tk->upd (upd H p (.lst [])) A.tk (tkO cl dx (A.setPa p) Tq) x=some o:=λx o e x2=>by
  rw[c7 x2,c7 (g9 e hp)];exact e
 refine h.move (p:=p) (dx:=dx) (λx o e nx=>look x o e λz=>nx (by simp[z])) hp ?_ d7 ?_ ?_
 ·rw[c7 npt,d7]
 ·obtain⟨qs,e,l,r⟩:=h.book
  refine⟨qs,look _ _ e (h.nd 6 3 ↑3 ↑3 ↑3),l,λi q o hq ho=>?_⟩;obtain⟨a,b⟩:=r i q o hq ho;refine⟨λj hj=>?_,look _ _ b (a 3 ↑3)⟩;by_cases e7:j=7
  ·subst e7;rw[Ad.setPa_7];exact g9 b hp
  ·rw[Ad.setPa_o e7];exact a j hj
 ·intro x hx xs z
  rw[c7 (h.nd 6 3 ↑3 ↑3 ↑3),c7 (Ne.symm (offp 6 ↑3))] at z;obtain⟨_,_,_,_,_,f,_⟩:=h.fo x hx;exact f xs z
def d6m(bk:List (List Int))(nu:Int)(o:List Int):List (List Int):=if nu=bk.length then bk++[o] else bk
def a5c(cl:Cl):Sp:=λvs H Q _=>ExL λA n c os bk gs ts ps Gq Tq tl lt=>vs=[.ref A.tk]/\LH cl H A n c os bk gs ts ps Gq Tq tl lt/\bk.length<=400/\∀p H',H p=none->LH cl H' (A.setPa p) n c os (d6m bk Tq.nu ps) gs ts [] Gq Tq tl lt->KpA A H H'->Q .non H'
abbrev a2q:Stmt:=m9 (top 99) 3
theorem b1o:g7 ["self"] ["self"] (d8 a2q):=↑1
theorem b2y(D:DefM K cl.Taker "book_order" "Taker.book_order" a2q ["self"])(T:Txt K mg cl):MethT P w K mg qb cl.Taker "book_order" 1 ["self"] (a5c cl):=by
 refine D.fn b1o ↑5 ↑2
 ·fail "l"
 ·obtain⟨A,n,c,os,bk,gs,ts,ps,Gq,Tq,tl,lt,rfl,hL,hb,k⟩:=h
  refine⟨_,(d5 (a0s (k8 a8a ↑4 (l7 (n5 (K:=K)) (by rfl) T.z_len PySem.boot_len (a7 ↑4 d6)) (n9 _))
     (d9 (j9 (a0o (K:=K) ↑4 (a7 ↑4 d6))))
     v3)
   (d9 (m6 (K:=K) (pv 0) (t7 d6)))),?_⟩
  have h20:2000<=sizeLine:=by decide
  obtain⟨dxt,et⟩:=hL.tk;obtain⟨bps,eb,lb,rb⟩:=id hL.book;have n63:A.tk≠A.kk:=hL.nd 3 6 ↑3 ↑3 ↑3;have npa:=hL.pa;ext;rw[List.length_map,lb];rw[show decide (V.int Tq.nu=V.int (bk.length:Int))=decide (Tq.nu=(bk.length:Int)) by simp]
  unfold d6m at k;refine a3b (λy=>?_) (λy=>?_)
  ·rw[if_pos y] at k
   ext;refine c4k eb (by rw[List.length_map,lb];lia) ?_
   have et2:upd H A.kk (.lst (bps.map V.ref++[.ref A.pa])) A.tk=some (tkO cl dxt A Tq):=(c7 n63).trans et;ext;refine⟨Nat.zero_le _,λp hp=>?_⟩;have hp0:H p=none:=by
    by_cases z:p=A.kk
    ·rw[z,d7] at hp;cases hp
    ·rw[c7 z] at hp;exact hp
   ext;exact k p _ hp0 (hL.booked (dx:=dxt) hp0 eb) (((KpA.upd (j:=6) ↑3).trans (KpA.of (i9 hp))).trans (KpA.upd (j:=3) ↑3))
  ·rw[if_neg y] at k
   ext;refine⟨Nat.zero_le _,λp hp=>?_⟩;ext;exact k p _ hp (hL.dropped (dx:=dxt) hp) ((KpA.of (i9 hp)).trans (KpA.upd (j:=3) ↑3))
def a1j(cl:Cl):Sp:=λvs H Q _=>ExL λA n c os bk gs ts ps Gq Tq tl lt=>∃(t:Int),vs=[.ref A.tk]/\LH cl H A n c os bk gs ts ps Gq Tq tl lt/\Tq.he=.int t/\0<=t/\t<2*(n:Int)/\bk.length<=400/\ps.length<=100 /\
 (
  if 0<Tq.le then ∀H',LH cl H' A n c os bk gs ts (ps++[c (4*(t % (n:Int)).toNat+3)]) Gq { Tq with he:=.int ((t+1) % (2*(n:Int))) } tl (lt.rd (4*(t % (n:Int)).toNat+3) (c (4*(t % (n:Int)).toNat+3)))->KpA A H H'->Q (.str "look") H'
  else ∀p H',H p=none->LH cl H' (A.setPa p) n c os (d6m bk Tq.nu (ps++[c (4*(t % (n:Int)).toNat+3)])) gs ts [] Gq Tq tl (lt.rd (4*(t % (n:Int)).toNat+3) (c (4*(t % (n:Int)).toNat+3)))->KpA A H H'->Q (.str "free") H')
abbrev a4l:Stmt:=top 95
theorem b5h:g7 ["taker"] ["taker"] (d8 a4l):=↑1
theorem b5z{fa:Addr}(D:DefV K fa "at_thing" a4l ["taker"])(T:Txt K mg cl)(G_Board_read:qaj P w K mg qb cl)(G_thing_cell:FnT P w K mg qb "thing_cell" 1 ["place"] (y9 3))(TP:qan P w K mg qb cl)(G_onward:qad P w K mg qb cl)(G_book_order:MethT P w K mg qb cl.Taker "book_order" 1 ["self"] (a5c cl)):FnV P w K mg qb fa 5 ["taker"] (a1j cl):=by
 refine D.fn b5h ↑5 ↑2
 ·fail "l"
 ·obtain⟨A,n,c,os,bk,gs,ts,ps,Gq,Tq,tl,lt,t,rfl,hL,he,t0,t1,hb,hps,k⟩:=h
  refine⟨_,(d5 (j9 (a0o (K:=K) ↑4 (a7 (a1f ↑4 T.k_Board G_Board_read hr ↑6 i4 (a7 (k7 G_thing_cell hr ↑6 rfl i4 (a7 (l9 (k:=4) (pv 0) hr ↑6 i4) d6)) d6)) d6)))
   (d5 (a0s (k8 c6b ↑4 i8 (n9 _))
     (
     d5 (m6 (K:=K) (pv 0) (k7 G_onward hr ↑6 rfl i4 (a7 (a0c (K:=K) ↑4) (a7 ↑4 (a7 i8 d6)))))
     (d9 (j1 k0)))
     v3)
   (d5 (j9 (l9 (k:=1) (pv 0) hr ↑6 i4))
   (d9 (j1 k0))))),?_⟩
  have h20:2000<=sizeLine:=by decide
  obtain⟨dxt,et⟩:=hL.tk;fail "c";have p0:=Int.emod_nonneg t (show(n:Int)≠0 by lia)
  have p1:=Int.emod_lt_of_pos t (show(0:Int)<n by lia)
  have epa:=hL.pa;fail "e";refine⟨A.tk,cl.Taker,dxt,_,_,_,rfl,et,rfl,T.k_Taker,TP,?_⟩;ext;refine⟨A,n,c,os,bk,gs,ts,ps,Gq,Tq,tl,lt,false,A.tk,t,rfl,.inr ⟨rfl,rfl⟩,hL,he,t0,t1,?_⟩;ext;fail "g";obtain⟨z1,z2⟩:=hL.wasRead ht kp ett hB' hLast.1 (4*(t % (n:Int)).toNat+3) ↑3 ↑3;rw[show(4*(t % (n:Int))+3).toNat=4*(t % (n:Int)).toNat+3 by lia,a0n c ↑3]
  ext;refine c4k z1.pa (by rw[List.length_map];lia) ?_
  rw[show(ps.map V.int++[V.int (c (4*(t % (n:Int)).toNat+3))])=(ps++[c (4*(t % (n:Int)).toNat+3)]).map V.int by rw[List.map_append];rfl]
  have z3:=z1.setPa (qs:=ps++[c (4*(t % (n:Int)).toNat+3)]);have k3:KpA A H _:=z2.trans (KpA.upd (A:=A) (j:=7) (o:=.lst ((ps++[c (4*(t % (n:Int)).toNat+3)]).map V.int)) ↑3);have pf:∀p,upd H' A.pa (.lst ((ps++[c (4*(t % (n:Int)).toNat+3)]).map V.int)) p=none->H p=none:=λp hp=>by
   cases e:H p with
   | none=>rfl
   | some o=>
    exfalso
    by_cases off:∀j,j<8->p≠A.o j
    ·have:=k3 p o e off
     rw[hp] at this;cases this
    ·apply off
     intro j hj q;obtain⟨u,hu⟩:=z3.has j hj;rw[<- q,hp] at hu;cases hu
  revert z3 k3 pf
  generalize upd H' A.pa (.lst ((ps++[c (4*(t % (n:Int)).toNat+3)]).map V.int))=H3;intro z3 k3 pf;obtain⟨dxt3,et3⟩:=z3.tk;obtain⟨many3,last3,hB3,hLast3⟩:=z3.brd;obtain⟨⟨dxb3,eb3⟩,el3,hlen3,_,_⟩:=id hB3;ext;refine a3b (λy=>?_) (λy=>?_)
  ·rw[if_pos y] at k
   ext;rw[he];refine⟨n,t,_,rfl,a0j ↑3 ↑3 t0 t1 ?_⟩;ext;exact k _ (z3.setT (dx:=dxt3) (T':={ Tq with he:=.int ((t+1) % (2*(n:Int))) })) (k3.trans (KpA.upd (j:=3) (by lia)))
  ·rw[if_neg y] at k
   fail "e";refine⟨A.tk,cl.Taker,dxt3,_,_,_,rfl,et3,rfl,T.k_Taker,G_book_order,?_⟩;ext;refine⟨A,n,c,os,bk,gs,ts,_,Gq,Tq,tl,_,rfl,z3,hb,λp H4 hp z4 k4=>?_⟩;ext;exact k p H4 (pf p hp) z4 (k3.trans k4)
abbrev Ad.setMg(A:Ad)(p:Addr):Ad:={ A with mg:=p }
abbrev Ad.setMt(A:Ad)(p:Addr):Ad:={ A with mt:=p }
theorem LH.setMg{cl:Cl}{H:Hp}{A:Ad}{n:Nat}{c:Pr.Cells}{os bk:List (List Int)}{gs ts ps:List Int}{Gq:Gm}{Tq:Tm}{tl:List Tr}{lt:Lt}{p dx:Addr}{xs:List Int}{G':Gm}(h:LH cl H A n c os bk gs ts ps Gq Tq tl lt)(ep:H p=some (.lst (xs.map V.int)))(off:∀j,j<8->p≠A.o j)(pf:¬ A.fo p):LH cl (upd H A.gv (gvO cl dx (A.setMg p) G')) (A.setMg p) n c os bk xs ts ps G' Tq tl lt:=by
 have ne:∀i,i<8->i≠2->A.o i≠A.gv:=λi h8 h2=>h.nd i 2 h8 ↑3 h2;obtain⟨m,l,hB,hL⟩:=h.brd;refine⟨⟨m,l,hB.keep (ps:=[A.gv]) (Kp.upd (by simp)) (by simpa using ne 0 ↑3 ↑3) (by simpa using ne 1 ↑3 ↑3),hL.kpa (KpA.upd (j:=2) ↑3)⟩,⟨dx,d7⟩,?_,?_,?_,h.kept.set (j:=2) ↑3 rfl (ne 5 ↑3 ↑3),h.book.set (j:=2) ↑3 rfl (ne 6 ↑3 ↑3),?_,?_,h.nd,λi hi=>⟨off i hi,(h.om i hi).2⟩,λx hx=>?_⟩
 ·obtain⟨d,z⟩:=h.tk;exact⟨d,by rw[c7 (ne 3 ↑3 ↑3)];exact z⟩
 ·rw[c7 (off 2 ↑3)];exact ep
 ·rw[c7 (h.om 2 ↑3).2];exact h.mt
 ·rw[c7 (ne 7 ↑3 ↑3)];exact h.pa
 ·exact h.tr.gen (A':=A.setMg p) (λo z=>by rw[c7 (ne 4 ↑3 ↑3)];exact z) λq o e n1 f=>⟨n1,f,by rw[c7 (n1 2 ↑3)];exact e⟩
 ·obtain⟨a,b,c1,d,e⟩:=h.fo.updO (u:=gvO cl dx (A.setMg p) G') h.nd 2 ↑3 ↑3 ↑3 ↑3 x hx
  exact⟨a,b,(λz=>pf (by have z2:x=p:=z;rw[<- z2];exact hx)),d,e⟩
theorem LH.setMt{cl:Cl}{H:Hp}{A:Ad}{n:Nat}{c:Pr.Cells}{os bk:List (List Int)}{gs ts ps:List Int}{Gq:Gm}{Tq:Tm}{tl:List Tr}{lt:Lt}{p dx:Addr}{xs:List Int}{T':Tm}(h:LH cl H A n c os bk gs ts ps Gq Tq tl lt)(ep:H p=some (.lst (xs.map V.int)))(off:∀j,j<8->p≠A.o j)(pf:¬ A.fo p):LH cl (upd H A.tk (tkO cl dx (A.setMt p) T')) (A.setMt p) n c os bk gs xs ps Gq T' tl lt:=by
 have ne:∀i,i<8->i≠3->A.o i≠A.tk:=λi h8 h2=>h.nd i 3 h8 ↑3 h2;obtain⟨m,l,hB,hL⟩:=h.brd;refine⟨⟨m,l,hB.keep (ps:=[A.tk]) (Kp.upd (by simp)) (by simpa using ne 0 ↑3 ↑3) (by simpa using ne 1 ↑3 ↑3),hL.kpa (KpA.upd (j:=3) ↑3)⟩,?_,⟨dx,d7⟩,?_,?_,h.kept.set (j:=3) ↑3 rfl (ne 5 ↑3 ↑3),h.book.set (j:=3) ↑3 rfl (ne 6 ↑3 ↑3),?_,?_,h.nd,λi hi=>⟨(h.om i hi).1,off i hi⟩,λx hx=>?_⟩
 ·obtain⟨d,z⟩:=h.gv;exact⟨d,by rw[c7 (ne 2 ↑3 ↑3)];exact z⟩
 ·rw[c7 (h.om 3 ↑3).1];exact h.mg
 ·rw[c7 (off 3 ↑3)];exact ep
 ·rw[c7 (ne 7 ↑3 ↑3)];exact h.pa
 ·exact h.tr.gen (A':=A.setMt p) (λo z=>by rw[c7 (ne 4 ↑3 ↑3)];exact z) λq o e n1 f=>⟨n1,f,by rw[c7 (n1 3 ↑3)];exact e⟩
 ·obtain⟨a,b,c1,d,e⟩:=h.fo.updO (u:=tkO cl dx (A.setMt p) T') h.nd 3 ↑3 ↑3 ↑3 ↑3 x hx
  exact⟨a,b,c1,(λz=>pf (by have z2:x=p:=z;rw[<- z2];exact hx)),e⟩
theorem LH.fresh{cl:Cl}{H:Hp}{A:Ad}{n:Nat}{c:Pr.Cells}{os bk:List (List Int)}{gs ts ps:List Int}{Gq:Gm}{Tq:Tm}{tl:List Tr}{lt:Lt}{H':Hp}(h:LH cl H' A n c os bk gs ts ps Gq Tq tl lt)(k:KpA A H H'){p:Addr}(hp:H' p=none):H p=none:=by
 cases e:H p with
 | none=>rfl
 | some o=>
  exfalso
  by_cases off:∀j,j<8->p≠A.o j
  ·have:=k p o e off
   rw[hp] at this;cases this
  ·apply off
   intro j hj q;obtain⟨u,hu⟩:=h.has j hj;rw[<- q,hp] at hu;cases hu
def a7l(cl:Cl):Sp:=λvs H Q _=>(ExL λA n c os bk gs ts ps Gq Tq tl lt=>vs=[.ref A.gv]/\LH cl H A n c os bk gs ts ps Gq Tq tl lt/\gs.length<n/\(if gs.length+1<n then ∀p H',H p=none->LH cl H' (A.setMg p) n c os bk (gs++[c (4*gs.length)]) ts ps Gq Tq tl (lt.rd (4*gs.length) (c (4*gs.length)))->KpA A H H'->Q (.str "marks") H' else ∃f:Nat,a2z (gs++[c (4*gs.length)])=true/\a6e (toB ((gs++[c (4*gs.length)]).map d8h))=some f/\∀p H',H p=none->LH cl H' (A.setMg p) n c os bk [] ts ps { Gq with he:=.int (f:Nat) } Tq tl (lt.rd (4*gs.length) (c (4*gs.length)))->KpA A H H'->Q (.str "told") H')) \/
 (ExL λA n c os bk gs ts ps Gq Tq tl lt=>vs=[.ref A.tk]/\LH cl H A n c os bk gs ts ps Gq Tq tl lt/\ts.length<n/\(if ts.length+1<n then ∀p H',H p=none->LH cl H' (A.setMt p) n c os bk gs (ts++[c (4*ts.length)]) ps Gq Tq tl (lt.rd (4*ts.length) (c (4*ts.length)))->KpA A H H'->Q (.str "marks") H' else ∃f:Nat,a2z (ts++[c (4*ts.length)])=true/\a6e (toB ((ts++[c (4*ts.length)]).map tbI))=some f/\∀p H',H p=none->LH cl H' (A.setMt p) n c os bk gs [] ps Gq { Tq with he:=.int (f:Nat),nf:=.int (f:Nat) } tl (lt.rd (4*ts.length) (c (4*ts.length)))->KpA A H H'->Q (.str "look") H'))
abbrev b5s:Stmt:=top 63
theorem b8g:g7 ["hand","marks"] ["hand"] (d8 b5s):=↑1
theorem c9d(D:DefT K mg "at_marks" b5s ["hand"])(T:Txt K mg cl)(G_Board_read:qaj P w K mg qb cl)(G_mark_cell:qal P w K mg qb)(GK:MethT P w K mg qb cl.Giver "know_turn" 6 ["self","marks"] (a5w K cl))(TK:MethT P w K mg qb cl.Taker "know_turn" 6 ["self","marks"] (a5t K cl)):FnT P w K mg qb "at_marks" 7 ["hand"] (a7l cl):=by
 refine D.fn b8g ↑5 ↑2
 ·rcases h with ⟨A,n,c,os,bk,gs,ts,ps,Gq,Tq,tl,lt,rfl,_⟩|⟨A,n,c,os,bk,gs,ts,ps,Gq,Tq,tl,lt,rfl,_⟩ <;> rfl
 ·have h20:2000<=sizeLine:=by decide
  refine⟨_,(d5 (n6 (i:=1) b8g.nd rfl (.inl rfl) (o8 d0t ↑4 (t7 (a7 (a1f ↑4 T.k_Board G_Board_read hr ↑6 i4 (a7 (k7 G_mark_cell hr ↑6 rfl i4 (a7 (l7 (n5 (K:=K)) (by rfl) T.z_len PySem.boot_len (a7 ↑4 d6)) d6)) d6)) d6))))
   (d5 (a0s (k8 b2w (l7 (n5 (K:=K)) (by rfl) T.z_len PySem.boot_len (a7 (pv 1) d6)) (a0c (K:=K) ↑4) (n9 _))
     (
     d5 (m6 (K:=K) (pv 0) (pv 1))
     (d9 (j1 k0)))
     v3)
   (d5 (j9 (b8z (k:=6) (pv 0) hr ↑6 i4 (a7 (pv 1) d6)))
   (d5 (m6 (K:=K) (pv 0) (t7 d6))
   (d9 (j1 ↑4)))))),?_⟩
  rcases h with h|h
  ·obtain⟨A,n,c,os,bk,gs,ts,ps,Gq,Tq,tl,lt,rfl,hL,hs,k⟩:=h
   obtain⟨dxg,eg⟩:=hL.gv;obtain⟨dxt,et⟩:=hL.tk;fail "c";have em:=hL.mg;ext;rw[List.length_map];fail "g";obtain⟨z1,z2⟩:=hL.wasRead ht kp ett hB' hLast.1 (4*gs.length) ↑3 ↑3;rw[show(4*(gs.length:Int)+0).toNat=4*gs.length by lia,a0n c ↑3]
   ext;refine⟨b2x,λq1 hq1=>?_⟩;refine d5s (i9 hq1 _ _ z1.mg) d7 (by rw[List.length_map];show gs.length+1<=sizeLine;lia) (λp hp=>?_)
   rw[show(gs.map V.int++[V.int (c (4*gs.length))])=(gs++[c (4*gs.length)]).map V.int by rw[List.map_append];rfl]
   have z3:=(z1.same (i9 (o:=.lst [.int (c (4*gs.length))]) hq1)).same (i9 (o:=.lst ((gs++[c (4*gs.length)]).map V.int)) hp);have k3:KpA A H _:=(z2.trans (KpA.of (i9 (o:=.lst [.int (c (4*gs.length))]) hq1))).trans (KpA.of (i9 (o:=.lst ((gs++[c (4*gs.length)]).map V.int)) hp));have hp0:H p=none:=z1.fresh z2 ((i9 hq1).free hp);have ep:upd (upd H' q1 (.lst [.int (c (4*gs.length))])) p (.lst ((gs++[c (4*gs.length)]).map V.int)) p=_:=d7;have offp:=hL.off hp0
   revert z3 k3 ep
   generalize upd (upd H' q1 (.lst [.int (c (4*gs.length))])) p (.lst ((gs++[c (4*gs.length)]).map V.int))=H3;intro z3 k3 ep;obtain⟨dxg3,eg3⟩:=z3.gv;obtain⟨dxt3,et3⟩:=z3.tk;obtain⟨many3,last3,hB3,hLast3⟩:=z3.brd;obtain⟨⟨dxb3,eb3⟩,el3,hlen3,_,_⟩:=id hB3;ext;rw[List.length_map,List.length_append,show([c (4*gs.length)]:List Int).length=1 from rfl];refine a3b (λy=>?_) (λy=>?_)
   ·rw[if_pos ↑3] at k
    ext;exact k p _ hp0 (z3.setMg (dx:=dxg3) (G':=Gq) ep offp (hL.nfo hp0)) (k3.trans (KpA.upd (j:=2) ↑3))
   ·rw[if_neg ↑3] at k
    obtain⟨f,mo,fr,k⟩:=k;fail "e";refine⟨A.gv,cl.Giver,dxg3,_,_,_,rfl,eg3,rfl,T.k_Giver,GK,?_⟩;ext;refine⟨A,n,c,os,bk,gs,ts,ps,Gq,Tq,tl,_,0,p,_,f,rfl,z3,ep,by rw[List.length_append];show gs.length+1=n;lia,mo,fr,λH4 z4 k4=>?_⟩
    obtain⟨dxg4,eg4⟩:=z4.gv;obtain⟨dxt4,et4⟩:=z4.tk;ext;refine⟨Nat.zero_le _,λp5 hp5=>?_⟩;have z5:=z4.same (i9 (o:=.lst []) hp5);have k5:KpA A H _:=(k3.trans k4).trans (KpA.of (i9 (o:=.lst []) hp5));have hp50:H p5=none:=z4.fresh (k3.trans k4) hp5;have z6:=z5.setMg (dx:=dxg4) (xs:=[]) (G':={ Gq with he:=.int (f:Nat) }) d7 (hL.off hp50) (hL.nfo hp50)
    ext;exact k p5 _ hp50 z6 (k5.trans (KpA.upd (j:=2) ↑3))
  ·obtain⟨A,n,c,os,bk,gs,ts,ps,Gq,Tq,tl,lt,rfl,hL,hs,k⟩:=h
   obtain⟨dxg,eg⟩:=hL.gv;obtain⟨dxt,et⟩:=hL.tk;fail "c";have em:=hL.mt;ext;rw[List.length_map];fail "g";obtain⟨z1,z2⟩:=hL.wasRead ht kp ett hB' hLast.1 (4*ts.length) ↑3 ↑3;rw[show(4*(ts.length:Int)+0).toNat=4*ts.length by lia,a0n c ↑3]
   ext;refine⟨b2x,λq1 hq1=>?_⟩;refine d5s (i9 hq1 _ _ z1.mt) d7 (by rw[List.length_map];show ts.length+1<=sizeLine;lia) (λp hp=>?_)
   rw[show(ts.map V.int++[V.int (c (4*ts.length))])=(ts++[c (4*ts.length)]).map V.int by rw[List.map_append];rfl]
   have z3:=(z1.same (i9 (o:=.lst [.int (c (4*ts.length))]) hq1)).same (i9 (o:=.lst ((ts++[c (4*ts.length)]).map V.int)) hp);have k3:KpA A H _:=(z2.trans (KpA.of (i9 (o:=.lst [.int (c (4*ts.length))]) hq1))).trans (KpA.of (i9 (o:=.lst ((ts++[c (4*ts.length)]).map V.int)) hp));have hp0:H p=none:=z1.fresh z2 ((i9 hq1).free hp);have ep:upd (upd H' q1 (.lst [.int (c (4*ts.length))])) p (.lst ((ts++[c (4*ts.length)]).map V.int)) p=_:=d7;have offp:=hL.off hp0
   revert z3 k3 ep
   generalize upd (upd H' q1 (.lst [.int (c (4*ts.length))])) p (.lst ((ts++[c (4*ts.length)]).map V.int))=H3;intro z3 k3 ep;obtain⟨dxg3,eg3⟩:=z3.gv;obtain⟨dxt3,et3⟩:=z3.tk;obtain⟨many3,last3,hB3,hLast3⟩:=z3.brd;obtain⟨⟨dxb3,eb3⟩,el3,hlen3,_,_⟩:=id hB3;ext;rw[List.length_map,List.length_append,show([c (4*ts.length)]:List Int).length=1 from rfl];refine a3b (λy=>?_) (λy=>?_)
   ·rw[if_pos ↑3] at k
    ext;exact k p _ hp0 (z3.setMt (dx:=dxt3) (T':=Tq) ep offp (hL.nfo hp0)) (k3.trans (KpA.upd (j:=3) ↑3))
   ·rw[if_neg ↑3] at k
    obtain⟨f,mo,fr,k⟩:=k;fail "e";refine⟨A.tk,cl.Taker,dxt3,_,_,_,rfl,et3,rfl,T.k_Taker,TK,?_⟩;ext;refine⟨A,n,c,os,bk,gs,ts,ps,Gq,Tq,tl,_,0,p,_,f,rfl,z3,ep,by rw[List.length_append];show ts.length+1=n;lia,mo,fr,λH4 z4 k4=>?_⟩
    obtain⟨dxg4,eg4⟩:=z4.gv;obtain⟨dxt4,et4⟩:=z4.tk;ext;refine⟨Nat.zero_le _,λp5 hp5=>?_⟩;have z5:=z4.same (i9 (o:=.lst []) hp5);have k5:KpA A H _:=(k3.trans k4).trans (KpA.of (i9 (o:=.lst []) hp5));have hp50:H p5=none:=z4.fresh (k3.trans k4) hp5;have z6:=z5.setMt (dx:=dxt4) (xs:=[]) (T':={ Tq with he:=.int (f:Nat),nf:=.int (f:Nat) }) d7 (hL.off hp50) (hL.nfo hp50)
    ext;exact k p5 _ hp50 z6 (k5.trans (KpA.upd (j:=3) ↑3))
def b0h(cl:Cl):Sp:=λvs H Q _=>(ExL λA n c os bk gs ts ps Gq Tq tl lt=>∃(t:Int),vs=[.ref A.gv]/\LH cl H A n c os bk gs ts ps Gq Tq tl lt/\Gq.he=.int t/\0<=t/\t<2*(n:Int)/\(b1a os Gq.nu Gq.le/\0<=a2k Gq.nu Gq.le/\a2k Gq.nu Gq.le<os.length)/\(if c (4*n+1)=t then ∀H',LH cl H' A n c os bk gs ts ps Gq Tq tl (lt.rd (4*n+1) (c (4*n+1)))->KpA A H H'->Q (.str "ring") H' else ∀H',LH cl H' A n c os bk gs ts ps { Gq with he:=.int ((t+1) % (2*(n:Int))),nu:=a2k Gq.nu Gq.le,le:=a8g os Gq.nu Gq.le } Tq tl (lt.rd (4*n+1) (c (4*n+1)))->KpA A H H'->Q (.str "look") H')) \/
 (ExL λA n c os bk gs ts ps Gq Tq tl lt=>∃(t f:Int),vs=[.ref A.tk]/\LH cl H A n c os bk gs ts ps Gq Tq tl lt/\Tq.he=.int t/\Tq.nf=.int f/\0<=f/\f<2*(n:Int)/\(if c (4*n+0)=(f+(n:Int)) % (2*(n:Int)) then ∀H',LH cl H' A n c os bk gs ts ps Gq Tq tl (lt.rd (4*n+0) (c (4*n+0)))->KpA A H H'->Q (.str "ring") H' else ∀H',(if f=t then LH cl H' A n c os bk gs ts ps Gq { Tq with he:=.int ((f+1) % (2*(n:Int))),nf:=.int ((f+1) % (2*(n:Int))) } tl (lt.rd (4*n+0) (c (4*n+0))) else LH cl H' A n c os bk gs ts ps Gq { Tq with nf:=.int ((f+1) % (2*(n:Int))) } tl (lt.rd (4*n+0) (c (4*n+0))))->KpA A H H'->Q (.str (if f=t then "look" else "free")) H'))
abbrev b8v:Stmt:=top 70
theorem c0x:g7 ["hand","card"] ["hand"] (d8 b8v):=↑1
theorem d2t(D:DefT K mg "at_card" b8v ["hand"])(T:Txt K mg cl)(G_Board_read:qaj P w K mg qb cl)(G_card_cell:qae P w K mg qb cl)(GS:MethT P w K mg qb cl.Giver "turn_served" 4 ["self"] (a1n cl))(TS:MethT P w K mg qb cl.Taker "turn_served" 4 ["self"] (a1m cl))(GG:MethT P w K mg qb cl.Giver "go_on" 4 ["self"] (a6i cl))(TG:MethT P w K mg qb cl.Taker "go_on" 4 ["self"] (a6h cl)):FnT P w K mg qb "at_card" 5 ["hand"] (b0h cl):=by
 refine D.fn c0x ↑5 ↑2
 ·rcases h with ⟨A,n,c,os,bk,gs,ts,ps,Gq,Tq,tl,lt,t,rfl,_⟩|⟨A,n,c,os,bk,gs,ts,ps,Gq,Tq,tl,lt,t,f,rfl,_⟩ <;> rfl
 ·skip
  refine⟨_,(d5 (n6 (i:=1) c0x.nd rfl (.inl rfl) (a1f ↑4 T.k_Board G_Board_read hr ↑6 i4 (a7 (k7 G_card_cell hr ↑6 rfl i4 (a7 (a0c (K:=K) ↑4) (a7 ↑4 d6))) d6)))
   (d9 (j1 (a6b (k8 a8a (pv 1) (l9 (k:=4) (pv 0) hr ↑6 i4) (n9 _)) k0 (l9 (k:=4) (pv 0) hr ↑6 i4))))),?_⟩
  rcases h with h|h
  ·obtain⟨A,n,c,os,bk,gs,ts,ps,Gq,Tq,tl,lt,t,rfl,hL,he,t0,t1,kn,k⟩:=h
   obtain⟨dxg,eg⟩:=hL.gv;obtain⟨dxt,et⟩:=hL.tk;fail "c";ext;refine⟨n,_,rfl,a9x n2 n8 (by first|exact .inl rfl|exact .inr rfl) ?_⟩
   ext;rw[hI1];refine⟨A.bd,A.l,n,_,many,last,_,rfl,hB,?_⟩;rw[if_pos ⟨by lia,by rw[hlen];lia⟩]
   intro tt H' ht kp ett hB';obtain⟨z1,z2⟩:=hL.wasRead ht kp ett hB' hLast.1 (4*n+1) ↑3 ↑3;obtain⟨dxg1,eg1⟩:=z1.gv;obtain⟨dxt1,et1⟩:=z1.tk;rw[show(4*(n:Int)+1).toNat=4*n+1 by lia,a0n c ↑3]
   fail "e";refine⟨A.gv,cl.Giver,dxg1,_,_,_,rfl,eg1,rfl,T.k_Giver,GS,?_⟩;ext;refine⟨A,n,c,os,bk,gs,ts,ps,Gq,Tq,tl,_,t,rfl,z1,he,t0,t1,?_⟩;ext;rw[show decide (V.int (c (4*n+1))=V.int t)=decide (c (4*n+1)=t) by simp]
   refine a3b (λy=>?_) (λy=>?_)
   ·rw[if_pos y] at k;ext;exact k H' z1 z2
   ·rw[if_neg y] at k
    fail "e";refine⟨A.gv,cl.Giver,dxg1,_,_,_,rfl,eg1,rfl,T.k_Giver,GG,?_⟩;ext;exact⟨A,n,c,os,bk,gs,ts,ps,Gq,Tq,tl,_,t,rfl,z1,he,t0,t1,kn,λH2 z3 k3=>k H2 z3 (z2.trans k3)⟩
  ·obtain⟨A,n,c,os,bk,gs,ts,ps,Gq,Tq,tl,lt,t,f,rfl,hL,he,hf,t0,t1,k⟩:=h
   obtain⟨dxg,eg⟩:=hL.gv;obtain⟨dxt,et⟩:=hL.tk;fail "c";ext;refine⟨n,_,rfl,a9x n2 n8 (by first|exact .inl rfl|exact .inr rfl) ?_⟩
   ext;rw[hI0];refine⟨A.bd,A.l,n,_,many,last,_,rfl,hB,?_⟩;rw[if_pos ⟨by lia,by rw[hlen];lia⟩]
   intro tt H' ht kp ett hB';obtain⟨z1,z2⟩:=hL.wasRead ht kp ett hB' hLast.1 (4*n+0) ↑3 ↑3;obtain⟨dxg1,eg1⟩:=z1.gv;obtain⟨dxt1,et1⟩:=z1.tk;rw[show(4*(n:Int)+0).toNat=4*n+0 by lia,a0n c ↑3]
   fail "e";refine⟨A.tk,cl.Taker,dxt1,_,_,_,rfl,et1,rfl,T.k_Taker,TS,?_⟩;ext;refine⟨A,n,c,os,bk,gs,ts,ps,Gq,Tq,tl,_,f,rfl,z1,hf,t0,t1,?_⟩;ext;rw[show decide (V.int (c (4*n+0))=V.int ((f+(n:Int)) % (2*(n:Int))))=decide (c (4*n+0)=(f+(n:Int)) % (2*(n:Int))) by simp]
   refine a3b (λy=>?_) (λy=>?_)
   ·rw[if_pos y] at k;ext;exact k H' z1 z2
   ·rw[if_neg y] at k
    fail "e";refine⟨A.tk,cl.Taker,dxt1,_,_,_,rfl,et1,rfl,T.k_Taker,TG,?_⟩;ext;exact⟨A,n,c,os,bk,gs,ts,ps,Gq,Tq,tl,_,t,f,rfl,z1,he,hf,t0,t1,λH2 z3 k3=>k H2 z3 (z2.trans k3)⟩
def b0d(cl:Cl):Sp:=λvs H Q _=>(ExL λA n c os bk gs ts ps Gq Tq tl lt=>∃(t:Int),vs=[.ref A.gv]/\LH cl H A n c os bk gs ts ps Gq Tq tl lt/\Gq.he=.int t/\0<=t/\t<2*(n:Int)/\(b1a os Gq.nu Gq.le/\0<=a2k Gq.nu Gq.le/\a2k Gq.nu Gq.le<os.length)/\∀H',LH cl H' A n (Pr.put c (4*n+b4w true) 1) os bk gs ts ps { Gq with he:=.int ((t+1) % (2*(n:Int))),nu:=a2k Gq.nu Gq.le,le:=a8g os Gq.nu Gq.le } Tq tl (lt.wr (4*n+b4w true) 1)->KpA A H H'->Q (.str "look") H') \/
 (ExL λA n c os bk gs ts ps Gq Tq tl lt=>∃(t f:Int),vs=[.ref A.tk]/\LH cl H A n c os bk gs ts ps Gq Tq tl lt/\Tq.he=.int t/\Tq.nf=.int f/\0<=f/\f<2*(n:Int)/\∀H',(if f=t then LH cl H' A n (Pr.put c (4*n+b4w false) 1) os bk gs ts ps Gq { Tq with he:=.int ((f+1) % (2*(n:Int))),nf:=.int ((f+1) % (2*(n:Int))) } tl (lt.wr (4*n+b4w false) 1) else LH cl H' A n (Pr.put c (4*n+b4w false) 1) os bk gs ts ps Gq { Tq with nf:=.int ((f+1) % (2*(n:Int))) } tl (lt.wr (4*n+b4w false) 1))->KpA A H H'->Q (.str (if f=t then "look" else "free")) H')
abbrev b8p:Stmt:=top 71
theorem d1z:g7 ["hand"] ["hand"] (d8 b8p):=↑1
theorem d2n(D:DefT K mg "at_ring" b8p ["hand"])(T:Txt K mg cl)(G_ring_other:FnT P w K mg qb "ring_other" 4 ["hand"] (a7h cl))(GS:MethT P w K mg qb cl.Giver "turn_served" 4 ["self"] (a1n cl))(TS:MethT P w K mg qb cl.Taker "turn_served" 4 ["self"] (a1m cl))(GG:MethT P w K mg qb cl.Giver "go_on" 4 ["self"] (a6i cl))(TG:MethT P w K mg qb cl.Taker "go_on" 4 ["self"] (a6h cl)):FnT P w K mg qb "at_ring" 5 ["hand"] (b0d cl):=by
 refine D.fn d1z ↑5 ↑2
 ·rcases h with ⟨A,n,c,os,bk,gs,ts,ps,Gq,Tq,tl,lt,t,rfl,_⟩|⟨A,n,c,os,bk,gs,ts,ps,Gq,Tq,tl,lt,t,f,rfl,_⟩ <;> rfl
 ·skip
  refine⟨_,(d5 (j9 (k7 G_ring_other hr ↑6 rfl i4 (a7 (pv 0) d6)))
   (d9 (j1 (l9 (k:=4) (pv 0) hr ↑6 i4)))),?_⟩
  rcases h with h|h
  ·obtain⟨A,n,c,os,bk,gs,ts,ps,Gq,Tq,tl,lt,t,rfl,hL,he,t0,t1,kn,k⟩:=h
   ext;refine⟨A,n,c,os,bk,gs,ts,ps,Gq,Tq,tl,lt,true,A.gv,rfl,.inl ⟨rfl,rfl⟩,hL,λH' z1 z2=>?_⟩;obtain⟨dxg1,eg1⟩:=z1.gv;fail "e";refine⟨A.gv,cl.Giver,dxg1,_,_,_,rfl,eg1,rfl,T.k_Giver,GG,?_⟩;ext;exact⟨A,n,_,os,bk,gs,ts,ps,Gq,Tq,tl,_,t,rfl,z1,he,t0,t1,kn,λH2 z3 k3=>k H2 z3 (z2.trans k3)⟩
  ·obtain⟨A,n,c,os,bk,gs,ts,ps,Gq,Tq,tl,lt,t,f,rfl,hL,he,hf,t0,t1,k⟩:=h
   ext;refine⟨A,n,c,os,bk,gs,ts,ps,Gq,Tq,tl,lt,false,A.tk,rfl,.inr ⟨rfl,rfl⟩,hL,λH' z1 z2=>?_⟩;obtain⟨dxt1,et1⟩:=z1.tk;fail "e";refine⟨A.tk,cl.Taker,dxt1,_,_,_,rfl,et1,rfl,T.k_Taker,TG,?_⟩;ext;exact⟨A,n,_,os,bk,gs,ts,ps,Gq,Tq,tl,_,t,f,rfl,z1,he,hf,t0,t1,λH2 z3 k3=>k H2 z3 (z2.trans k3)⟩
end
section
open PySem L2 Pr
section
variable{P:Program}{w:World}{K:Frag}{mg:Str->Option Value}{qb:Heap}{cl:Cl}
def b0s:Stg->Str
 | .rouse=>"rouse"|.clear=>"clear"|.mute=>"mute"|.marks=>"marks"|.told=>"told"|.lacks=>"lacks"|.look=>"look"|.wish=>"wish"|.again=>"again"|.sleep=>"sleep"|.hush=>"hush"|.unwish=>"unwish"
 | .number=>"number"|.left=>"left"|.thing=>"thing"|.mark=>"mark"|.card=>"card"|.ring=>"ring"|.free=>"free"
def gTx(x:Stg)(L:Ln):Tc :=
 match x with
 | .rouse=>⟨true,4*L.n+3,1⟩
 | .clear=>⟨true,4*L.n,-1⟩
 | .mute=>⟨true,4*L.n+2,0⟩
 | .marks=>⟨false,4*L.gseen.length,L.c (4*L.gseen.length)⟩
 | .told=>⟨false,4*((L.g+2*L.n-1) % L.n)+1,L.c (4*((L.g+2*L.n-1) % L.n)+1)⟩
 | .lacks=>⟨false,4*((L.g+2*L.n-1) % L.n)+2,L.c (4*((L.g+2*L.n-1) % L.n)+2)⟩
 | .look=>⟨false,4*(L.g % L.n),L.c (4*(L.g % L.n))⟩
 | .wish=>⟨true,4*L.n,((L.g % (2*L.n):Nat):Int)⟩
 | .again=>⟨false,4*(L.g % L.n),L.c (4*(L.g % L.n))⟩
 | .sleep=>⟨false,4*L.n+2,L.c (4*L.n+2)⟩
 | .hush=>⟨true,4*L.n+2,0⟩
 | .unwish=>⟨true,4*L.n,-1⟩
 | .number=>⟨true,4*(L.g % L.n)+1,(o9 L.os L.g:Int)⟩
 | .left=>⟨true,4*(L.g % L.n)+2,(t9 L.os L.g:Int)⟩
 | .thing=>⟨true,4*(L.g % L.n)+3,a0r L.os L.g⟩
 | .mark=>⟨true,4*(L.g % L.n),2*(lap L.n L.g:Int)+1⟩
 | .card=>⟨false,4*L.n+1,L.c (4*L.n+1)⟩
 | .ring=>⟨true,4*L.n+3,1⟩
 | .free=>⟨false,0,0⟩
def gT(L:Ln):Tc:=gTx L.gs L
def tTx(x:Stg)(L:Ln):Tc :=
 match x with
 | .rouse=>⟨true,4*L.n+2,1⟩
 | .clear=>⟨true,4*L.n+1,-1⟩
 | .mute=>⟨true,4*L.n+3,0⟩
 | .marks=>⟨false,4*L.tseen.length,L.c (4*L.tseen.length)⟩
 | .look=>⟨false,4*(L.t % L.n),L.c (4*(L.t % L.n))⟩
 | .wish=>⟨true,4*L.n+1,((L.t % (2*L.n):Nat):Int)⟩
 | .again=>⟨false,4*(L.t % L.n),L.c (4*(L.t % L.n))⟩
 | .sleep=>⟨false,4*L.n+3,L.c (4*L.n+3)⟩
 | .hush=>⟨true,4*L.n+3,0⟩
 | .unwish=>⟨true,4*L.n+1,-1⟩
 | .number=>⟨false,4*(L.t % L.n)+1,L.c (4*(L.t % L.n)+1)⟩
 | .left=>⟨false,4*(L.t % L.n)+2,L.c (4*(L.t % L.n)+2)⟩
 | .thing=>⟨false,4*(L.t % L.n)+3,L.c (4*(L.t % L.n)+3)⟩
 | .free=>⟨true,4*(L.f % L.n),2*(lap L.n L.f:Int)⟩
 | .card=>⟨false,4*L.n,L.c (4*L.n)⟩
 | .ring=>⟨true,4*L.n+2,1⟩
 | .told|.lacks|.mark=>⟨false,0,0⟩
def tT(L:Ln):Tc:=tTx L.ts L
def Stg.come:Stg->Bool
 | .rouse|.clear|.mute|.marks=>true
 | _=>false
def a0a(os:List (List Int)):Nat->Int
 | 0=>-1
 | i+1=>(o9 os i:Int)
def a0g(os:List (List Int)):Nat->Int
 | 0=>0
 | i+1=>(t9 os i:Int)
def gi(L:Ln):Nat:=if L.gs.frees then L.g-1 else L.g
structure GRel(L:Ln)(G:Gm):Prop where
 st:G.st=b0s L.gs
 he:Stg.come L.gs=false->G.he=.int ((gi L % (2*L.n):Nat):Int)
 nu:Stg.come L.gs=false->L.gs≠.told->G.nu=a0a L.os (gi L)
 le:Stg.come L.gs=false->L.gs≠.told->L.gs≠.lacks->G.le=a0g L.os (gi L)
structure TRel(L:Ln)(T:Tm)(ps:List Int):Prop where
 st:T.st=b0s L.ts
 he:Stg.come L.ts=false->T.he=.int ((L.t % (2*L.n):Nat):Int)
 nf:Stg.come L.ts=false->T.nf=.int (((if L.ts.frees then L.f-1 else L.f) % (2*L.n):Nat):Int)
 nu:L.ts=.left\/L.ts=.thing->T.nu=(o9 L.os L.t:Int)
 le:L.ts=.thing->T.le=(t9 L.os L.t:Int)
 pa:ps=if Stg.come L.ts=true\/L.ts=.free\/L.ts.frees=true then [] else a1c L.os L.f (L.t-L.f)
theorem a4g{os:List (List Int)}{i:Nat}:a8f (a0a os i) (a0g os i)=true ↔ i=0 \/ ∃j,i=j+1/\t9 os j=0:=by
 unfold a8f;cases i with
 | zero=>simp[a0a]
 | succ j=>
  have e1:a0a os (j+1)=(o9 os j:Int):=rfl;have e2:a0g os (j+1)=(t9 os j:Int):=rfl;rw[e1,e2,Bool.or_eq_true,decide_eq_true_eq,decide_eq_true_eq];constructor
  ·intro h
   rcases h with h|h
   ·exact absurd h ↑3
   ·exact .inr ⟨j,rfl,by lia⟩
  ·intro h
   rcases h with h|⟨j',h,z⟩
   ·exact absurd h ↑3
   ·have:j'=j:=by lia
    subst this;exact .inr ↑3
theorem b0l{n:Nat}{os:List (List Int)}{i:Nat}(hi:i<=tot os):b1a os (a0a os i) (a0g os i):=by
 by_cases z:a8f (a0a os i) (a0g os i)=true
 ·exact .inl z
 ·right
  cases i with
  | zero=>exact absurd (a4g.mpr (.inl rfl)) z
  | succ j=>
   have:=a8d (os:=os) (i:=j) ↑3;show 0<=(o9 os j:Int)/\(o9 os j:Int)<_;lia
theorem a5o{n:Nat}{os:List (List Int)}{i:Nat}(gd:Good n os)(hi:i<tot os):a2k (a0a os i) (a0g os i)=(o9 os i:Int):=by
 unfold a2k;cases i with
 | zero=>
  rw[a4g.mpr (.inl rfl),d4y gd hi]
  rfl
 | succ j=>
  by_cases z:t9 os j=0
  ·rw[a4g.mpr (.inr ⟨j,rfl,z⟩)]
   rw[(next_order gd hi z).1];show(o9 os j:Int)+1=_;lia
  ·have b:a8f (a0a os (j+1)) (a0g os (j+1))=false:=by
    cases e:a8f (a0a os (j+1)) (a0g os (j+1)) with
    | false=>rfl
    | true=>
     rcases a4g.mp e with y|⟨j',y,q⟩
     ·lia
     ·have:j'=j:=by lia
      subst this;exact absurd q z
   rw[b];rw[(next_part (os:=os) (i:=j) ↑3 ↑3).2.1]
   rfl
theorem d8b{n:Nat}{os:List (List Int)}(gd:Good n os):a2k (a0a os (tot os)) (a0g os (tot os))=(os.length:Int):=by
 unfold a2k;cases e:tot os with
 | zero=>
  have:os=[]:=by
   cases os with
   | nil=>rfl
   | cons o os=>rw[a9z] at e;have:=gd.head;lia
  subst this
  rfl
 | succ j=>
  have nl:=a8d (os:=os) (i:=j) ↑3;obtain⟨a,b⟩:=a3a (n:=0) (os:=os) (i:=j) ↑3;have c:=b0r os (o9 os j+1);have l0:t9 os j=0:=by lia
  rw[a4g.mpr (.inr ⟨j,rfl,l0⟩)];show(o9 os j:Int)+1=_;have:¬ o9 os j+1<os.length:=λz=>by
   have:=d1q gd z;have:=b0r os (o9 os j+1+1);lia
  lia
theorem c3b{os:List (List Int)}{i:Nat}(hi:i<tot os):∃o,os[o9 os i]?=some o/\os.getD (o9 os i) []=o/\beg os (o9 os i+1)=beg os (o9 os i)+o.length:=by
 have h:=a8d hi;refine⟨os[o9 os i],List.getElem?_eq_getElem h,by rw[List.getD_eq_getElem?_getD,List.getElem?_eq_getElem h];rfl,d1o (List.getElem?_eq_getElem h)⟩
theorem d0v{n:Nat}{os:List (List Int)}{i:Nat}(gd:Good n os)(hi:i<tot os):b0y os (a0a os i) (a0g os i)=((i-beg os (o9 os i):Nat):Int):=by
 unfold b0y;cases i with
 | zero=>
  rw[a4g.mpr (.inl rfl)];rw[if_pos rfl,Nat.zero_sub]
  rfl
 | succ j=>
  by_cases z:t9 os j=0
  ·rw[a4g.mpr (.inr ⟨j,rfl,z⟩),if_pos rfl,(next_order gd hi z).1,(next_order gd hi z).2,Nat.sub_self]
   rfl
  ·have b:a8f (a0a os (j+1)) (a0g os (j+1))=false:=by
    cases e:a8f (a0a os (j+1)) (a0g os (j+1)) with
    | false=>rfl
    | true=>
     rcases a4g.mp e with y|⟨j',y,q⟩
     ·lia
     ·have:j'=j:=by lia
      subst this;exact absurd q z
   rw[b];obtain⟨o,eo,eg,es⟩:=c3b (os:=os) (i:=j) ↑3;obtain⟨h1,h2⟩:=a3a (n:=0) (os:=os) (i:=j) ↑3;rw[(next_part (os:=os) (i:=j) ↑3 ↑3).2.1];show(if false=true then 0 else ((os.getD (o9 os j:Int).toNat []).length:Int)-(t9 os j:Int))=_;rw[if_neg ↑6,Int.toNat_natCast,eg];lia
theorem c4b{n:Nat}{os:List (List Int)}{i:Nat}(gd:Good n os)(hi:i<tot os):a8g os (a0a os i) (a0g os i)=(t9 os i:Int):=by
 unfold a8g;rw[a5o gd hi,d0v gd hi,Int.toNat_natCast];obtain⟨o,eo,eg,es⟩:=c3b hi;obtain⟨h1,h2⟩:=a3a (n:=0) hi;rw[eg];lia
theorem b9h{n:Nat}{os:List (List Int)}{i:Nat}(gd:Good n os)(hi:i<tot os):(os.getD (a2k (a0a os i) (a0g os i)).toNat []).getD (b0y os (a0a os i) (a0g os i)).toNat 0=a0r os i/\0<=b0y os (a0a os i) (a0g os i)/\b0y os (a0a os i) (a0g os i)<((os.getD (a2k (a0a os i) (a0g os i)).toNat []).length:Int):=by
 rw[a5o gd hi,d0v gd hi,Int.toNat_natCast,Int.toNat_natCast];obtain⟨o,eo,eg,es⟩:=c3b hi;obtain⟨h1,h2⟩:=a3a (n:=0) hi;rw[eg];refine⟨?_,by lia,by lia⟩
 rw[<- c4u eo (i-beg os (o9 os i)) ↑3,show beg os (o9 os i)+(i-beg os (o9 os i))=i by lia]
theorem d3d{n:Nat}{os:List (List Int)}{i:Nat}(gd:Good n os)(hi:i<=tot os):b6i os (a0a os i) (a0g os i)=decide (i<tot os):=by
 unfold b6i;by_cases z:i<tot os
 ·obtain⟨_,p0,p1⟩:=b9h gd z
  have o:=a5o gd z;have:=a8d z;rw[decide_eq_true z,decide_eq_true (show 0<=a2k (a0a os i) (a0g os i)/\a2k (a0a os i) (a0g os i)<(os.length:Int) by lia),decide_eq_true ⟨p0,p1⟩]
  rfl
 ·have e:i=tot os:=by lia
  subst e;rw[decide_eq_false z,d8b gd,decide_eq_false ↑3,Bool.false_and]
theorem a9y{n i:Nat}:(((i % (2*n):Nat):Int) / (n:Int))=(lap n i:Int):=by
 rw[<- d0a n i]
 push_cast
 rfl
theorem a0b{n i:Nat}:((((i % (2*n):Nat):Int) % (n:Int))).toNat=i % n:=by
 rw[<- Int.natCast_emod,Int.toNat_natCast,c0u]
theorem a4h{n i:Nat}(hn:0<n):(0:Int)<=((i % (2*n):Nat):Int)/\((i % (2*n):Nat):Int)<2*(n:Int):=by
 have:=c8a (i:=i) hn;lia
theorem a4z{n i:Nat}:((((i % (2*n):Nat):Int)+1) % (2*(n:Int)))=(((i+1) % (2*n):Nat):Int):=by
 push_cast
 rw[Int.emod_add_emod]
theorem d3m{n i:Nat}:((((i % (2*n):Nat):Int)+(n:Int)) % (2*(n:Int)))=(((i+n) % (2*n):Nat):Int):=by
 push_cast
 rw[Int.emod_add_emod]
theorem c0v{n i:Nat}(hn:0<n):(ahd n ((i % (2*n):Nat):Int)).toNat=(i+2*n-1) % n:=by
 unfold ahd;have e1:(((i % (2*n):Nat):Int) + -1) % (2*(n:Int))=(((i+2*n-1) % (2*n):Nat):Int):=by
  have:((i+2*n-1:Nat):Int)=(i:Int) + -1+2*(n:Int):=by lia
  push_cast
  rw[Int.emod_add_emod,this,Int.add_emod_right]
 rw[e1,a0b]
section
variable{H:Hp}{A:Ad}{L:Ln}{ps:List Int}{Gq:Gm}{Tq:Tm}{tl:List Tr}{lt:Lt}{Q:VK}{E:XK}
def a7f(cl:Cl)(H:Hp)(A:Ad)(L L':Ln)(ps:List Int)(Tq:Tm)(tl:List Tr)(lt:Lt)(Q:VK):Prop:=∀H' A' Gq',LH cl H' A' L.n L'.c L.os L.bk L'.gseen L.tseen ps Gq' Tq tl lt->GRel L' { Gq' with st:=b0s L'.gs }->KpA A H H'->Nx A A' H->Q (.str (b0s L'.gs)) H'
theorem d8m{x:Stg}(e:L.gs=x)(h:x.frees=false):gi L=L.g:=by unfold gi;rw[e,h];rfl
theorem e4v{x:Stg}(e:L.gs=x)(h:x.frees=true):gi L=L.g-1:=by unfold gi;rw[e,h];rfl
theorem d8r(hL:↑7)(ok:Ok L)(hg:GRel L Gq)(e:L.gs=.rouse)(k:a7f cl H A L (gstep L) ps Tq tl (lt.tch (gT L)) Q):a7k cl [.ref A.gv] H Q E:=by
 rw[show gT L=gTx .rouse L from congrArg (gTx · L) e] at k
 have es:gstep L={ L.put (4*L.n+3) (1) with gs:=.clear }:=by unfold gstep;rw[e]
 rw[es] at k;refine⟨A,L.n,L.c,L.os,L.bk,L.gseen,L.tseen,ps,Gq,Tq,tl,lt,true,A.gv,rfl,.inl ⟨rfl,rfl⟩,hL,λH' z kz=>?_⟩;exact k H' A Gq z ⟨rfl,λy=>(nomatch (show true=false from y)),λy=>(nomatch (show true=false from y)),λy=>(nomatch (show true=false from y))⟩ kz (Nx.refl A H)
theorem d8u(hL:↑7)(ok:Ok L)(hg:GRel L Gq)(e:L.gs=.clear)(k:a7f cl H A L (gstep L) ps Tq tl (lt.tch (gT L)) Q):a7m cl [.ref A.gv] H Q E:=by
 rw[show gT L=gTx .clear L from congrArg (gTx · L) e] at k
 have es:gstep L={ L.put (4*L.n) (-1) with gs:=.mute }:=by unfold gstep;rw[e]
 rw[es] at k;refine⟨A,L.n,L.c,L.os,L.bk,L.gseen,L.tseen,ps,Gq,Tq,tl,lt,true,A.gv,rfl,.inl ⟨rfl,rfl⟩,hL,λH' z kz=>?_⟩;exact k H' A Gq z ⟨rfl,λy=>(nomatch (show true=false from y)),λy=>(nomatch (show true=false from y)),λy=>(nomatch (show true=false from y))⟩ kz (Nx.refl A H)
theorem e1w(hL:↑7)(ok:Ok L)(hg:GRel L Gq)(e:L.gs=.mute)(k:a7f cl H A L (gstep L) ps Tq tl (lt.tch (gT L)) Q):b0e cl [.ref A.gv] H Q E:=by
 rw[show gT L=gTx .mute L from congrArg (gTx · L) e] at k
 have es:gstep L={ L.put (4*L.n+2) (0) with gs:=.marks }:=by unfold gstep;rw[e]
 rw[es] at k;refine⟨A,L.n,L.c,L.os,L.bk,L.gseen,L.tseen,ps,Gq,Tq,tl,lt,true,A.gv,rfl,.inl ⟨rfl,rfl⟩,hL,λH' z kz=>?_⟩;exact k H' A Gq z ⟨rfl,λy=>(nomatch (show true=false from y)),λy=>(nomatch (show true=false from y)),λy=>(nomatch (show true=false from y))⟩ kz (Nx.refl A H)
theorem e2a(hL:↑7)(ok:Ok L)(hg:GRel L Gq)(e:L.gs=.hush)(k:a7f cl H A L (gstep L) ps Tq tl (lt.tch (gT L)) Q):b0g cl [.ref A.gv] H Q E:=by
 rw[show gT L=gTx .hush L from congrArg (gTx · L) e] at k
 fail "b";have es:gstep L={ L.put (4*L.n+2) (0) with gs:=.unwish }:=by unfold gstep;rw[e]
 rw[es] at k;refine⟨A,L.n,L.c,L.os,L.bk,L.gseen,L.tseen,ps,Gq,Tq,tl,lt,true,A.gv,rfl,.inl ⟨rfl,rfl⟩,hL,λH' z kz=>?_⟩;exact k H' A Gq z ⟨rfl,λ_=>he0,λ_ _=>nu0,λ_ _ _=>le0⟩ kz (Nx.refl A H)
theorem d5n(hL:↑7)(ok:Ok L)(hg:GRel L Gq)(e:L.gs=.unwish)(k:a7f cl H A L (gstep L) ps Tq tl (lt.tch (gT L)) Q):a5s cl [.ref A.gv] H Q E:=by
 rw[show gT L=gTx .unwish L from congrArg (gTx · L) e] at k
 fail "b";have es:gstep L={ L.put (4*L.n) (-1) with gs:=.look }:=by unfold gstep;rw[e]
 rw[es] at k;refine⟨A,L.n,L.c,L.os,L.bk,L.gseen,L.tseen,ps,Gq,Tq,tl,lt,true,A.gv,rfl,.inl ⟨rfl,rfl⟩,hL,λH' z kz=>?_⟩;exact k H' A Gq z ⟨rfl,λ_=>he0,λ_ _=>nu0,λ_ _ _=>le0⟩ kz (Nx.refl A H)
theorem d8q(hL:↑7)(ok:Ok L)(hg:GRel L Gq)(e:L.gs=.sleep)(k:a7f cl H A L (gstep L) ps Tq tl (lt.tch (gT L)) Q):a7j cl [.ref A.gv] H Q E:=by
 rw[show gT L=gTx .sleep L from congrArg (gTx · L) e] at k
 fail "b";refine⟨A,L.n,L.c,L.os,L.bk,L.gseen,L.tseen,ps,Gq,Tq,tl,lt,true,A.gv,rfl,.inl ⟨rfl,rfl⟩,hL,λH' z kz=>?_⟩;by_cases y:L.c (4*L.n+2)=0
 ·have es:gstep L=L:=by unfold gstep;rw[e];exact if_pos y
  rw[es] at k;have q:=k H' A Gq z (by rw[e];exact⟨by rw[e],λ_=>by rw[g0];exact he0,λ_ _=>by rw[g0];exact nu0,λ_ _ _=>by rw[g0];exact le0⟩) kz (Nx.refl A H)
  rw[e] at q;rw[show(if L.c (4*L.n+a2m true)=0 then ("sleep":Str) else "hush")="sleep" from if_pos y];exact q
 ·have es:gstep L={ L with gs:=.hush }:=by unfold gstep;rw[e];exact if_neg y
  rw[es] at k;rw[show(if L.c (4*L.n+a2m true)=0 then ("sleep":Str) else "hush")="hush" from if_neg y];exact k H' A Gq z ⟨rfl,λ_=>he0,λ_ _=>nu0,λ_ _ _=>le0⟩ kz (Nx.refl A H)
theorem e1y(hL:↑7)(ok:Ok L)(hg:GRel L Gq)(e:L.gs=.look)(hp:L.g<tot L.os)(k:a7f cl H A L (gstep L) ps Tq tl (lt.tch (gT L)) Q):b0f cl [.ref A.gv] H Q E:=by
 rw[show gT L=gTx .look L from congrArg (gTx · L) e] at k
 fail "b";have w0:L.c (4*((((L.g % (2*L.n):Nat):Int) % (L.n:Int))).toNat)=a3x true L.n ((L.g % (2*L.n):Nat):Int) ↔ L.c (4*(L.g % L.n))=2*(1-(lap L.n L.g:Int)):=by
  rw[a0b];unfold a3x;rw[if_pos rfl,a9y,Int.add_zero]
 refine⟨A,L.n,L.c,L.os,L.bk,L.gseen,L.tseen,ps,Gq,Tq,tl,lt,true,A.gv,_,rfl,.inl ⟨rfl,rfl⟩,hL,he0,tn.1,tn.2,λH' z kz=>?_⟩;rw[a0b] at z;by_cases y:L.c (4*(L.g % L.n))=2*(1-(lap L.n L.g:Int))
 ·have es:gstep L={ L with gs:=.number }:=by unfold gstep;rw[e];show(if L.g<tot L.os then _ else _)=_;rw[if_pos hp];exact if_pos y
  rw[es] at k;rw[if_pos (w0.mpr y)];exact k H' A Gq z ⟨rfl,λ_=>he0,λ_ _=>nu0,λ_ _ _=>le0⟩ kz (Nx.refl A H)
 ·have es:gstep L={ L with gs:=.wish }:=by unfold gstep;rw[e];show(if L.g<tot L.os then _ else _)=_;rw[if_pos hp];exact if_neg y
  rw[es] at k;rw[if_neg λz=>y (w0.mp z)];exact k H' A Gq z ⟨rfl,λ_=>he0,λ_ _=>nu0,λ_ _ _=>le0⟩ kz (Nx.refl A H)
theorem d8v(hL:↑7)(ok:Ok L)(hg:GRel L Gq)(e:L.gs=.again)(k:a7f cl H A L (gstep L) ps Tq tl (lt.tch (gT L)) Q):a7n cl [.ref A.gv] H Q E:=by
 rw[show gT L=gTx .again L from congrArg (gTx · L) e] at k
 fail "b";have w0:L.c (4*((((L.g % (2*L.n):Nat):Int) % (L.n:Int))).toNat)=a3x true L.n ((L.g % (2*L.n):Nat):Int) ↔ L.c (4*(L.g % L.n))=2*(1-(lap L.n L.g:Int)):=by
  rw[a0b];unfold a3x;rw[if_pos rfl,a9y,Int.add_zero]
 refine⟨A,L.n,L.c,L.os,L.bk,L.gseen,L.tseen,ps,Gq,Tq,tl,lt,true,A.gv,_,rfl,.inl ⟨rfl,rfl⟩,hL,he0,tn.1,tn.2,λH' z kz=>?_⟩;rw[a0b] at z;by_cases y:L.c (4*(L.g % L.n))=2*(1-(lap L.n L.g:Int))
 ·have es:gstep L={ L with gs:=.unwish }:=by unfold gstep;rw[e];exact if_pos y
  rw[es] at k;rw[if_pos (w0.mpr y)];exact k H' A Gq z ⟨rfl,λ_=>he0,λ_ _=>nu0,λ_ _ _=>le0⟩ kz (Nx.refl A H)
 ·have es:gstep L={ L with gs:=.sleep }:=by unfold gstep;rw[e];exact if_neg y
  rw[es] at k;rw[if_neg λz=>y (w0.mp z)];exact k H' A Gq z ⟨rfl,λ_=>he0,λ_ _=>nu0,λ_ _ _=>le0⟩ kz (Nx.refl A H)
theorem e1t(hL:↑7)(ok:Ok L)(hg:GRel L Gq)(e:L.gs=.wish)(k:a7f cl H A L (gstep L) ps Tq tl (lt.tch (gT L)) Q):b0c cl [.ref A.gv] H Q E:=by
 rw[show gT L=gTx .wish L from congrArg (gTx · L) e] at k
 fail "b";have es:gstep L={ L.put (4*L.n) ((L.g % (2*L.n):Nat):Int) with gs:=.again }:=by unfold gstep;rw[e]
 rw[es] at k;refine⟨A,L.n,L.c,L.os,L.bk,L.gseen,L.tseen,ps,Gq,Tq,tl,lt,true,A.gv,_,rfl,.inl ⟨rfl,rfl⟩,hL,he0,tn.1,tn.2,λH' z kz=>?_⟩;exact k H' A Gq z ⟨rfl,λ_=>he0,λ_ _=>nu0,λ_ _ _=>le0⟩ kz (Nx.refl A H)
theorem e1u(hL:↑7)(ok:Ok L)(hg:GRel L Gq)(e:L.gs=.told)(k:a7f cl H A L (gstep L) ps Tq tl (lt.tch (gT L)) Q):b5d cl [.ref A.gv] H Q E:=by
 rw[show gT L=gTx .told L from congrArg (gTx · L) e] at k
 have hn:0<L.n:=ok.hn;have g0:gi L=L.g:=d8m e ↑6;have he0:Gq.he=.int ((L.g % (2*L.n):Nat):Int):=by rw[<- g0];exact hg.he (by rw[e];decide)
 have tn:=a4h (i:=L.g) hn;have c0:=ok.core;have ea:=c0v (i:=L.g) hn;have sa:L.c (4*((L.g+2*L.n-1) % L.n)+1)=a0a L.os L.g/\L.c (4*((L.g+2*L.n-1) % L.n)+2)=a0g L.os L.g:=by
  have n2:=c0.n2;cases hG:L.g with
  | zero=>
   have z:=c0.slip0 hG;have e1:(0+2*L.n-1) % L.n=L.n-1:=by
    rw[show 0+2*L.n-1=(L.n-1)+L.n by lia,Nat.add_mod_right,Nat.mod_eq_of_lt ↑3]
   rw[e1];exact z
  | succ j=>
   have z:=c0.slip j ↑3 (.inl ↑3);have e1:(j+1+2*L.n-1) % L.n=j % L.n:=by
    rw[show j+1+2*L.n-1=j+L.n+L.n by lia,Nat.add_mod_right,Nat.add_mod_right]
   rw[e1];exact⟨z.1,z.2.1⟩
 have es:gstep L={ L with gs:=.lacks }:=by unfold gstep;rw[e]
 rw[es] at k;refine⟨A,L.n,L.c,L.os,L.bk,L.gseen,L.tseen,ps,Gq,Tq,tl,lt,_,rfl,hL,he0,tn.1,tn.2,λH' z kz=>?_⟩;rw[ea] at z;exact k H' A _ z ⟨rfl,λ_=>he0,λ_ _=>sa.1,λ_ _ y=>absurd rfl y⟩ kz (Nx.refl A H)
theorem d8t(hL:↑7)(ok:Ok L)(hg:GRel L Gq)(e:L.gs=.lacks)(k:a7f cl H A L (gstep L) ps Tq tl (lt.tch (gT L)) Q):b1m cl [.ref A.gv] H Q E:=by
 rw[show gT L=gTx .lacks L from congrArg (gTx · L) e] at k
 have hn:0<L.n:=ok.hn;have g0:gi L=L.g:=d8m e ↑6;have he0:Gq.he=.int ((L.g % (2*L.n):Nat):Int):=by rw[<- g0];exact hg.he (by rw[e];decide)
 have tn:=a4h (i:=L.g) hn;have c0:=ok.core;have ea:=c0v (i:=L.g) hn;have sa:L.c (4*((L.g+2*L.n-1) % L.n)+1)=a0a L.os L.g/\L.c (4*((L.g+2*L.n-1) % L.n)+2)=a0g L.os L.g:=by
  have n2:=c0.n2;cases hG:L.g with
  | zero=>
   have z:=c0.slip0 hG;have e1:(0+2*L.n-1) % L.n=L.n-1:=by
    rw[show 0+2*L.n-1=(L.n-1)+L.n by lia,Nat.add_mod_right,Nat.mod_eq_of_lt ↑3]
   rw[e1];exact z
  | succ j=>
   have z:=c0.slip j ↑3 (.inl ↑3);have e1:(j+1+2*L.n-1) % L.n=j % L.n:=by
    rw[show j+1+2*L.n-1=j+L.n+L.n by lia,Nat.add_mod_right,Nat.add_mod_right]
   rw[e1];exact⟨z.1,z.2.1⟩
 have nu0:Gq.nu=a0a L.os L.g:=by rw[<- g0];exact hg.nu (by rw[e];decide) (by rw[e];decide)
 have es:gstep L={ L with gs:=.look }:=by unfold gstep;rw[e]
 rw[es] at k;refine⟨A,L.n,L.c,L.os,L.bk,L.gseen,L.tseen,ps,Gq,Tq,tl,lt,_,rfl,hL,he0,tn.1,tn.2,λH' z kz=>?_⟩;rw[ea] at z;exact k H' A _ z ⟨rfl,λ_=>he0,λ_ _=>nu0,λ_ _ _=>sa.2⟩ kz (Nx.refl A H)
theorem d5o(hL:↑7)(ok:Ok L)(hg:GRel L Gq)(e:L.gs=.number)(k:a7f cl H A L (gstep L) ps Tq tl (lt.tch (gT L)) Q):a0y cl [.ref A.gv] H Q E:=by
 rw[show gT L=gTx .number L from congrArg (gTx · L) e] at k
 fail "b";have gd:=ok.core.good;have rm:=ok.gv.room (by rw[e];rfl)
 have kn:b1a L.os Gq.nu Gq.le/\0<=a2k Gq.nu Gq.le/\a2k Gq.nu Gq.le<L.os.length:=by
  rw[nu0,le0];have:=a5o gd rm.1;have:=a8d rm.1;exact⟨b0l (n:=L.n) ↑3,by lia,by lia⟩
 have es:gstep L={ L.put (4*(L.g % L.n)+1) ((o9 L.os L.g:Int)) with gs:=.left }:=by unfold gstep;rw[e]
 rw[es] at k;refine⟨A,L.n,L.c,L.os,L.bk,L.gseen,L.tseen,ps,Gq,Tq,tl,lt,_,rfl,hL,he0,tn.1,tn.2,λH' z kz=>?_⟩;rw[a0b,nu0,le0,a5o gd rm.1] at z;exact k H' A Gq z ⟨rfl,λ_=>he0,λ_ _=>nu0,λ_ _ _=>le0⟩ kz (Nx.refl A H)
theorem e1z(hL:↑7)(ok:Ok L)(hg:GRel L Gq)(e:L.gs=.left)(k:a7f cl H A L (gstep L) ps Tq tl (lt.tch (gT L)) Q):a1x cl [.ref A.gv] H Q E:=by
 rw[show gT L=gTx .left L from congrArg (gTx · L) e] at k
 fail "b";have gd:=ok.core.good;have rm:=ok.gv.room (by rw[e];rfl)
 have kn:b1a L.os Gq.nu Gq.le/\0<=a2k Gq.nu Gq.le/\a2k Gq.nu Gq.le<L.os.length:=by
  rw[nu0,le0];have:=a5o gd rm.1;have:=a8d rm.1;exact⟨b0l (n:=L.n) ↑3,by lia,by lia⟩
 have es:gstep L={ L.put (4*(L.g % L.n)+2) ((t9 L.os L.g:Int)) with gs:=.thing }:=by unfold gstep;rw[e]
 rw[es] at k;refine⟨A,L.n,L.c,L.os,L.bk,L.gseen,L.tseen,ps,Gq,Tq,tl,lt,_,rfl,hL,he0,tn.1,tn.2,kn,λH' z kz=>?_⟩;rw[a0b,nu0,le0,c4b gd rm.1] at z;exact k H' A Gq z ⟨rfl,λ_=>he0,λ_ _=>nu0,λ_ _ _=>le0⟩ kz (Nx.refl A H)
theorem d8p(hL:↑7)(ok:Ok L)(hg:GRel L Gq)(e:L.gs=.thing)(k:a7f cl H A L (gstep L) ps Tq tl (lt.tch (gT L)) Q):a1k cl [.ref A.gv] H Q E:=by
 rw[show gT L=gTx .thing L from congrArg (gTx · L) e] at k
 fail "b";have gd:=ok.core.good;have rm:=ok.gv.room (by rw[e];rfl)
 have kn:b1a L.os Gq.nu Gq.le/\0<=a2k Gq.nu Gq.le/\a2k Gq.nu Gq.le<L.os.length:=by
  rw[nu0,le0];have:=a5o gd rm.1;have:=a8d rm.1;exact⟨b0l (n:=L.n) ↑3,by lia,by lia⟩
 have th:0<=b0y L.os Gq.nu Gq.le/\b0y L.os Gq.nu Gq.le<((L.os.getD (a2k Gq.nu Gq.le).toNat []).length:Int):=by rw[nu0,le0];exact(b9h gd rm.1).2
 have es:gstep L={ L.put (4*(L.g % L.n)+3) (a0r L.os L.g) with gs:=.mark }:=by unfold gstep;rw[e]
 rw[es] at k;refine⟨A,L.n,L.c,L.os,L.bk,L.gseen,L.tseen,ps,Gq,Tq,tl,lt,_,rfl,hL,he0,tn.1,tn.2,⟨kn.1,kn.2,th⟩,λH' z kz=>?_⟩;rw[a0b,nu0,le0,(b9h gd rm.1).1] at z;exact k H' A Gq z ⟨rfl,λ_=>he0,λ_ _=>nu0,λ_ _ _=>le0⟩ kz (Nx.refl A H)
theorem e1x(hL:↑7)(ok:Ok L)(hg:GRel L Gq)(e:L.gs=.mark)(k:a7f cl H A L (gstep L) ps Tq tl (lt.tch (gT L)) Q):b5e cl [.ref A.gv] H Q E:=by
 rw[show gT L=gTx .mark L from congrArg (gTx · L) e] at k
 fail "b";have es:gstep L={ L.put (4*(L.g % L.n)) (2*(lap L.n L.g:Int)+1) with gs:=.card,g:=L.g+1 }:=by unfold gstep;rw[e]
 rw[es] at k;refine⟨A,L.n,L.c,L.os,L.bk,L.gseen,L.tseen,ps,Gq,Tq,tl,lt,_,rfl,hL,he0,tn.1,tn.2,λH' z kz=>?_⟩;rw[a0b,a9y,Nat.add_zero] at z;have gi1:gi { L.put (4*(L.g % L.n)) (2*(lap L.n L.g:Int)+1) with gs:=.card,g:=L.g+1 }=L.g:=by
  unfold gi;show(if Stg.frees .card=true then L.g+1-1 else L.g+1)=L.g;rw[if_pos (show Stg.frees .card=true from rfl)];lia
 exact k H' A Gq z ⟨rfl,λ_=>by rw[gi1];exact he0,λ_ _=>by rw[gi1];exact nu0,λ_ _ _=>by rw[gi1];exact le0⟩ kz (Nx.refl A H)
theorem e2b(hL:↑7)(ok:Ok L)(hg:GRel L Gq)(e:L.gs=.card)(k:a7f cl H A L (gstep L) ps Tq tl (lt.tch (gT L)) Q):b0h cl [.ref A.gv] H Q E:=by
 rw[show gT L=gTx .card L from congrArg (gTx · L) e] at k
 have hn:0<L.n:=ok.hn;have gp:0<L.g:=ok.gv.pos (by rw[e];rfl)
 have g0:gi L=L.g-1:=e4v e ↑6;have he0:Gq.he=.int (((L.g-1) % (2*L.n):Nat):Int):=by rw[<- g0];exact hg.he (by rw[e];decide)
 have tn:=a4h (i:=L.g-1) hn;have nu0:Gq.nu=a0a L.os (L.g-1):=by rw[<- g0];exact hg.nu (by rw[e];decide) (by rw[e];decide)
 have le0:Gq.le=a0g L.os (L.g-1):=by rw[<- g0];exact hg.le (by rw[e];decide) (by rw[e];decide) (by rw[e];decide)
 have gd:=ok.core.good;have gt:=ok.core.gt;have lt':L.g-1<tot L.os:=by lia
 have kn:b1a L.os Gq.nu Gq.le/\0<=a2k Gq.nu Gq.le/\a2k Gq.nu Gq.le<L.os.length:=by
  rw[nu0,le0];have:=a5o gd lt';have:=a8d lt';exact⟨b0l (n:=L.n) ↑3,by lia,by lia⟩
 have en:a0a L.os L.g=(o9 L.os (L.g-1):Int):=by rw[show L.g=(L.g-1)+1 by lia];rfl
 have el:a0g L.os L.g=(t9 L.os (L.g-1):Int):=by rw[show L.g=(L.g-1)+1 by lia];rfl
 have et:(((L.g-1+1) % (2*L.n):Nat):Int)=((L.g % (2*L.n):Nat):Int):=by rw[show L.g-1+1=L.g by lia]
 refine .inl ⟨A,L.n,L.c,L.os,L.bk,L.gseen,L.tseen,ps,Gq,Tq,tl,lt,_,rfl,hL,he0,tn.1,tn.2,kn,?_⟩;by_cases y:L.c (4*L.n+1)=(((L.g-1) % (2*L.n):Nat):Int)
 ·have es:gstep L={ L with gs:=.ring }:=by unfold gstep;rw[e];exact if_pos y
  rw[es] at k;rw[if_pos y];intro H' z kz;exact k H' A Gq z ⟨rfl,λ_=>he0,λ_ _=>nu0,λ_ _ _=>le0⟩ kz (Nx.refl A H)
 ·have es:gstep L={ L with gs:=.look }:=by unfold gstep;rw[e];exact if_neg y
  rw[es] at k;rw[if_neg y];intro H' z kz;rw[a4z,nu0,le0,a5o gd lt',c4b gd lt',et] at z;exact k H' A _ z ⟨rfl,λ_=>rfl,λ_ _=>en.symm,λ_ _ _=>el.symm⟩ kz (Nx.refl A H)
theorem e1v(hL:↑7)(ok:Ok L)(hg:GRel L Gq)(e:L.gs=.ring)(k:a7f cl H A L (gstep L) ps Tq tl (lt.tch (gT L)) Q):b0d cl [.ref A.gv] H Q E:=by
 rw[show gT L=gTx .ring L from congrArg (gTx · L) e] at k
 have hn:0<L.n:=ok.hn;have gp:0<L.g:=ok.gv.pos (by rw[e];rfl)
 have g0:gi L=L.g-1:=e4v e ↑6;have he0:Gq.he=.int (((L.g-1) % (2*L.n):Nat):Int):=by rw[<- g0];exact hg.he (by rw[e];decide)
 have tn:=a4h (i:=L.g-1) hn;have nu0:Gq.nu=a0a L.os (L.g-1):=by rw[<- g0];exact hg.nu (by rw[e];decide) (by rw[e];decide)
 have le0:Gq.le=a0g L.os (L.g-1):=by rw[<- g0];exact hg.le (by rw[e];decide) (by rw[e];decide) (by rw[e];decide)
 have gd:=ok.core.good;have gt:=ok.core.gt;have lt':L.g-1<tot L.os:=by lia
 have kn:b1a L.os Gq.nu Gq.le/\0<=a2k Gq.nu Gq.le/\a2k Gq.nu Gq.le<L.os.length:=by
  rw[nu0,le0];have:=a5o gd lt';have:=a8d lt';exact⟨b0l (n:=L.n) ↑3,by lia,by lia⟩
 have en:a0a L.os L.g=(o9 L.os (L.g-1):Int):=by rw[show L.g=(L.g-1)+1 by lia];rfl
 have el:a0g L.os L.g=(t9 L.os (L.g-1):Int):=by rw[show L.g=(L.g-1)+1 by lia];rfl
 have et:(((L.g-1+1) % (2*L.n):Nat):Int)=((L.g % (2*L.n):Nat):Int):=by rw[show L.g-1+1=L.g by lia]
 have es:gstep L={ L.put (4*L.n+3) 1 with gs:=.look }:=by unfold gstep;rw[e]
 rw[es] at k;refine .inl ⟨A,L.n,L.c,L.os,L.bk,L.gseen,L.tseen,ps,Gq,Tq,tl,lt,_,rfl,hL,he0,tn.1,tn.2,kn,λH' z kz=>?_⟩;rw[a4z,nu0,le0,a5o gd lt',c4b gd lt',et] at z;exact k H' A _ z ⟨rfl,λ_=>rfl,λ_ _=>en.symm,λ_ _ _=>el.symm⟩ kz (Nx.refl A H)
end
theorem b8x{n g:Nat}(hn:0<n){xs:List Int}(l:xs.length=n)(h:∀(q:Nat) (m:Int),xs[q]?=some m->m=(c0t n g q:Int)):toB xs=e6b n (g % (2*n)):=by
 have hp:=Nat.mod_lt g hn;have hl:=b9m n g;apply List.ext_getElem?;intro q;unfold toB e6b;rw[c0u,d0a,List.getElem?_map];by_cases hq:q<n
 ·have e:=List.getElem?_eq_getElem (l:=xs) (show q<xs.length by lia)
  have z:=h q _ e;rw[e,z];unfold c0t;show some ((((if q<g % n then lap n g else 1-lap n g:Nat):Int)) == 1)=_;by_cases y:q<g % n
  ·rw[if_pos y,List.getElem?_append_left (by rw[List.length_replicate];exact y),List.getElem?_replicate,if_pos y]
   congr 1
   rw[Bool.eq_iff_iff];simp only[beq_iff_eq];lia
  ·rw[if_neg y,List.getElem?_append_right (by rw[List.length_replicate];lia),List.length_replicate,List.getElem?_replicate,if_pos ↑3]
   congr 1
   rw[Bool.eq_iff_iff];simp only[beq_iff_eq,Bool.not_eq_true',beq_eq_false_iff_ne];lia
 ·rw[List.getElem?_eq_none ↑3,List.getElem?_eq_none (by rw[List.length_append,List.length_replicate,List.length_replicate];lia)]
  rfl
theorem c0s:(List.range 7).all (λk=>(List.range (2*(k+2))).all λt=>a6e (e6b (k+2) t) == some t)=true:=by decide +kernel
theorem c1f{n t:Nat}(n2:2<=n)(n8:n<=8)(ht:t<2*n):a6e (e6b n t)=some t:=by
 have h:=List.all_eq_true.mp c0s (n-2) (List.mem_range.mpr ↑3);rw[show n-2+2=n by lia] at h
 have h:=List.all_eq_true.mp h t (List.mem_range.mpr ht)
 simpa using h
theorem d0k{xs:List Int}{x:Int}{q:Nat}{m:Int}(h:(xs++[x])[q]?=some m):(q<xs.length/\xs[q]?=some m)\/(q=xs.length/\m=x):=by
 by_cases z:q<xs.length
 ·rw[List.getElem?_append_left z] at h
  exact .inl ⟨z,h⟩
 ·have hq:q=xs.length:=by
   have:=(List.getElem?_eq_some_iff.mp h).1;rw[List.length_append] at this;have:q<xs.length+1:=this;lia
  subst hq;rw[List.getElem?_append_right (Nat.le_refl _),Nat.sub_self] at h;cases h;exact .inr ⟨rfl,rfl⟩
theorem d3u{xs:List Int}(h:∀(q:Nat) (m:Int),xs[q]?=some m->0<=m/\m<=3):a2z xs=true:=by
 refine List.all_eq_true.mpr λx hx=>?_;obtain⟨i,hi⟩:=List.getElem?_of_mem hx;have:=h i x hi
 simpa using this
section
variable{H:Hp}{A:Ad}{L:Ln}{ps:List Int}{Gq:Gm}{Tq:Tm}{tl:List Tr}{lt:Lt}{Q:VK}{E:XK}
theorem Nx.ofMg{p:Addr}:Nx A (A.setMg p) H:=⟨λ_ _=>rfl,.inl rfl,rfl⟩
theorem Nx.ofMt{p:Addr}:Nx A (A.setMt p) H:=⟨λ_ _=>rfl,.inl rfl,rfl⟩
theorem d8s(hL:↑7)(ok:Ok L)(hg:GRel L Gq)(e:L.gs=.marks)(k:a7f cl H A L (gstep L) ps Tq tl (lt.tch (gT L)) Q):a7l cl [.ref A.gv] H Q E:=by
 rw[show gT L=gTx .marks L from congrArg (gTx · L) e] at k
 have hn:0<L.n:=ok.hn;have n2:=ok.core.n2;have n8:=ok.core.n8;have sl:=ok.gv.seen.1;have sg:=ok.gv.seen.2;refine .inl ⟨A,L.n,L.c,L.os,L.bk,L.gseen,L.tseen,ps,Gq,Tq,tl,lt,rfl,hL,sl,?_⟩;by_cases y:L.gseen.length+1<L.n
 ·have es:gstep L={ L with gseen:=L.gseen++[L.c (4*L.gseen.length)] }:=by unfold gstep;rw[e];exact if_pos y
  rw[es] at k;rw[if_pos y];intro p H' hp z kz;have q:=k H' (A.setMg p) Gq z ⟨(by rw[e]),(λy=>by rw[e] at y;cases y),(λy=>by rw[e] at y;cases y),(λy=>by rw[e] at y;cases y)⟩ kz Nx.ofMg
  have e3:b0s L.gs="marks":=by rw[e];rfl
  change Q (.str (b0s L.gs)) H' at q;rw[e3] at q;exact q
 ·have es:gstep L={ L with gseen:=[],gs:=.told }:=by unfold gstep;rw[e];exact if_neg y
  rw[es] at k;rw[if_neg y];have all:∀(q:Nat)(m:Int),(L.gseen++[L.c (4*L.gseen.length)])[q]?=some m->m / 2=(c0t L.n L.g q:Int)/\0<=m/\m<=3:=λq m h=>by
   rcases d0k h with ⟨_,z⟩|⟨rfl,rfl⟩
   ·exact sg q m z
   ·exact⟨ok.core.mks.laps hn sl,ok.core.mks.range hn sl⟩
  refine⟨L.g % (2*L.n),d3u λq m h=>(all q m h).2,?_,λp H' hp z kz=>?_⟩
  ·rw[b8x hn (by rw[List.length_map,List.length_append];show L.gseen.length+1=L.n;lia) (λq m h=>?_),c1f n2 n8 (c8a hn)]
   rw[List.getElem?_map] at h;cases e2:(L.gseen++[L.c (4*L.gseen.length)])[q]? with
   | none=>rw[e2] at h;cases h
   | some m'=>
    rw[e2] at h;cases h;exact(all q m' e2).1
  ·exact k H' (A.setMg p) _ z ⟨rfl,λ_=>rfl,λ_ y=>absurd rfl y,λ_ y=>absurd rfl y⟩ kz Nx.ofMg
def a8i(cl:Cl)(H:Hp)(A:Ad)(L L':Ln)(Gq:Gm)(tl:List Tr)(lt:Lt)(Q:VK):Prop:=∀H' A' Tq' ps',LH cl H' A' L.n L'.c L.os L'.bk L.gseen L'.tseen ps' Gq Tq' tl lt->TRel L' { Tq' with st:=b0s L'.ts } ps'->KpA A H H'->Nx A A' H->Q (.str (b0s L'.ts)) H'
theorem c1a{x:Stg}(h1:x≠.left)(h2:x≠.thing){a:Int}{b:Int}:x=.left\/x=.thing->a=b:=λy=>by rcases y with y|y;exact absurd y h1;exact absurd y h2
theorem d7g(hL:↑7)(ok:Ok L)(ht:TRel L Tq ps)(e:L.ts=.rouse)(k:a8i cl H A L (tstep L) Gq tl (lt.tch (tT L)) Q):a7k cl [.ref A.tk] H Q E:=by
 rw[show tT L=tTx .rouse L from congrArg (tTx · L) e] at k
 have es:tstep L={ L.put (4*L.n+2) (1) with ts:=.clear }:=by unfold tstep;rw[e]
 rw[es] at k;refine⟨A,L.n,L.c,L.os,L.bk,L.gseen,L.tseen,ps,Gq,Tq,tl,lt,false,A.tk,rfl,.inr ⟨rfl,rfl⟩,hL,λH' z kz=>?_⟩;have p0:ps=[]:=by rw[ht.pa];exact if_pos (.inl (by rw[e];rfl))
 exact k H' A Tq ps z ⟨rfl,(λy=>(nomatch (show true=false from y))),(λy=>(nomatch (show true=false from y))),c1a (x:=.clear) ↑6 ↑6,(λy=>(nomatch (show Stg.clear=Stg.thing from y))),(by rw[p0];rfl)⟩ kz (Nx.refl A H)
theorem d7i(hL:↑7)(ok:Ok L)(ht:TRel L Tq ps)(e:L.ts=.clear)(k:a8i cl H A L (tstep L) Gq tl (lt.tch (tT L)) Q):a7m cl [.ref A.tk] H Q E:=by
 rw[show tT L=tTx .clear L from congrArg (tTx · L) e] at k
 have es:tstep L={ L.put (4*L.n+1) (-1) with ts:=.mute }:=by unfold tstep;rw[e]
 rw[es] at k;refine⟨A,L.n,L.c,L.os,L.bk,L.gseen,L.tseen,ps,Gq,Tq,tl,lt,false,A.tk,rfl,.inr ⟨rfl,rfl⟩,hL,λH' z kz=>?_⟩;have p0:ps=[]:=by rw[ht.pa];exact if_pos (.inl (by rw[e];rfl))
 exact k H' A Tq ps z ⟨rfl,(λy=>(nomatch (show true=false from y))),(λy=>(nomatch (show true=false from y))),c1a (x:=.mute) ↑6 ↑6,(λy=>(nomatch (show Stg.mute=Stg.thing from y))),(by rw[p0];rfl)⟩ kz (Nx.refl A H)
theorem e0h(hL:↑7)(ok:Ok L)(ht:TRel L Tq ps)(e:L.ts=.mute)(k:a8i cl H A L (tstep L) Gq tl (lt.tch (tT L)) Q):b0e cl [.ref A.tk] H Q E:=by
 rw[show tT L=tTx .mute L from congrArg (tTx · L) e] at k
 have es:tstep L={ L.put (4*L.n+3) (0) with ts:=.marks }:=by unfold tstep;rw[e]
 rw[es] at k;refine⟨A,L.n,L.c,L.os,L.bk,L.gseen,L.tseen,ps,Gq,Tq,tl,lt,false,A.tk,rfl,.inr ⟨rfl,rfl⟩,hL,λH' z kz=>?_⟩;have p0:ps=[]:=by rw[ht.pa];exact if_pos (.inl (by rw[e];rfl))
 exact k H' A Tq ps z ⟨rfl,(λy=>(nomatch (show true=false from y))),(λy=>(nomatch (show true=false from y))),c1a (x:=.marks) ↑6 ↑6,(λy=>(nomatch (show Stg.marks=Stg.thing from y))),(by rw[p0];rfl)⟩ kz (Nx.refl A H)
theorem e0k(hL:↑7)(ok:Ok L)(ht:TRel L Tq ps)(e:L.ts=.hush)(k:a8i cl H A L (tstep L) Gq tl (lt.tch (tT L)) Q):b0g cl [.ref A.tk] H Q E:=by
 rw[show tT L=tTx .hush L from congrArg (tTx · L) e] at k
 fail "d";have es:tstep L={ L.put (4*L.n+3) (0) with ts:=.unwish }:=by unfold tstep;rw[e]
 rw[es] at k;refine⟨A,L.n,L.c,L.os,L.bk,L.gseen,L.tseen,ps,Gq,Tq,tl,lt,false,A.tk,rfl,.inr ⟨rfl,rfl⟩,hL,λH' z kz=>?_⟩;exact k H' A Tq ps z ⟨rfl,λ_=>he0,λ_=>nf0,c1a (x:=.unwish) ↑6 ↑6,(λy=>(nomatch (show Stg.unwish=Stg.thing from y))),pa0⟩ kz (Nx.refl A H)
theorem d3q(hL:↑7)(ok:Ok L)(ht:TRel L Tq ps)(e:L.ts=.unwish)(k:a8i cl H A L (tstep L) Gq tl (lt.tch (tT L)) Q):a5s cl [.ref A.tk] H Q E:=by
 rw[show tT L=tTx .unwish L from congrArg (tTx · L) e] at k
 fail "d";have es:tstep L={ L.put (4*L.n+1) (-1) with ts:=.look }:=by unfold tstep;rw[e]
 rw[es] at k;refine⟨A,L.n,L.c,L.os,L.bk,L.gseen,L.tseen,ps,Gq,Tq,tl,lt,false,A.tk,rfl,.inr ⟨rfl,rfl⟩,hL,λH' z kz=>?_⟩;exact k H' A Tq ps z ⟨rfl,λ_=>he0,λ_=>nf0,c1a (x:=.look) ↑6 ↑6,(λy=>(nomatch (show Stg.look=Stg.thing from y))),pa0⟩ kz (Nx.refl A H)
theorem d7f(hL:↑7)(ok:Ok L)(ht:TRel L Tq ps)(e:L.ts=.sleep)(k:a8i cl H A L (tstep L) Gq tl (lt.tch (tT L)) Q):a7j cl [.ref A.tk] H Q E:=by
 rw[show tT L=tTx .sleep L from congrArg (tTx · L) e] at k
 fail "d";refine⟨A,L.n,L.c,L.os,L.bk,L.gseen,L.tseen,ps,Gq,Tq,tl,lt,false,A.tk,rfl,.inr ⟨rfl,rfl⟩,hL,λH' z kz=>?_⟩;by_cases y:L.c (4*L.n+3)=0
 ·have es:tstep L=L:=by unfold tstep;rw[e];exact if_pos y
  rw[es] at k;have st0:{ Tq with st:=b0s L.ts }=Tq:=by have:=ht.st;cases Tq;cases this;rfl
  have q:=k H' A Tq ps z (by rw[st0];exact ht) kz (Nx.refl A H)
  rw[e] at q;rw[show(if L.c (4*L.n+a2m false)=0 then ("sleep":Str) else "hush")="sleep" from if_pos y];exact q
 ·have es:tstep L={ L with ts:=.hush }:=by unfold tstep;rw[e];exact if_neg y
  rw[es] at k;rw[show(if L.c (4*L.n+a2m false)=0 then ("sleep":Str) else "hush")="hush" from if_neg y];exact k H' A Tq ps z ⟨rfl,λ_=>he0,λ_=>nf0,c1a (x:=.hush) ↑6 ↑6,(λy=>(nomatch (show Stg.hush=Stg.thing from y))),pa0⟩ kz (Nx.refl A H)
theorem e0i(hL:↑7)(ok:Ok L)(ht:TRel L Tq ps)(e:L.ts=.look)(k:a8i cl H A L (tstep L) Gq tl (lt.tch (tT L)) Q):b0f cl [.ref A.tk] H Q E:=by
 rw[show tT L=tTx .look L from congrArg (tTx · L) e] at k
 fail "d";have w0:L.c (4*((((L.t % (2*L.n):Nat):Int) % (L.n:Int))).toNat)=a3x false L.n ((L.t % (2*L.n):Nat):Int) ↔ L.c (4*(L.t % L.n))=2*(lap L.n L.t:Int)+1:=by
  rw[a0b];unfold a3x;rw[if_neg ↑6,a9y]
 refine⟨A,L.n,L.c,L.os,L.bk,L.gseen,L.tseen,ps,Gq,Tq,tl,lt,false,A.tk,_,rfl,.inr ⟨rfl,rfl⟩,hL,he0,tn.1,tn.2,λH' z kz=>?_⟩;rw[a0b] at z;by_cases y:L.c (4*(L.t % L.n))=2*(lap L.n L.t:Int)+1
 ·have es:tstep L={ L with ts:=.number }:=by unfold tstep;rw[e];exact if_pos y
  rw[es] at k;rw[if_pos (w0.mpr y)];exact k H' A Tq ps z ⟨rfl,λ_=>he0,λ_=>nf0,c1a (x:=.number) ↑6 ↑6,(λy=>(nomatch (show Stg.number=Stg.thing from y))),pa0⟩ kz (Nx.refl A H)
 ·have es:tstep L={ L with ts:=.wish }:=by unfold tstep;rw[e];exact if_neg y
  rw[es] at k;rw[if_neg λz=>y (w0.mp z)];exact k H' A Tq ps z ⟨rfl,λ_=>he0,λ_=>nf0,c1a (x:=.wish) ↑6 ↑6,(λy=>(nomatch (show Stg.wish=Stg.thing from y))),pa0⟩ kz (Nx.refl A H)
theorem d7j(hL:↑7)(ok:Ok L)(ht:TRel L Tq ps)(e:L.ts=.again)(k:a8i cl H A L (tstep L) Gq tl (lt.tch (tT L)) Q):a7n cl [.ref A.tk] H Q E:=by
 rw[show tT L=tTx .again L from congrArg (tTx · L) e] at k
 fail "d";have w0:L.c (4*((((L.t % (2*L.n):Nat):Int) % (L.n:Int))).toNat)=a3x false L.n ((L.t % (2*L.n):Nat):Int) ↔ L.c (4*(L.t % L.n))=2*(lap L.n L.t:Int)+1:=by
  rw[a0b];unfold a3x;rw[if_neg ↑6,a9y]
 refine⟨A,L.n,L.c,L.os,L.bk,L.gseen,L.tseen,ps,Gq,Tq,tl,lt,false,A.tk,_,rfl,.inr ⟨rfl,rfl⟩,hL,he0,tn.1,tn.2,λH' z kz=>?_⟩;rw[a0b] at z;by_cases y:L.c (4*(L.t % L.n))=2*(lap L.n L.t:Int)+1
 ·have es:tstep L={ L with ts:=.unwish }:=by unfold tstep;rw[e];exact if_pos y
  rw[es] at k;rw[if_pos (w0.mpr y)];exact k H' A Tq ps z ⟨rfl,λ_=>he0,λ_=>nf0,c1a (x:=.unwish) ↑6 ↑6,(λy=>(nomatch (show Stg.unwish=Stg.thing from y))),pa0⟩ kz (Nx.refl A H)
 ·have es:tstep L={ L with ts:=.sleep }:=by unfold tstep;rw[e];exact if_neg y
  rw[es] at k;rw[if_neg λz=>y (w0.mp z)];exact k H' A Tq ps z ⟨rfl,λ_=>he0,λ_=>nf0,c1a (x:=.sleep) ↑6 ↑6,(λy=>(nomatch (show Stg.sleep=Stg.thing from y))),pa0⟩ kz (Nx.refl A H)
theorem e0f(hL:↑7)(ok:Ok L)(ht:TRel L Tq ps)(e:L.ts=.wish)(k:a8i cl H A L (tstep L) Gq tl (lt.tch (tT L)) Q):b0c cl [.ref A.tk] H Q E:=by
 rw[show tT L=tTx .wish L from congrArg (tTx · L) e] at k
 fail "d";have es:tstep L={ L.put (4*L.n+1) ((L.t % (2*L.n):Nat):Int) with ts:=.again }:=by unfold tstep;rw[e]
 rw[es] at k;refine⟨A,L.n,L.c,L.os,L.bk,L.gseen,L.tseen,ps,Gq,Tq,tl,lt,false,A.tk,_,rfl,.inr ⟨rfl,rfl⟩,hL,he0,tn.1,tn.2,λH' z kz=>?_⟩;exact k H' A Tq ps z ⟨rfl,λ_=>he0,λ_=>nf0,c1a (x:=.again) ↑6 ↑6,(λy=>(nomatch (show Stg.again=Stg.thing from y))),pa0⟩ kz (Nx.refl A H)
theorem d3r(hL:↑7)(ok:Ok L)(ht:TRel L Tq ps)(e:L.ts=.number)(k:a8i cl H A L (tstep L) Gq tl (lt.tch (tT L)) Q):a0x cl [.ref A.tk] H Q E:=by
 rw[show tT L=tTx .number L from congrArg (tTx · L) e] at k
 fail "d";have tk:=ok.tk;have lies:=tk.lies (by rw[e];rfl)
 have ft:L.f<=L.t:=by have:=tk.ft;rw[e] at this;exact this
 have sp:=ok.core.slip L.t lies (.inr ft);have es:tstep L={ L with ts:=.left }:=by unfold tstep;rw[e]
 rw[es] at k;refine⟨A,L.n,L.c,L.os,L.bk,L.gseen,L.tseen,ps,Gq,Tq,tl,lt,_,rfl,hL,he0,tn.1,tn.2,λH' z kz=>?_⟩;rw[a0b] at z;exact k H' A _ ps z ⟨rfl,λ_=>he0,λ_=>nf0,λ_=>sp.1,(λy=>(nomatch (show Stg.left=Stg.thing from y))),pa0⟩ kz (Nx.refl A H)
theorem e0j(hL:↑7)(ok:Ok L)(ht:TRel L Tq ps)(e:L.ts=.left)(k:a8i cl H A L (tstep L) Gq tl (lt.tch (tT L)) Q):a1w cl [.ref A.tk] H Q E:=by
 rw[show tT L=tTx .left L from congrArg (tTx · L) e] at k
 fail "d";have tk:=ok.tk;have lies:=tk.lies (by rw[e];rfl)
 have ft:L.f<=L.t:=by have:=tk.ft;rw[e] at this;exact this
 have sp:=ok.core.slip L.t lies (.inr ft);have es:tstep L={ L with ts:=.thing }:=by unfold tstep;rw[e]
 rw[es] at k;refine⟨A,L.n,L.c,L.os,L.bk,L.gseen,L.tseen,ps,Gq,Tq,tl,lt,_,rfl,hL,he0,tn.1,tn.2,λH' z kz=>?_⟩;rw[a0b] at z;exact k H' A _ ps z ⟨rfl,λ_=>he0,λ_=>nf0,λ_=>ht.nu (.inl e),λ_=>sp.2.1,pa0⟩ kz (Nx.refl A H)
theorem c8b{os:List (List Int)}{a k:Nat}:a1c os a (k+1)=a1c os a k++[a0r os (a+k)]:=by
 unfold a1c;rw[List.range_succ,List.map_append]
 rfl
theorem d7e(hL:↑7)(ok:Ok L)(ht:TRel L Tq ps)(e:L.ts=.thing)(hb:L.bk.length<=400)(k:a8i cl H A L (tstep L) Gq tl (lt.tch (tT L)) Q):a1j cl [.ref A.tk] H Q E:=by
 rw[show tT L=tTx .thing L from congrArg (tTx · L) e] at k
 fail "d";have tk:=ok.tk;have lies:=tk.lies (by rw[e];rfl)
 have ft:L.f<=L.t:=by have:=tk.ft;rw[e] at this;exact this
 have sp:=ok.core.slip L.t lies (.inr ft);have gf:=ok.core.gf;have n8:=ok.core.n8;have nu0:=ht.nu (.inr e);have le0:=ht.le e;have pl:ps.length<=100:=by rw[pa0];unfold a1c;rw[List.length_map,List.length_range];lia
 have th:ps++[L.c (4*((((L.t % (2*L.n):Nat):Int) % (L.n:Int))).toNat+3)]=a1c L.os L.f (L.t+1-L.f):=by
  rw[a0b,sp.2.2,pa0,show L.t+1-L.f=(L.t-L.f)+1 by lia,c8b,show L.f+(L.t-L.f)=L.t by lia]
 refine⟨A,L.n,L.c,L.os,L.bk,L.gseen,L.tseen,ps,Gq,Tq,tl,lt,_,rfl,hL,he0,tn.1,tn.2,hb,pl,?_⟩;rw[th];by_cases y:0<t9 L.os L.t
 ·have es:tstep L={ L with ts:=.look,t:=L.t+1 }:=by unfold tstep;rw[e];exact if_pos y
  rw[es] at k;rw[if_pos (by rw[le0];lia)]
  intro H' z kz;rw[a4z,a0b] at z;exact k H' A _ _ z ⟨rfl,λ_=>rfl,λ_=>nf0,c1a (x:=.look) ↑6 ↑6,(λy=>(nomatch (show Stg.look=Stg.thing from y))),rfl⟩ kz (Nx.refl A H)
 ·have es:tstep L={ L with ts:=.free,bk:=if o9 L.os L.t=L.bk.length then L.bk++[a1c L.os L.f (L.t+1-L.f)] else L.bk }:=by unfold tstep;rw[e];exact if_neg y
  rw[es] at k;rw[if_neg (by rw[le0];lia)]
  intro p H' hp z kz;have eb:d6m L.bk Tq.nu (a1c L.os L.f (L.t+1-L.f))=if o9 L.os L.t=L.bk.length then L.bk++[a1c L.os L.f (L.t+1-L.f)] else L.bk:=by
   unfold d6m;rw[nu0];by_cases q:o9 L.os L.t=L.bk.length
   ·rw[if_pos q,if_pos ↑3]
   ·rw[if_neg q,if_neg ↑3]
  rw[eb,a0b] at z;exact k H' _ Tq [] z ⟨rfl,λ_=>he0,λ_=>nf0,c1a (x:=.free) ↑6 ↑6,(λy=>(nomatch (show Stg.free=Stg.thing from y))),rfl⟩ kz (Nx.pa hp)
theorem e0l(hL:↑7)(ok:Ok L)(ht:TRel L Tq ps)(e:L.ts=.free)(k:a8i cl H A L (tstep L) Gq tl (lt.tch (tT L)) Q):b5f cl [.ref A.tk] H Q E:=by
 rw[show tT L=tTx .free L from congrArg (tTx · L) e] at k
 have hn:0<L.n:=ok.hn;have he0:Tq.he=.int ((L.t % (2*L.n):Nat):Int):=ht.he (by rw[e];rfl)
 have tn:=a4h (i:=L.t) hn;have nf0:Tq.nf=.int ((L.f % (2*L.n):Nat):Int):=by have:=ht.nf (by rw[e];rfl);rw[e] at this;exact this
 have fn:=a4h (i:=L.f) hn;have p0:ps=[]:=by rw[ht.pa];exact if_pos (.inr (.inl e))
 have es:tstep L={ L.put (4*(L.f % L.n)) (2*(lap L.n L.f:Int)) with ts:=.card,f:=L.f+1 }:=by unfold tstep;rw[e]
 rw[es] at k;refine⟨A,L.n,L.c,L.os,L.bk,L.gseen,L.tseen,ps,Gq,Tq,tl,lt,_,rfl,hL,nf0,fn.1,fn.2,λH' z kz=>?_⟩;rw[a0b,a9y,Nat.add_zero,Int.add_zero] at z;exact k H' A Tq ps z ⟨rfl,λ_=>he0,λ_=>nf0,c1a (x:=.card) ↑6 ↑6,(λy=>(nomatch (show Stg.card=Stg.thing from y))),p0⟩ kz (Nx.refl A H)
theorem e0m(hL:↑7)(ok:Ok L)(ht:TRel L Tq ps)(e:L.ts=.card)(k:a8i cl H A L (tstep L) Gq tl (lt.tch (tT L)) Q):b0h cl [.ref A.tk] H Q E:=by
 rw[show tT L=tTx .card L from congrArg (tTx · L) e] at k
 have hn:0<L.n:=ok.hn;have he0:Tq.he=.int ((L.t % (2*L.n):Nat):Int):=ht.he (by rw[e];rfl)
 have tn:=a4h (i:=L.t) hn;have fp:0<L.f:=ok.tk.pos (by rw[e];rfl)
 have nf0:Tq.nf=.int (((L.f-1) % (2*L.n):Nat):Int):=by have:=ht.nf (by rw[e];rfl);rw[e] at this;exact this
 have fn:=a4h (i:=L.f-1) hn;have p0:ps=[]:=by rw[ht.pa];exact if_pos (.inr (.inr (by rw[e];rfl)))
 have lst:=ok.tk.last (.inr (by rw[e];rfl))
 have ft:L.f<=L.t+1:=by have:=ok.tk.ft;rw[e] at this;exact this
 have gf:=ok.core.gf;have eqt:(((L.f-1) % (2*L.n):Nat):Int)=((L.t % (2*L.n):Nat):Int) ↔ L.f=L.t+1:=by
  constructor
  ·intro z
   have:=d0b (n:=L.n) (i:=L.f-1) (j:=L.t) ↑3 ↑3 ↑3 hn;lia
  ·intro z
   rw[z]
   rfl
 have eqn:(((L.f-1+1) % (2*L.n):Nat):Int)=((L.f % (2*L.n):Nat):Int):=by rw[show L.f-1+1=L.f by lia]
 refine .inr ⟨A,L.n,L.c,L.os,L.bk,L.gseen,L.tseen,ps,Gq,Tq,tl,lt,_,_,rfl,hL,he0,nf0,fn.1,fn.2,?_⟩;rw[d3m,Nat.add_zero];by_cases y:L.c (4*L.n)=(((L.f-1+L.n) % (2*L.n):Nat):Int)
 ·have es:tstep L={ L with ts:=.ring }:=by unfold tstep;rw[e];exact if_pos y
  rw[es] at k;rw[if_pos y];intro H' z kz;exact k H' A Tq ps z ⟨rfl,λ_=>he0,λ_=>nf0,c1a (x:=.ring) ↑6 ↑6,(λy=>(nomatch (show Stg.ring=Stg.thing from y))),p0⟩ kz (Nx.refl A H)
 ·have e0:tstep L=b0z L:=by unfold tstep;rw[e];exact if_neg y
  rw[e0] at k;rw[if_neg y];intro H' z kz;by_cases y2:L.f=L.t+1
  ·have es:b0z L={ L with ts:=.look,t:=L.f }:=by unfold b0z;exact if_pos y2
   rw[es] at k;rw[if_pos (eqt.mpr y2)] at z ⊢;rw[a4z,eqn] at z;exact k H' A _ ps z ⟨rfl,λ_=>rfl,λ_=>rfl,c1a (x:=.look) ↑6 ↑6,(λy=>(nomatch (show Stg.look=Stg.thing from y))),by rw[p0];show[]=a1c L.os L.f (L.f-L.f);rw[Nat.sub_self];rfl⟩ kz (Nx.refl A H)
  ·have es:b0z L={ L with ts:=.free }:=by unfold b0z;exact if_neg y2
   rw[es] at k;rw[if_neg λq=>y2 (eqt.mp q)] at z ⊢;rw[a4z,eqn] at z;exact k H' A _ ps z ⟨rfl,λ_=>he0,λ_=>rfl,c1a (x:=.free) ↑6 ↑6,(λy=>(nomatch (show Stg.free=Stg.thing from y))),p0⟩ kz (Nx.refl A H)
theorem e0g(hL:↑7)(ok:Ok L)(ht:TRel L Tq ps)(e:L.ts=.ring)(k:a8i cl H A L (tstep L) Gq tl (lt.tch (tT L)) Q):b0d cl [.ref A.tk] H Q E:=by
 rw[show tT L=tTx .ring L from congrArg (tTx · L) e] at k
 have hn:0<L.n:=ok.hn;have he0:Tq.he=.int ((L.t % (2*L.n):Nat):Int):=ht.he (by rw[e];rfl)
 have tn:=a4h (i:=L.t) hn;have fp:0<L.f:=ok.tk.pos (by rw[e];rfl)
 have nf0:Tq.nf=.int (((L.f-1) % (2*L.n):Nat):Int):=by have:=ht.nf (by rw[e];rfl);rw[e] at this;exact this
 have fn:=a4h (i:=L.f-1) hn;have p0:ps=[]:=by rw[ht.pa];exact if_pos (.inr (.inr (by rw[e];rfl)))
 have lst:=ok.tk.last (.inr (by rw[e];rfl))
 have ft:L.f<=L.t+1:=by have:=ok.tk.ft;rw[e] at this;exact this
 have gf:=ok.core.gf;have eqt:(((L.f-1) % (2*L.n):Nat):Int)=((L.t % (2*L.n):Nat):Int) ↔ L.f=L.t+1:=by
  constructor
  ·intro z
   have:=d0b (n:=L.n) (i:=L.f-1) (j:=L.t) ↑3 ↑3 ↑3 hn;lia
  ·intro z
   rw[z]
   rfl
 have eqn:(((L.f-1+1) % (2*L.n):Nat):Int)=((L.f % (2*L.n):Nat):Int):=by rw[show L.f-1+1=L.f by lia]
 refine .inr ⟨A,L.n,L.c,L.os,L.bk,L.gseen,L.tseen,ps,Gq,Tq,tl,lt,_,_,rfl,hL,he0,nf0,fn.1,fn.2,λH' z kz=>?_⟩;have e0:tstep L=b0z (L.put (4*L.n+2) 1):=by unfold tstep;rw[e]
 rw[e0] at k
 ·skip
  by_cases y2:L.f=L.t+1
  ·have es:b0z (L.put (4*L.n+2) 1)={ (L.put (4*L.n+2) 1) with ts:=.look,t:=L.f }:=by unfold b0z;exact if_pos y2
   rw[es] at k;rw[if_pos (eqt.mpr y2)] at z ⊢;rw[a4z,eqn] at z;exact k H' A _ ps z ⟨rfl,λ_=>rfl,λ_=>rfl,c1a (x:=.look) ↑6 ↑6,(λy=>(nomatch (show Stg.look=Stg.thing from y))),by rw[p0];show[]=a1c L.os L.f (L.f-L.f);rw[Nat.sub_self];rfl⟩ kz (Nx.refl A H)
  ·have es:b0z (L.put (4*L.n+2) 1)={ (L.put (4*L.n+2) 1) with ts:=.free }:=by unfold b0z;exact if_neg y2
   rw[es] at k;rw[if_neg λq=>y2 (eqt.mp q)] at z ⊢;rw[a4z,eqn] at z;exact k H' A _ ps z ⟨rfl,λ_=>he0,λ_=>rfl,c1a (x:=.free) ↑6 ↑6,(λy=>(nomatch (show Stg.free=Stg.thing from y))),p0⟩ kz (Nx.refl A H)
theorem d7h(hL:↑7)(ok:Ok L)(ht:TRel L Tq ps)(e:L.ts=.marks)(k:a8i cl H A L (tstep L) Gq tl (lt.tch (tT L)) Q):a7l cl [.ref A.tk] H Q E:=by
 rw[show tT L=tTx .marks L from congrArg (tTx · L) e] at k
 have hn:0<L.n:=ok.hn;have n2:=ok.core.n2;have n8:=ok.core.n8;have sl:=ok.tk.seen.1;have sg:=ok.tk.seen.2;have p0:ps=[]:=by rw[ht.pa];exact if_pos (.inl (by rw[e];rfl))
 refine .inr ⟨A,L.n,L.c,L.os,L.bk,L.gseen,L.tseen,ps,Gq,Tq,tl,lt,rfl,hL,sl,?_⟩;by_cases y:L.tseen.length+1<L.n
 ·have es:tstep L={ L with tseen:=L.tseen++[L.c (4*L.tseen.length)] }:=by unfold tstep;rw[e];exact if_pos y
  rw[es] at k;rw[if_pos y];intro p H' hp z kz;have q:=k H' (A.setMt p) Tq ps z ⟨(by rw[e]),(λy=>by rw[e] at y;cases y),(λy=>by rw[e] at y;cases y),(λy=>by rw[e] at y;rcases y with y|y <;> cases y),(λy=>by rw[e] at y;cases y),(by rw[p0,e];rfl)⟩ kz Nx.ofMt
  have e3:b0s L.ts="marks":=by rw[e];rfl
  change Q (.str (b0s L.ts)) H' at q;rw[e3] at q;exact q
 ·have es:tstep L={ L with tseen:=[],ts:=.look }:=by unfold tstep;rw[e];exact if_neg y
  rw[es] at k;rw[if_neg y];have tf:=ok.tk.come (.inr (.inr (.inr e)));have all:∀(q:Nat)(m:Int),(L.tseen++[L.c (4*L.tseen.length)])[q]?=some m->(if m / 2≠m % 2 then (1:Int) else 0)=(c0t L.n L.f q:Int)/\0<=m/\m<=3:=λq m h=>by
   rcases d0k h with ⟨_,z⟩|⟨rfl,rfl⟩
   ·exact sg q m z
   ·exact⟨ok.core.mks.sides hn ok.core.fg ok.core.gf sl,ok.core.mks.range hn sl⟩
  refine⟨L.f % (2*L.n),d3u λq m h=>(all q m h).2,?_,λp H' hp z kz=>?_⟩
  ·rw[b8x hn (by rw[List.length_map,List.length_append];show L.tseen.length+1=L.n;lia) (λq m h=>?_),c1f n2 n8 (c8a hn)]
   rw[List.getElem?_map] at h;cases e2:(L.tseen++[L.c (4*L.tseen.length)])[q]? with
   | none=>rw[e2] at h;cases h
   | some m'=>
    rw[e2] at h;cases h;rw[<- (all q m' e2).1];unfold tbI;by_cases z:m' / 2=m' % 2
    ·rw[if_pos z,if_neg ↑3]
    ·rw[if_neg z,if_pos z]
  ·refine k H' (A.setMt p) _ ps z ⟨rfl,λ_=>by rw[tf],λ_=>rfl,c1a (x:=.look) ↑6 ↑6,(λy=>(nomatch (show Stg.look=Stg.thing from y))),?_⟩ kz Nx.ofMt
   rw[p0];show[]=a1c L.os L.f (L.t-L.f);rw[tf,Nat.sub_self]
   rfl
end
end
end
section
open PySem PySem.Spec L2 Pr
section
variable{P:Program}{w:World}{K:Frag}{mg:Str->Option Value}{qb:Heap}{cl:Cl}
structure DT(P:Program)(w:World)(K:Frag)(mg:Str->Option Value)(qb:Heap)(d:Addr)(k:Nat)(l:List (Str×Sp)):Prop where
 ex:∃kvs,KDict P w K d kvs/\(∀x sp,(x,sp)∈l->∃f ps,valueAt kvs x=some (.ref f)/\FnV P w K mg qb f k ps sp)/\∀x,x ∉ l.map (·.1)->valueAt kvs x=none
def c7i(cl:Cl):List (Str×Sp):=[("rouse",a7k cl),("clear",a7m cl),("mute",b0e cl),("marks",a7l cl),("look",b0f cl),("wish",b0c cl),("again",a7n cl),("sleep",a7j cl),("hush",b0g cl),("unwish",a5s cl),("card",b0h cl),("ring",b0d cl)]
def b9r:List Str:=["rouse","clear","mute","marks","look","wish","again","sleep","hush","unwish","card","ring"]
theorem a3v{x:Str}(h:x ∉ b9r):x ∉ (c7i cl).map (·.1):=h
def e6d(cl:Cl):List (Str×Sp):=[("told",b5d cl),("lacks",b1m cl),("number",a0y cl),("left",a1x cl),("thing",a1k cl),("mark",b5e cl)]
def e6c(cl:Cl):List (Str×Sp):=[("number",a0x cl),("left",a1w cl),("thing",a1j cl),("free",b5f cl)]
def a6t(cl:Cl):Sp:=λvs H Q E=>ExL λA n c os bk gs ts ps Gq Tq tl lt=>∃(sp:Sp),vs=[.ref A.gv]/\LH cl H A n c os bk gs ts ps Gq Tq tl lt/\(Gq.st,sp)∈e6d cl/\sp [.ref A.gv] H Q E
abbrev a4p:Stmt:=m9 (top 89) 17
theorem a6z:g7 ["self","deed"] ["self"] (d8 a4p):=↑1
theorem b6f(D:DefM K cl.Giver "own_deed" "Giver.own_deed" a4p ["self"])(T:Txt K mg cl)(O:DT P w K mg qb cl.d_DEEDS_giver 5 (e6d cl)):MethT P w K mg qb cl.Giver "own_deed" 6 ["self"] (a6t cl):=by
 refine D.fn a6z ↑5 ↑2
 ·fail "l"
 ·obtain⟨A,n,c,os,bk,gs,ts,ps,Gq,Tq,tl,lt,sp,rfl,hL,hm,k⟩:=h
  refine⟨_,(d5 (n6 (i:=1) a6z.nd rfl (.inl rfl) (v4 (c9p (K:=K)) (a2h T.r_DEEDS_giver rfl) ↑4 (λ_ _=>rfl)))
   (d9 (j1 (b7u (k:=5) (i:=1) rfl (Or.inl rfl) hr ↑6 i4 (a7 (pv 0) d6))))),?_⟩
  obtain⟨dx,ex⟩:=hL.gv;obtain⟨kvs,kd,hv,_⟩:=O.ex;obtain⟨fa,pn,e1,F⟩:=hv _ _ hm;ext;refine⟨cl.d_DEEDS_giver,_,kvs,_,.ref fa,rfl,rfl,kd,e1,rfl,?_⟩;ext;refine⟨fa,pn,sp,rfl,F,?_⟩;ext;exact k
def a6s(cl:Cl):Sp:=λvs H Q E=>ExL λA n c os bk gs ts ps Gq Tq tl lt=>∃(sp:Sp),vs=[.ref A.tk]/\LH cl H A n c os bk gs ts ps Gq Tq tl lt/\(Tq.st,sp)∈e6c cl/\sp [.ref A.tk] H Q E
abbrev a4n:Stmt:=m9 (top 99) 11
theorem a6x:g7 ["self","deed"] ["self"] (d8 a4n):=↑1
theorem b6c(D:DefM K cl.Taker "own_deed" "Taker.own_deed" a4n ["self"])(T:Txt K mg cl)(O:DT P w K mg qb cl.d_DEEDS_taker 5 (e6c cl)):MethT P w K mg qb cl.Taker "own_deed" 6 ["self"] (a6s cl):=by
 refine D.fn a6x ↑5 ↑2
 ·fail "l"
 ·obtain⟨A,n,c,os,bk,gs,ts,ps,Gq,Tq,tl,lt,sp,rfl,hL,hm,k⟩:=h
  refine⟨_,(d5 (n6 (i:=1) a6x.nd rfl (.inl rfl) (v4 (c9p (K:=K)) (a2h T.r_DEEDS_taker rfl) ↑4 (λ_ _=>rfl)))
   (d9 (j1 (b7u (k:=5) (i:=1) rfl (Or.inl rfl) hr ↑6 i4 (a7 (pv 0) d6))))),?_⟩
  obtain⟨dx,ex⟩:=hL.tk;obtain⟨kvs,kd,hv,_⟩:=O.ex;obtain⟨fa,pn,e1,F⟩:=hv _ _ hm;ext;refine⟨cl.d_DEEDS_taker,_,kvs,_,.ref fa,rfl,rfl,kd,e1,rfl,?_⟩;ext;refine⟨fa,pn,sp,rfl,F,?_⟩;ext;exact k
section
variable{H:Hp}{A:Ad}{L:Ln}{ps:List Int}{Gq:Gm}{Tq:Tm}{tl:List Tr}{lt:Lt}
theorem e5o(hL:↑7)(ok:Ok L)(hg:GRel L Gq)(hp:L.gs=.look->L.g<tot L.os):
  (∃sp,(Gq.st,sp)∈c7i cl/\∀Q E,a7f cl H A L (gstep L) ps Tq tl (lt.tch (gT L)) Q->sp [.ref A.gv] H Q E)\/(Gq.st ∉ (c7i cl).map (·.1)/\∃sp,(Gq.st,sp)∈e6d cl/\∀Q E,a7f cl H A L (gstep L) ps Tq tl (lt.tch (gT L)) Q->sp [.ref A.gv] H Q E):=by
 rw[hg.st];cases e:L.gs with
 | rouse=>exact .inl ⟨_,.head _,λQ E k=>d8r hL ok hg e k⟩
 | clear=>exact .inl ⟨_,.tail _ (.head _),λQ E k=>d8u hL ok hg e k⟩
 | mute=>exact .inl ⟨_,.tail _ (.tail _ (.head _)),λQ E k=>e1w hL ok hg e k⟩
 | marks=>exact .inl ⟨_,.tail _ (.tail _ (.tail _ (.head _))),λQ E k=>d8s hL ok hg e k⟩
 | look=>exact .inl ⟨_,.tail _ (.tail _ (.tail _ (.tail _ (.head _)))),λQ E k=>e1y hL ok hg e (hp e) k⟩
 | wish=>exact .inl ⟨_,.tail _ (.tail _ (.tail _ (.tail _ (.tail _ (.head _))))),λQ E k=>e1t hL ok hg e k⟩
 | again=>exact .inl ⟨_,.tail _ (.tail _ (.tail _ (.tail _ (.tail _ (.tail _ (.head _)))))),λQ E k=>d8v hL ok hg e k⟩
 | sleep=>exact .inl ⟨_,.tail _ (.tail _ (.tail _ (.tail _ (.tail _ (.tail _ (.tail _ (.head _))))))),λQ E k=>d8q hL ok hg e k⟩
 | hush=>exact .inl ⟨_,.tail _ (.tail _ (.tail _ (.tail _ (.tail _ (.tail _ (.tail _ (.tail _ (.head _)))))))),λQ E k=>e2a hL ok hg e k⟩
 | unwish=>exact .inl ⟨_,.tail _ (.tail _ (.tail _ (.tail _ (.tail _ (.tail _ (.tail _ (.tail _ (.tail _ (.head _))))))))),λQ E k=>d5n hL ok hg e k⟩
 | card=>exact .inl ⟨_,.tail _ (.tail _ (.tail _ (.tail _ (.tail _ (.tail _ (.tail _ (.tail _ (.tail _ (.tail _ (.head _)))))))))),λQ E k=>e2b hL ok hg e k⟩
 | ring=>exact .inl ⟨_,.tail _ (.tail _ (.tail _ (.tail _ (.tail _ (.tail _ (.tail _ (.tail _ (.tail _ (.tail _ (.tail _ (.head _))))))))))),λQ E k=>e1v hL ok hg e k⟩
 | told=>exact .inr ⟨a3v (show("told":Str) ∉ b9r by decide),_,.head _,λQ E k=>e1u hL ok hg e k⟩
 | lacks=>exact .inr ⟨a3v (show("lacks":Str) ∉ b9r by decide),_,.tail _ (.head _),λQ E k=>d8t hL ok hg e k⟩
 | number=>exact .inr ⟨a3v (show("number":Str) ∉ b9r by decide),_,.tail _ (.tail _ (.head _)),λQ E k=>d5o hL ok hg e k⟩
 | left=>exact .inr ⟨a3v (show("left":Str) ∉ b9r by decide),_,.tail _ (.tail _ (.tail _ (.head _))),λQ E k=>e1z hL ok hg e k⟩
 | thing=>exact .inr ⟨a3v (show("thing":Str) ∉ b9r by decide),_,.tail _ (.tail _ (.tail _ (.tail _ (.head _)))),λQ E k=>d8p hL ok hg e k⟩
 | mark=>exact .inr ⟨a3v (show("mark":Str) ∉ b9r by decide),_,.tail _ (.tail _ (.tail _ (.tail _ (.tail _ (.head _))))),λQ E k=>e1x hL ok hg e k⟩
 | free=>exact absurd e ok.gv.st
theorem e2x(hL:↑7)(ok:Ok L)(ht:TRel L Tq ps)(hb:L.bk.length<=400):
  (∃sp,(Tq.st,sp)∈c7i cl/\∀Q E,a8i cl H A L (tstep L) Gq tl (lt.tch (tT L)) Q->sp [.ref A.tk] H Q E)\/(Tq.st ∉ (c7i cl).map (·.1)/\∃sp,(Tq.st,sp)∈e6c cl/\∀Q E,a8i cl H A L (tstep L) Gq tl (lt.tch (tT L)) Q->sp [.ref A.tk] H Q E):=by
 rw[ht.st];cases e:L.ts with
 | rouse=>exact .inl ⟨_,.head _,λQ E k=>d7g hL ok ht e k⟩
 | clear=>exact .inl ⟨_,.tail _ (.head _),λQ E k=>d7i hL ok ht e k⟩
 | mute=>exact .inl ⟨_,.tail _ (.tail _ (.head _)),λQ E k=>e0h hL ok ht e k⟩
 | marks=>exact .inl ⟨_,.tail _ (.tail _ (.tail _ (.head _))),λQ E k=>d7h hL ok ht e k⟩
 | look=>exact .inl ⟨_,.tail _ (.tail _ (.tail _ (.tail _ (.head _)))),λQ E k=>e0i hL ok ht e k⟩
 | wish=>exact .inl ⟨_,.tail _ (.tail _ (.tail _ (.tail _ (.tail _ (.head _))))),λQ E k=>e0f hL ok ht e k⟩
 | again=>exact .inl ⟨_,.tail _ (.tail _ (.tail _ (.tail _ (.tail _ (.tail _ (.head _)))))),λQ E k=>d7j hL ok ht e k⟩
 | sleep=>exact .inl ⟨_,.tail _ (.tail _ (.tail _ (.tail _ (.tail _ (.tail _ (.tail _ (.head _))))))),λQ E k=>d7f hL ok ht e k⟩
 | hush=>exact .inl ⟨_,.tail _ (.tail _ (.tail _ (.tail _ (.tail _ (.tail _ (.tail _ (.tail _ (.head _)))))))),λQ E k=>e0k hL ok ht e k⟩
 | unwish=>exact .inl ⟨_,.tail _ (.tail _ (.tail _ (.tail _ (.tail _ (.tail _ (.tail _ (.tail _ (.tail _ (.head _))))))))),λQ E k=>d3q hL ok ht e k⟩
 | card=>exact .inl ⟨_,.tail _ (.tail _ (.tail _ (.tail _ (.tail _ (.tail _ (.tail _ (.tail _ (.tail _ (.tail _ (.head _)))))))))),λQ E k=>e0m hL ok ht e k⟩
 | ring=>exact .inl ⟨_,.tail _ (.tail _ (.tail _ (.tail _ (.tail _ (.tail _ (.tail _ (.tail _ (.tail _ (.tail _ (.tail _ (.head _))))))))))),λQ E k=>e0g hL ok ht e k⟩
 | number=>exact .inr ⟨a3v (show("number":Str) ∉ b9r by decide),_,.head _,λQ E k=>d3r hL ok ht e k⟩
 | left=>exact .inr ⟨a3v (show("left":Str) ∉ b9r by decide),_,.tail _ (.head _),λQ E k=>e0j hL ok ht e k⟩
 | thing=>exact .inr ⟨a3v (show("thing":Str) ∉ b9r by decide),_,.tail _ (.tail _ (.head _)),λQ E k=>d7e hL ok ht e hb k⟩
 | free=>exact .inr ⟨a3v (show("free":Str) ∉ b9r by decide),_,.tail _ (.tail _ (.tail _ (.head _))),λQ E k=>e0l hL ok ht e k⟩
 | told=>exact absurd e ok.tk.st.1
 | lacks=>exact absurd e ok.tk.st.2.1
 | mark=>exact absurd e ok.tk.st.2.2
end
def d0z(tl:List Tr):Lt:=⟨(tl.length:Int),tl.getLast?.map (·.2)⟩
theorem b7v(tl:List Tr)(b:Bool)(t:Tc):d0z (tl++[(b,t)])=(d0z tl).tch t:=by
 unfold d0z Lt.tch;rw[List.length_append,List.getLast?_append];simp
def LR(cl:Cl)(H:Hp)(A:Ad)(L:Ln)(tl:List Tr):Prop:=∃ps Gq Tq,∃_u:Unit,LH cl H A L.n L.c L.os L.bk L.gseen L.tseen ps Gq Tq tl (d0z tl)/\GRel L Gq/\TRel L Tq ps/\Ok L
theorem KpA.updE{A:Ad}{H:Hp}{j:Nat}{x:Addr}{o:HO}(h:x=A.o j)(hj:j<8):KpA A H (L2.upd H x o):=h ▸ KpA.upd hj
def b5b(b:Bool)(L:Ln):Ln:=if b then gstep L else tstep L
def a9r(b:Bool)(L:Ln):Bool:=b && (decide (L.gs=.look) && decide (tot L.os<=L.g))
def e8e(b:Bool)(L:Ln):Tc:=if b then gT L else tT L
def trB(b:Bool)(L:Ln)(tl:List Tr):List Tr:=if a9r b L then tl else tl++[(b,e8e b L)]
theorem d7b{b:Bool}{L:Ln}{tl:List Tr}(h:a9r b L=true):trB b L tl=tl:=if_pos h
theorem d0e{b:Bool}{L:Ln}{tl:List Tr}(h:a9r b L=false):trB b L tl=tl++[(b,e8e b L)]:=if_neg (by rw[h];decide)
theorem a4y(L:Ln):(gstep L).n=L.n/\(gstep L).os=L.os/\(gstep L).bk=L.bk/\(gstep L).tseen=L.tseen/\(gstep L).ts=L.ts/\(gstep L).f=L.f/\(gstep L).t=L.t:=by
 unfold gstep;cases L.gs <;> dsimp only <;> (repeat' split) <;> exact⟨rfl,rfl,rfl,rfl,rfl,rfl,rfl⟩
theorem a6r(L:Ln):(tstep L).n=L.n/\(tstep L).os=L.os/\(tstep L).gseen=L.gseen/\(tstep L).gs=L.gs/\(tstep L).g=L.g:=by
 unfold tstep b0z;cases L.ts <;> dsimp only <;> (repeat' split) <;> exact⟨rfl,rfl,rfl,rfl,rfl⟩
theorem TRel.gstep{L:Ln}{Tq:Tm}{ps:List Int}(h:TRel L Tq ps):TRel (gstep L) Tq ps:=by
 obtain⟨n,os,_,_,ts,f,t⟩:=a4y L;exact⟨by rw[ts];exact h.st,by rw[ts,t,n];exact h.he,by rw[ts,f,n];exact h.nf,by rw[ts,os,t];exact h.nu,by rw[ts,os,t];exact h.le,by rw[ts,os,f,t];exact h.pa⟩
theorem GRel.tstep{L:Ln}{Gq:Gm}(h:GRel L Gq):GRel (tstep L) Gq:=by
 obtain⟨n,os,_,gs,g⟩:=a6r L;have gi':gi (Pr.tstep L)=gi L:=by unfold gi;rw[gs,g]
 exact⟨by rw[gs];exact h.st,by rw[gs,gi',n];exact h.he,by rw[gs,gi',os];exact h.nu,by rw[gs,gi',os];exact h.le⟩
theorem c2t{L:Ln}{Gq:Gm}(ok:Ok L)(hg:GRel L Gq):(Gq.st="look"->b1a L.os Gq.nu Gq.le)/\(decide (Gq.st="look") && !b6i L.os Gq.nu Gq.le)=a9r true L:=by
 by_cases e:L.gs=.look
 ·have g0:gi L=L.g:=d8m e ↑6
  have nu0:Gq.nu=a0a L.os L.g:=by rw[<- g0];exact hg.nu (by rw[e];decide) (by rw[e];decide)
  have le0:Gq.le=a0g L.os L.g:=by rw[<- g0];exact hg.le (by rw[e];decide) (by rw[e];decide) (by rw[e];decide)
  have s0:Gq.st="look":=by rw[hg.st,e];rfl
  rw[nu0,le0];refine⟨λ_=>b0l (n:=L.n) ok.core.gt,?_⟩;unfold a9r;rw[s0,e,d3d ok.core.good ok.core.gt];by_cases y:L.g<tot L.os
  ·rw[decide_eq_true y,decide_eq_false (p:=tot L.os<=L.g) ↑3];rfl
  ·rw[decide_eq_false y,decide_eq_true (p:=tot L.os<=L.g) ↑3];rfl
 ·have s0:Gq.st≠"look":=by
   rw[hg.st];intro z;apply e;cases q:L.gs <;> rw[q] at z <;> first|rfl|exact absurd z ↑6
  refine⟨λz=>absurd z s0,?_⟩;unfold a9r;rw[decide_eq_false s0,decide_eq_false e]
  rfl
theorem d2e{L:Ln}(h:a9r true L=true):gstep L=L:=by
 unfold a9r at h;rw[Bool.true_and,Bool.and_eq_true,decide_eq_true_eq,decide_eq_true_eq] at h;unfold gstep;rw[h.1];exact if_neg ↑3
abbrev a5j:Stmt:=m9 (top 73) 4
theorem a5x:g7 ["self","deed"] ["self"] (d8 a5j):=↑1
theorem c3x(D:DefM K cl.Giver "step" "Hand.step" a5j ["self"])(T:Txt K mg cl)(GR:MethT P w K mg qb cl.Giver "resting" 4 ["self"] (a4j cl))(O:DT P w K mg qb cl.d_DEEDS_hand 7 (c7i cl))(GO:MethT P w K mg qb cl.Giver "own_deed" 6 ["self"] (a6t cl))(G_Board_last_touch:MethT P w K mg qb cl.Board "last_touch" 1 ["self"] (a2c cl)):MethT P w K mg qb cl.Giver "step" 8 ["self"] (λvs H Q E=>∃(A:Ad)(L:Ln)(tl:List Tr),vs=[.ref A.gv]/\LR cl H A L tl/\L.os.length<=400/\tl.length<=4000000/\∀H' A',LR cl H' A' (b5b true L) (trB true L tl)->KpA A H H'->Nx A A' H->Q (.bl (!a9r true L)) H'):=by
 refine D.fn a5x ↑5 ↑2
 ·fail "l"
 ·obtain⟨A,L,tl,rfl,⟨ps,Gq,Tq,lt,hL,hg,ht,ok⟩,os4,tl5,k⟩:=h
  refine⟨_,(d5 (a0s (a8c (l9 (k:=4) (pv 0) hr ↑6 i4))
     (d9 (j1 a9s))
     v3)
   (d5 (a0s (k8 (c3c (K:=K)) ↑4 (a2h T.r_DEEDS_hand rfl) (by with_unfolding_all rfl))
     (
     d5 (n6 (i:=1) a5x.nd rfl (.inl rfl) (v4 (c9p (K:=K)) (a2h T.r_DEEDS_hand rfl) ↑4 (λ_ _=>rfl)))
     (d9 (m6 (K:=K) (pv 0) (b7u (k:=7) (i:=1) rfl (Or.inl rfl) hr ↑6 i4 (a7 (pv 0) d6)))))
     (d9 (m6 (K:=K) (pv 0) (l9 (k:=6) (pv 0) hr ↑6 i4))))
   (d5 (j9 (a0o (K:=K) ↑4 (a7 (o8 (op_catTK (K:=K)) (b7b (a7 ↑4 d6)) (a0m ↑4 T.k_Board G_Board_last_touch hr ↑6 i4)) d6)))
   (d9 (j1 a9s))))),?_⟩
  obtain⟨dx,ex⟩:=hL.gv;obtain⟨kvs,kd,hv,hno⟩:=O.ex;fail "e";refine⟨A.gv,cl.Giver,dx,_,_,_,rfl,ex,rfl,T.k_Giver,GR,?_⟩;ext;refine⟨A,_,_,_,_,_,_,ps,Gq,Tq,tl,_,rfl,hL,(c2t ok hg).1,?_⟩;rw[(c2t ok hg).2];ext;refine c7j (λy=>?_) (λy=>?_)
  ·ext
   have q:=k H A (by rw[d7b y,show b5b true L=L from d2e y];exact⟨ps,Gq,Tq,lt,hL,hg,ht,ok⟩) (λ_ _ e _=>e) (Nx.refl A H)
   rw[y] at q;exact q
  have nr:L.gs=.look->L.g<tot L.os:=λz=>by
   unfold a9r at y;rw[z,Bool.true_and] at y;have:¬ tot L.os<=L.g:=λz2=>by rw[decide_eq_true z2] at y;cases y
   lia
  rcases e5o hL ok hg nr with ⟨sp,hm,hd⟩|⟨hn,sp,hm,hd⟩
  ·obtain⟨fa,pn,e1,F⟩:=hv _ _ hm
   ext;refine⟨cl.d_DEEDS_hand,_,kvs,rfl,rfl,kd,?_⟩;rw[e1];refine⟨true,rfl,?_⟩;rw[if_pos rfl];ext;refine⟨cl.d_DEEDS_hand,_,kvs,_,.ref fa,rfl,rfl,kd,e1,rfl,?_⟩;ext;refine⟨fa,pn,sp,rfl,F,?_⟩;ext;refine hd _ _ λH1 A1 Gq1 z1 z2 z3 z4=>?_;have ea:A.gv=A1.gv:=(z4.1 2 ↑3).symm;have e4:A1.kt=A.kt:=z4.1 4 ↑3;obtain⟨dx1,ex1⟩:=z1.gv;obtain⟨xs,ext,lxs,_⟩:=z1.tr;have lxm:(xs.map V.ref).length=tl.length:=by rw[List.length_map];exact lxs
   have n24:A1.kt≠A.gv:=by rw[ea];exact z1.nd 4 2 ↑3 ↑3 ↑3
   have z5:LH cl (upd H1 A.gv (gvO cl dx1 A1 { Gq1 with st:=b0s (gstep L).gs })) A1 L.n (gstep L).c L.os L.bk (gstep L).gseen L.tseen ps { Gq1 with st:=b0s (gstep L).gs } Tq tl ((d0z tl).tch (gT L)):=by rw[ea];exact z1.setG
   rw[<- ea] at ex1;ext;refine⟨by decide,λp hp=>?_⟩
   have z6:=z5.same (i9 (o:=.tup [.str "giver"]) hp);obtain⟨many,last,hB,hLt⟩:=z6.brd;obtain⟨tt,rfl,nt,ett⟩:=hLt.2.2 _ rfl;obtain⟨⟨dxb,eb⟩,_⟩:=id hB;ext;refine⟨A1.bd,A1.l,L.n,_,many,.ref tt,rfl,hB,?_⟩;ext;refine⟨p,tt,_,_,rfl,rfl,SqT.of d7,SqT.of ett,(λz=>(nomatch z)),(show 1+3<=sizeLine by decide),(λz=>(nomatch z)),λ_ p2 hp2=>?_⟩
   have z7:=(z6.same (i9 (o:=.tup ([.str "giver"]++[.str (gT L).d,.int (gT L).k,.int (gT L).x])) hp2));have h60:5000000<=sizeLine:=by decide
   have np:A1.kt≠p:=λz=>by rw[<- z,c7 n24,ext] at hp;cases hp
   have np2:A1.kt≠p2:=λz=>by rw[<- z,c7 np,c7 n24,ext] at hp2;cases hp2
   ext;have z8:=z7.setTr (t:=(true,gT L)) (by rw[c7 np2,c7 np,c7 n24];exact ext) (z6.off hp2) (z6.nfo hp2) d7
   have q:=k _ A1 (by rw[d0e y];exact⟨ps,_,Tq,lt,(by obtain⟨sn,so,sb,st,_⟩:=a4y L;show LH cl _ A1 (gstep L).n (gstep L).c (gstep L).os (gstep L).bk (gstep L).gseen (gstep L).tseen _ _ _ (tl++[(true,gT L)]) (d0z (tl++[(true,gT L)]));rw[sn,so,sb,st,b7v];exact z8),z2,ht.gstep,d1d ok⟩) ((((z3.trans (KpA.upd (j:=2) ↑3)).trans (KpA.of (i9 hp))).trans (KpA.of (i9 hp2))).trans (KpA.updE (j:=4) e4 ↑3)) z4
   rw[y] at q;exact q
  ·ext
   refine⟨cl.d_DEEDS_hand,_,kvs,rfl,rfl,kd,?_⟩;rw[hno _ hn];refine⟨false,rfl,?_⟩;rw[if_neg ↑6];fail "e";refine⟨A.gv,cl.Giver,dx,_,_,_,rfl,ex,rfl,T.k_Giver,GO,?_⟩;ext;refine⟨A,_,_,_,_,_,_,ps,Gq,Tq,tl,_,sp,rfl,hL,hm,?_⟩;refine hd _ _ λH1 A1 Gq1 z1 z2 z3 z4=>?_;have ea:A.gv=A1.gv:=(z4.1 2 ↑3).symm;have e4:A1.kt=A.kt:=z4.1 4 ↑3;obtain⟨dx1,ex1⟩:=z1.gv;obtain⟨xs,ext,lxs,_⟩:=z1.tr;have lxm:(xs.map V.ref).length=tl.length:=by rw[List.length_map];exact lxs
   have n24:A1.kt≠A.gv:=by rw[ea];exact z1.nd 4 2 ↑3 ↑3 ↑3
   have z5:LH cl (upd H1 A.gv (gvO cl dx1 A1 { Gq1 with st:=b0s (gstep L).gs })) A1 L.n (gstep L).c L.os L.bk (gstep L).gseen L.tseen ps { Gq1 with st:=b0s (gstep L).gs } Tq tl ((d0z tl).tch (gT L)):=by rw[ea];exact z1.setG
   rw[<- ea] at ex1;ext;refine⟨by decide,λp hp=>?_⟩
   have z6:=z5.same (i9 (o:=.tup [.str "giver"]) hp);obtain⟨many,last,hB,hLt⟩:=z6.brd;obtain⟨tt,rfl,nt,ett⟩:=hLt.2.2 _ rfl;obtain⟨⟨dxb,eb⟩,_⟩:=id hB;ext;refine⟨A1.bd,A1.l,L.n,_,many,.ref tt,rfl,hB,?_⟩;ext;refine⟨p,tt,_,_,rfl,rfl,SqT.of d7,SqT.of ett,(λz=>(nomatch z)),(show 1+3<=sizeLine by decide),(λz=>(nomatch z)),λ_ p2 hp2=>?_⟩
   have z7:=(z6.same (i9 (o:=.tup ([.str "giver"]++[.str (gT L).d,.int (gT L).k,.int (gT L).x])) hp2));have h60:5000000<=sizeLine:=by decide
   have np:A1.kt≠p:=λz=>by rw[<- z,c7 n24,ext] at hp;cases hp
   have np2:A1.kt≠p2:=λz=>by rw[<- z,c7 np,c7 n24,ext] at hp2;cases hp2
   ext;have z8:=z7.setTr (t:=(true,gT L)) (by rw[c7 np2,c7 np,c7 n24];exact ext) (z6.off hp2) (z6.nfo hp2) d7
   have q:=k _ A1 (by rw[d0e y];exact⟨ps,_,Tq,lt,(by obtain⟨sn,so,sb,st,_⟩:=a4y L;show LH cl _ A1 (gstep L).n (gstep L).c (gstep L).os (gstep L).bk (gstep L).gseen (gstep L).tseen _ _ _ (tl++[(true,gT L)]) (d0z (tl++[(true,gT L)]));rw[sn,so,sb,st,b7v];exact z8),z2,ht.gstep,d1d ok⟩) ((((z3.trans (KpA.upd (j:=2) ↑3)).trans (KpA.of (i9 hp))).trans (KpA.of (i9 hp2))).trans (KpA.updE (j:=4) e4 ↑3)) z4
   rw[y] at q;exact q
theorem c3o(D:DefM K cl.Taker "step" "Hand.step" a5j ["self"])(T:Txt K mg cl)(GR:MethT P w K mg qb cl.Taker "resting" 4 ["self"] (a4i cl))(O:DT P w K mg qb cl.d_DEEDS_hand 7 (c7i cl))(GO:MethT P w K mg qb cl.Taker "own_deed" 6 ["self"] (a6s cl))(G_Board_last_touch:MethT P w K mg qb cl.Board "last_touch" 1 ["self"] (a2c cl)):MethT P w K mg qb cl.Taker "step" 8 ["self"] (λvs H Q E=>∃(A:Ad)(L:Ln)(tl:List Tr),vs=[.ref A.tk]/\LR cl H A L tl/\L.os.length<=400/\tl.length<=4000000/\∀H' A',LR cl H' A' (b5b false L) (trB false L tl)->KpA A H H'->Nx A A' H->Q (.bl (!a9r false L)) H'):=by
 refine D.fn a5x ↑5 ↑2
 ·fail "l"
 ·obtain⟨A,L,tl,rfl,⟨ps,Gq,Tq,lt,hL,hg,ht,ok⟩,os4,tl5,k⟩:=h
  refine⟨_,(d5 (a0s (a8c (l9 (k:=4) (pv 0) hr ↑6 i4))
     (d9 (j1 a9s))
     v3)
   (d5 (a0s (k8 (c3c (K:=K)) ↑4 (a2h T.r_DEEDS_hand rfl) (by with_unfolding_all rfl))
     (
     d5 (n6 (i:=1) a5x.nd rfl (.inl rfl) (v4 (c9p (K:=K)) (a2h T.r_DEEDS_hand rfl) ↑4 (λ_ _=>rfl)))
     (d9 (m6 (K:=K) (pv 0) (b7u (k:=7) (i:=1) rfl (Or.inl rfl) hr ↑6 i4 (a7 (pv 0) d6)))))
     (d9 (m6 (K:=K) (pv 0) (l9 (k:=6) (pv 0) hr ↑6 i4))))
   (d5 (j9 (a0o (K:=K) ↑4 (a7 (o8 (op_catTK (K:=K)) (b7b (a7 ↑4 d6)) (a0m ↑4 T.k_Board G_Board_last_touch hr ↑6 i4)) d6)))
   (d9 (j1 a9s))))),?_⟩
  obtain⟨dx,ex⟩:=hL.tk;obtain⟨kvs,kd,hv,hno⟩:=O.ex;fail "e";refine⟨A.tk,cl.Taker,dx,_,_,_,rfl,ex,rfl,T.k_Taker,GR,?_⟩;ext;refine⟨A,_,_,_,_,_,_,ps,Gq,Tq,tl,_,0,rfl,hL,?_⟩;ext;rcases e2x hL ok ht (Nat.le_trans ok.tk.bl os4) with ⟨sp,hm,hd⟩|⟨hn,sp,hm,hd⟩
  ·obtain⟨fa,pn,e1,F⟩:=hv _ _ hm
   ext;refine⟨cl.d_DEEDS_hand,_,kvs,rfl,rfl,kd,?_⟩;rw[e1];refine⟨true,rfl,?_⟩;rw[if_pos rfl];ext;refine⟨cl.d_DEEDS_hand,_,kvs,_,.ref fa,rfl,rfl,kd,e1,rfl,?_⟩;ext;refine⟨fa,pn,sp,rfl,F,?_⟩;ext;refine hd _ _ λH1 A1 Tq1 ps1 z1 z2 z3 z4=>?_;have ea:A.tk=A1.tk:=(z4.1 3 ↑3).symm;have e4:A1.kt=A.kt:=z4.1 4 ↑3;obtain⟨dx1,ex1⟩:=z1.tk;obtain⟨xs,ext,lxs,_⟩:=z1.tr;have lxm:(xs.map V.ref).length=tl.length:=by rw[List.length_map];exact lxs
   have n24:A1.kt≠A.tk:=by rw[ea];exact z1.nd 4 3 ↑3 ↑3 ↑3
   have z5:LH cl (upd H1 A.tk (tkO cl dx1 A1 { Tq1 with st:=b0s (tstep L).ts })) A1 L.n (tstep L).c L.os (tstep L).bk L.gseen (tstep L).tseen ps1 Gq { Tq1 with st:=b0s (tstep L).ts } tl ((d0z tl).tch (tT L)):=by rw[ea];exact z1.setT
   rw[<- ea] at ex1;ext;refine⟨by decide,λp hp=>?_⟩
   have z6:=z5.same (i9 (o:=.tup [.str "taker"]) hp);obtain⟨many,last,hB,hLt⟩:=z6.brd;obtain⟨tt,rfl,nt,ett⟩:=hLt.2.2 _ rfl;obtain⟨⟨dxb,eb⟩,_⟩:=id hB;ext;refine⟨A1.bd,A1.l,L.n,_,many,.ref tt,rfl,hB,?_⟩;ext;refine⟨p,tt,_,_,rfl,rfl,SqT.of d7,SqT.of ett,(λz=>(nomatch z)),(show 1+3<=sizeLine by decide),(λz=>(nomatch z)),λ_ p2 hp2=>?_⟩
   have z7:=(z6.same (i9 (o:=.tup ([.str "taker"]++[.str (tT L).d,.int (tT L).k,.int (tT L).x])) hp2));have h60:5000000<=sizeLine:=by decide
   have np:A1.kt≠p:=λz=>by rw[<- z,c7 n24,ext] at hp;cases hp
   have np2:A1.kt≠p2:=λz=>by rw[<- z,c7 np,c7 n24,ext] at hp2;cases hp2
   ext;have z8:=z7.setTr (t:=(false,tT L)) (by rw[c7 np2,c7 np,c7 n24];exact ext) (z6.off hp2) (z6.nfo hp2) d7
   have q:=k _ A1 (by rw[d0e (b:=false) rfl];exact⟨ps1,Gq,_,lt,(by obtain⟨sn,so,sb,st,_⟩:=a6r L;show LH cl _ A1 (tstep L).n (tstep L).c (tstep L).os (tstep L).bk (tstep L).gseen (tstep L).tseen _ _ _ (tl++[(false,tT L)]) (d0z (tl++[(false,tT L)]));rw[sn,so,sb,b7v];exact z8),hg.tstep,z2,d0d ok⟩) ((((z3.trans (KpA.upd (j:=3) ↑3)).trans (KpA.of (i9 hp))).trans (KpA.of (i9 hp2))).trans (KpA.updE (j:=4) e4 ↑3)) z4
   exact q
  ·ext
   refine⟨cl.d_DEEDS_hand,_,kvs,rfl,rfl,kd,?_⟩;rw[hno _ hn];refine⟨false,rfl,?_⟩;rw[if_neg ↑6];fail "e";refine⟨A.tk,cl.Taker,dx,_,_,_,rfl,ex,rfl,T.k_Taker,GO,?_⟩;ext;refine⟨A,_,_,_,_,_,_,ps,Gq,Tq,tl,_,sp,rfl,hL,hm,?_⟩;refine hd _ _ λH1 A1 Tq1 ps1 z1 z2 z3 z4=>?_;have ea:A.tk=A1.tk:=(z4.1 3 ↑3).symm;have e4:A1.kt=A.kt:=z4.1 4 ↑3;obtain⟨dx1,ex1⟩:=z1.tk;obtain⟨xs,ext,lxs,_⟩:=z1.tr;have lxm:(xs.map V.ref).length=tl.length:=by rw[List.length_map];exact lxs
   have n24:A1.kt≠A.tk:=by rw[ea];exact z1.nd 4 3 ↑3 ↑3 ↑3
   have z5:LH cl (upd H1 A.tk (tkO cl dx1 A1 { Tq1 with st:=b0s (tstep L).ts })) A1 L.n (tstep L).c L.os (tstep L).bk L.gseen (tstep L).tseen ps1 Gq { Tq1 with st:=b0s (tstep L).ts } tl ((d0z tl).tch (tT L)):=by rw[ea];exact z1.setT
   rw[<- ea] at ex1;ext;refine⟨by decide,λp hp=>?_⟩
   have z6:=z5.same (i9 (o:=.tup [.str "taker"]) hp);obtain⟨many,last,hB,hLt⟩:=z6.brd;obtain⟨tt,rfl,nt,ett⟩:=hLt.2.2 _ rfl;obtain⟨⟨dxb,eb⟩,_⟩:=id hB;ext;refine⟨A1.bd,A1.l,L.n,_,many,.ref tt,rfl,hB,?_⟩;ext;refine⟨p,tt,_,_,rfl,rfl,SqT.of d7,SqT.of ett,(λz=>(nomatch z)),(show 1+3<=sizeLine by decide),(λz=>(nomatch z)),λ_ p2 hp2=>?_⟩
   have z7:=(z6.same (i9 (o:=.tup ([.str "taker"]++[.str (tT L).d,.int (tT L).k,.int (tT L).x])) hp2));have h60:5000000<=sizeLine:=by decide
   have np:A1.kt≠p:=λz=>by rw[<- z,c7 n24,ext] at hp;cases hp
   have np2:A1.kt≠p2:=λz=>by rw[<- z,c7 np,c7 n24,ext] at hp2;cases hp2
   ext;have z8:=z7.setTr (t:=(false,tT L)) (by rw[c7 np2,c7 np,c7 n24];exact ext) (z6.off hp2) (z6.nfo hp2) d7
   have q:=k _ A1 (by rw[d0e (b:=false) rfl];exact⟨ps1,Gq,_,lt,(by obtain⟨sn,so,sb,st,_⟩:=a6r L;show LH cl _ A1 (tstep L).n (tstep L).c (tstep L).os (tstep L).bk (tstep L).gseen (tstep L).tseen _ _ _ (tl++[(false,tT L)]) (d0z (tl++[(false,tT L)]));rw[sn,so,sb,b7v];exact z8),hg.tstep,z2,d0d ok⟩) ((((z3.trans (KpA.upd (j:=3) ↑3)).trans (KpA.of (i9 hp))).trans (KpA.of (i9 hp2))).trans (KpA.updE (j:=4) e4 ↑3)) z4
   exact q
def RP(H:Hp)(os:List (List Int))(D:Addr)(i:Nat)(acc:List V)(H':Hp):Prop:=H' D=some (.lst acc)/\Same H H'/\∃ps:List Addr,acc=ps.map V.ref/\ps.length=i/\∀(j:Nat)(p:Addr)(o:List Int),ps[j]?=some p->os[j]?=some o->H p=none/\p≠D/\H' p=some (.lst (o.map V.int))
theorem RP.new{H:Hp}{os:List (List Int)}{D:Addr}(hD:H D=none):RP H os D 0 [] (upd H D (.lst [])):=⟨d7,i9 hD,[],rfl,rfl,λj p o h=>by simp at h⟩
theorem v2{H H':Hp}{p:Addr}(s:Same H H')(h:H' p=none):H p=none:=by
 cases e:H p with
 | none=>rfl
 | some o=>rw[s _ _ e] at h;cases h
theorem RP.push{H H':Hp}{os:List (List Int)}{o:List Int}{D p:Addr}{i:Nat}{acc:List V}(h:RP H os D i acc H')(hD:H D=none)(ho:os[i]?=some o)(hp:H' p=none):
  (upd H' p (.lst (o.map V.int))) D=some (.lst acc)/\RP H os D (i+1) (acc++[.ref p]) (upd (upd H' p (.lst (o.map V.int))) D (.lst (acc++[.ref p]))):=by
 obtain⟨e,s,ps,rfl,hl,r⟩:=h;have nD:D≠p:=λz=>by rw[<- z,e] at hp;cases hp
 have hp0:=v2 s hp;refine⟨by rw[c7 nD];exact e,d7,?_,ps++[p],by rw[List.map_append];rfl,by rw[List.length_append,hl];rfl,?_⟩
 ·intro b u eb
  rw[c7 (λz=>by rw[z,hD] at eb;cases eb),c7 (λz=>by rw[z,hp0] at eb;cases eb)]
  exact s _ _ eb
 ·intro j q u hj hu
  by_cases y:j<ps.length
  ·rw[List.getElem?_append_left y] at hj
   obtain⟨a,b,c⟩:=r j q u hj hu;refine⟨a,b,?_⟩;rw[c7 b,c7 (λz=>by rw[z,hp] at c;cases c)]
   exact c
  ·rw[List.getElem?_append_right ↑3] at hj
   have:j=i:=by
    by_cases z:j-ps.length=0
    ·lia
    ·rw[List.getElem?_eq_none (by simp;lia)] at hj;cases hj
   subst this;rw[hl,Nat.sub_self] at hj;cases hj;rw[ho] at hu;cases hu;exact⟨hp0,Ne.symm nD,by rw[c7 (Ne.symm nD)];exact d7⟩
def NewRows(H H':Hp)(D:Addr)(os:List (List Int)):Prop:=H D=none/\Same H H'/\∃ps:List Addr,H' D=some (.lst (ps.map V.ref))/\ps.length=os.length/\∀(j:Nat)(p:Addr)(o:List Int),ps[j]?=some p->os[j]?=some o->H p=none/\p≠D/\H' p=some (.lst (o.map V.int))
theorem RP.done{H H':Hp}{os:List (List Int)}{D:Addr}{acc:List V}(h:RP H os D os.length acc H')(hD:H D=none):NewRows H H' D os:=by
 obtain⟨e,s,ps,rfl,hl,r⟩:=h;exact⟨hD,s,ps,e,hl,r⟩
def b1i(cl:Cl):Sp:=λvs H Q _=>∃(n:Int)(a:Addr)(o:List Int),vs=[.int n,.ref a]/\H a=some (.lst (o.map V.int))/\1<=(o.length:Int)/\(o.length:Int)<=n/\∀p,H p=none->Q (.ref p) (upd H p (.lst (o.map V.int)))
abbrev b5l:Stmt:=top 75
theorem c8e:g7 ["size","order"] ["size","order"] (d8 b5l):=↑1
theorem c8w(D:DefT K mg "order_of" b5l ["size","order"])(T:Txt K mg cl):FnT P w K mg qb "order_of" 1 ["size","order"] (b1i cl):=by
 refine D.fn c8e ↑5 ↑2
 ·fail "l"
 ·obtain⟨n,a,o,rfl,ea,h1,h2,k⟩:=h
  refine⟨_,(d5 (a0s (PW.pt (b4h (k8 b2w (l7 (n5 (K:=K)) (by rfl) T.z_len PySem.boot_len (a7 (pv 1) d6)) i8 (n9 _)) (a8b (k8 c6b (l7 (n5 (K:=K)) (by rfl) T.z_len PySem.boot_len (a7 (pv 1) d6)) (pv 0) (n9 _)))))
     (d9 a2x)
     v3)
   (d9 (j1 (a2y (a7e (K:=K)) (by rfl) T.z_list PyProof.Rows.boot_list (a7 (pv 1) d6))))),?_⟩
  ext;rw[List.length_map];refine a3b (λy=>absurd y ↑3) (λ_=>?_);ext;rw[List.length_map];refine a3b (λy=>absurd y ↑3) (λ_=>?_);ext;exact k
def a8j(cl:Cl):Sp:=λvs H Q _=>∃(n:Int)(a:Addr)(os:List (List Int)),vs=[.int n,.ref a]/\Rws H a os/\(∀o∈os,1<=(o.length:Int)/\(o.length:Int)<=n)/\os.length<=1000/\∀p H',NewRows H H' p os->Q (.ref p) H'
abbrev b1u:Stmt:=top 76
theorem c5a:g7 ["size","orders"] ["size","orders"] (d8 b1u):=↑1
theorem c6d(D:DefT K mg "orders_of" b1u ["size","orders"])(T:Txt K mg cl)(G_order_of:FnT P w K mg qb "order_of" 1 ["size","order"] (b1i cl)):FnT P w K mg qb "orders_of" 2 ["size","orders"] (a8j cl):=by
 refine D.fn c5a ↑5 ↑2
 ·fail "l"
 ·obtain⟨n,a,os,rfl,⟨ps,ea,hl,hr'⟩,ho,hz,k⟩:=h
  refine⟨_,(d9 (j1 (b2v (N:=["order","size"]) (nt:=1) (fr:=[0]) rfl (b7x (i:=0) rfl rfl (by decide +kernel) (by decide +kernel) rfl rfl rfl rfl rfl rfl rfl) (a1l (K:=K) (pv 1)) (a6p ↑6) (λ_ _ _ _ _=>y7 (i:=0) (show(["order","size"]:List Str).Nodup by decide +kernel) rfl (Or.inl rfl) (Or.inr rfl)) (λ_ _ _ _ _=>(k7 G_order_of hr ↑6 rfl d2h (a7 (pv 1) (a7 (pv 0) d6))))))),?_⟩
  have h60:6000<=sizeLine:=by decide
  refine⟨_,rfl,a,rfl,⟨_,SqL.of ea⟩,a7d (xs:=ps.map V.ref) (by rw[List.length_map];lia) (RP H os) (λD hD=>RP.new hD) ?_ ?_ ?_⟩
  ·rintro D i acc H' ⟨e,s,qs,rfl,hq,_⟩
   exact⟨e,by rw[List.length_map];exact hq,SqL.of (s _ _ ea)⟩
  ·intro D i x acc H' hD hx hp
   rw[List.getElem?_map] at hx;cases hpi:ps[i]? with
   | none=>rw[hpi] at hx;cases hx
   | some q=>
    rw[hpi] at hx;cases hx;have hi:i<os.length:=by rw[<- hl];exact(List.getElem?_eq_some_iff.mp hpi).1
    have hoi:=List.getElem?_eq_getElem hi;have eq:=hp.2.1 _ _ (hr' i q _ hpi hoi);obtain⟨l1,l2⟩:=ho _ (List.getElem_mem hi);ext;refine⟨n,q,_,rfl,eq,l1,l2,λp hpn=>?_⟩;exact hp.push hD hoi hpn
  ·intro D acc H' hD hp
   rw[List.length_map,hl] at hp;exact k _ _ (hp.done hD)
def a6f:Sp:=λvs H Q _=>∃(a:Addr)(os:List (List Int)),vs=[.ref a]/\Rws H a os/\os.length<=1000/\∀p H',NewRows H H' p os->Q (.ref p) H'
abbrev a7r:Stmt:=top 77
theorem b9y:g7 ["orders"] ["orders"] (d8 a7r):=↑1
theorem c0g(D:DefT K mg "orders_told" a7r ["orders"])(T:Txt K mg cl):FnT P w K mg qb "orders_told" 1 ["orders"] a6f:=by
 refine D.fn b9y ↑5 ↑2
 ·fail "l"
 ·obtain⟨a,os,rfl,⟨ps,ea,hl,hr'⟩,hz,k⟩:=h
  refine⟨_,(d9 (j1 (b2v (N:=["order"]) (nt:=1) (fr:=[]) rfl (b0q rfl rfl (by decide +kernel) (by decide +kernel) rfl rfl) (a1l (K:=K) (pv 0)) (a6p ↑6) (λ_ _ _ _ _=>y7 (i:=0) (show(["order"]:List Str).Nodup by decide +kernel) rfl (Or.inl rfl) (Or.inr rfl)) (λ_ _ _ _ _=>(a2y (a7e (K:=K)) (by rfl) T.z_list PyProof.Rows.boot_list (a7 (pv 0) d6)))))),?_⟩
  have h60:6000<=sizeLine:=by decide
  refine⟨_,rfl,a,rfl,⟨_,SqL.of ea⟩,a7d (xs:=ps.map V.ref) (by rw[List.length_map];lia) (RP H os) (λD hD=>RP.new hD) ?_ ?_ ?_⟩
  ·rintro D i acc H' ⟨e,s,qs,rfl,hq,_⟩
   exact⟨e,by rw[List.length_map];exact hq,SqL.of (s _ _ ea)⟩
  ·intro D i x acc H' hD hx hp
   rw[List.getElem?_map] at hx;cases hpi:ps[i]? with
   | none=>rw[hpi] at hx;cases hx
   | some q=>
    rw[hpi] at hx;cases hx;have hi:i<os.length:=by rw[<- hl];exact(List.getElem?_eq_some_iff.mp hpi).1
    have hoi:=List.getElem?_eq_getElem hi;have eq:=hp.2.1 _ _ (hr' i q _ hpi hoi);ext;exact λp hpn=>hp.push hD hoi hpn
  ·intro D acc H' hD hp
   rw[List.length_map,hl] at hp;exact k _ _ (hp.done hD)
section
variable{H H':Hp}{A:Ad}{n:Nat}{c:Pr.Cells}{os bk:List (List Int)}{gs ts ps:List Int}{Gq:Gm}{Tq:Tm}{tl:List Tr}{lt:Lt}
theorem LH.setKg{os':List (List Int)}{u:HO}(h:LH cl H A n c os bk gs ts ps Gq Tq tl lt)(hk:RwsX A (upd H A.kg u) A.kg os')(hf:∀x,A.fo x->Unr (upd H A.kg u) A.kg x):LH cl (upd H A.kg u) A n c os' bk gs ts ps Gq Tq tl lt:=by
 have ne:∀i,i<8->i≠5->A.o i≠A.kg:=λi h8 h2=>h.nd i 5 h8 ↑3 h2;obtain⟨m,l,hB,hL⟩:=h.brd;refine⟨⟨m,l,hB.keep (ps:=[A.kg]) (Kp.upd (by simp)) (by simpa using ne 0 ↑3 ↑3) (by simpa using ne 1 ↑3 ↑3),hL.kpa (KpA.upd (j:=5) ↑3)⟩,?_,?_,?_,?_,hk,h.book.set (j:=5) ↑3 rfl (ne 6 ↑3 ↑3),?_,?_,h.nd,h.om,λx hx=>?_⟩
 ·obtain⟨d,z⟩:=h.gv;exact⟨d,by rw[c7 (ne 2 ↑3 ↑3)];exact z⟩
 ·obtain⟨d,z⟩:=h.tk;exact⟨d,by rw[c7 (ne 3 ↑3 ↑3)];exact z⟩
 ·rw[c7 (h.om 5 ↑3).1];exact h.mg
 ·rw[c7 (h.om 5 ↑3).2];exact h.mt
 ·rw[c7 (ne 7 ↑3 ↑3)];exact h.pa
 ·exact h.tr.kpa (KpA.upd (j:=5) ↑3) λo z=>by rw[c7 (ne 4 ↑3 ↑3)];exact z
 ·obtain⟨⟨o,a⟩,b,c1,d,e,f,g⟩:=h.fo x hx
  exact⟨⟨o,by rw[c7 (b 5 ↑3)];exact a⟩,b,c1,d,hf x hx,(λxs z=>f xs (by rw[c7 (ne 6 ↑3 ↑3)] at z;exact z)),(λC dx fs z=>g C dx fs (by rw[c7 (ne 0 ↑3 ↑3)] at z;exact z))⟩
theorem RwsX.push{a p:Addr}{qs:List Addr}{o:List Int}(h:RwsX A H a os)(e:H a=some (.lst (qs.map V.ref)))(ha:∃j,j<8/\a=A.o j)(hp:H p=none)(off:∀j,j<8->p≠A.o j):
  RwsX A (upd (upd H p (.lst (o.map V.int))) a (.lst (qs.map V.ref++[.ref p]))) a (os++[o]):=by
 obtain⟨ps,e',hl,r⟩:=h;have eq:ps.map V.ref=qs.map V.ref:=by rw[e] at e';exact(HO.lst.inj (Option.some.inj e')).symm
 obtain⟨ja,hja,rfl⟩:=ha;refine⟨ps++[p],by rw[d7,List.map_append,eq];rfl,by rw[List.length_append,List.length_append,hl];rfl,?_⟩
 intro i q u hq hu;by_cases y:i<ps.length
 ·rw[List.getElem?_append_left y] at hq
  rw[List.getElem?_append_left ↑3] at hu;obtain⟨a1,a2⟩:=r i q u hq hu;refine⟨a1,?_⟩;rw[c7 (a1 ja hja),c7 (λz=>by rw[z,hp] at a2;cases a2)]
  exact a2
 ·rw[List.getElem?_append_right ↑3] at hq hu
  have i0:i-ps.length=0:=by
   by_cases z:i-ps.length=0
   ·exact z
   ·rw[List.getElem?_eq_none (by simp;lia)] at hq;cases hq
  rw[i0] at hq;rw[<- hl,i0] at hu;cases hq;cases hu;exact⟨off,by rw[c7 (off ja hja)];exact d7⟩
end
theorem GRel.add{L:Ln}{Gq:Gm}{o:List Int}(h:GRel L Gq)(ok:Ok L):GRel (a3w L o) Gq:=by
 have gl:gi L<=tot L.os:=by unfold gi;have:=ok.core.gt;split <;> lia
 have e1:a0a (L.os++[o]) (gi L)=a0a L.os (gi L):=by
  cases e:gi L with
  | zero=>rfl
  | succ i=>show((o9 (L.os++[o]) i:Nat):Int)=o9 L.os i;rw[(a4w ↑3).1]
 have e2:a0g (L.os++[o]) (gi L)=a0g L.os (gi L):=by
  cases e:gi L with
  | zero=>rfl
  | succ i=>show((t9 (L.os++[o]) i:Nat):Int)=t9 L.os i;rw[(a4w ↑3).2]
 exact⟨h.st,h.he,λa b=>(h.nu a b).trans e1.symm,λa b c=>(h.le a b c).trans e2.symm⟩
theorem TRel.add{L:Ln}{Tq:Tm}{ps:List Int}{o:List Int}(h:TRel L Tq ps)(ok:Ok L):TRel (a3w L o) Tq ps:=by
 have gt:=ok.core.gt;have tg:=ok.tk.tg;have e3:a1c (L.os++[o]) L.f (L.t-L.f)=a1c L.os L.f (L.t-L.f):=by
  unfold a1c;apply List.map_congr_left;intro m hm;have:=List.mem_range.mp hm;exact b6h ↑3
 refine⟨h.st,h.he,h.nf,λz=>?_,λz=>?_,?_⟩
 ·have lt:L.t<L.g:=ok.tk.lies (by rcases z with z|z <;> (have z':L.ts=_:=z;rw[z'];rfl))
  show Tq.nu=((o9 (L.os++[o]) L.t:Nat):Int);rw[(a4w ↑3).1];exact h.nu z
 ·have lt:L.t<L.g:=ok.tk.lies (by have z':L.ts=_:=z;rw[z'];rfl)
  show Tq.le=((t9 (L.os++[o]) L.t:Nat):Int);rw[(a4w ↑3).2];exact h.le z
 ·show ps=if Stg.come L.ts=true\/L.ts=.free\/L.ts.frees=true then [] else a1c (L.os++[o]) L.f (L.t-L.f)
  rw[e3];exact h.pa
def b6y(cl:Cl):Sp:=λvs H Q _=>∃(A:Ad)(L:Ln)(tl:List Tr)(a:Addr)(o:List Int),vs=[.ref A.gv,.ref a]/\LR cl H A L tl/\H a=some (.lst (o.map V.int))/\1<=o.length/\o.length<=L.n/\L.os.length<=400/\∀H',LR cl H' A (a3w L o) tl->KpA A H H'->Q (.int L.os.length) H'
abbrev b2u:Stmt:=m9 (top 89) 1
theorem c5v:g7 ["self","order"] ["self","order"] (d8 b2u):=↑1
theorem c7c(D:DefM K cl.Giver "add" "Giver.add" b2u ["self","order"])(T:Txt K mg cl)(G_order_of:FnT P w K mg qb "order_of" 1 ["size","order"] (b1i cl)):MethT P w K mg qb cl.Giver "add" 2 ["self","order"] (b6y cl):=by
 refine D.fn c5v ↑5 ↑2
 ·fail "l"
 ·obtain⟨A,L,tl,a,o,rfl,⟨ps,Gq,Tq,lt,hL,hg,ht,ok⟩,ea,o1,o2,os4,k⟩:=h
  refine⟨_,(d5 (j9 (a0o (K:=K) ↑4 (a7 (k7 G_order_of hr ↑6 rfl i4 (a7 (a0c (K:=K) ↑4) (a7 (pv 1) d6))) d6)))
   (d9 (j1 (o8 b1g (l7 (n5 (K:=K)) (by rfl) T.z_len PySem.boot_len (a7 ↑4 d6)) i8)))),?_⟩
  have h60:6000<=sizeLine:=by decide
  obtain⟨dx,ex⟩:=hL.gv;obtain⟨qs,ek,hl,_⟩:=id hL.kept;obtain⟨many,last,hB,hLast⟩:=hL.brd;obtain⟨⟨dxb,eb⟩,_⟩:=id hB;ext;refine⟨_,a,o,rfl,ea,by lia,by lia,λp hp=>?_⟩
  have nk:A.kg≠p:=λz=>by rw[<- z,ek] at hp;cases hp
  have ng:A.gv≠p:=λz=>by rw[<- z,ex] at hp;cases hp
  have ngk:A.gv≠A.kg:=hL.nd 2 5 ↑3 ↑3 ↑3;have hlm:(qs.map V.ref).length=L.os.length:=by rw[List.length_map,hl]
  ext;rw[List.length_append,hlm];have z1:=(hL.same (i9 (o:=.lst (o.map V.int)) hp)).setKg (u:=.lst (qs.map V.ref++[.ref p])) (hL.kept.push ek ⟨5,by lia,rfl⟩ hp (hL.off hp)) (λx hx xs z=>by
   rw[d7] at z;cases z;obtain⟨⟨_,a⟩,_,_,_,e,_⟩:=hL.fo x hx;intro q;rcases List.mem_append.mp q with q|q
   ·exact e _ ek q
   ·exact g9 a hp (V.ref.inj (List.mem_singleton.mp q)))
  have q:=k _ ⟨ps,Gq,Tq,lt,z1,hg.add ok,ht.add ok,c9z ok ⟨o1,o2⟩⟩ ((KpA.of (i9 hp)).trans (KpA.upd (j:=5) ↑3));rw[show((L.os.length+[V.ref p].length:Nat):Int)-1=(L.os.length:Int) by show((L.os.length+1:Nat):Int)-1=_;lia]
  exact q
theorem RwsX.rws{A:Ad}{H:Hp}{a:Addr}{os:List (List Int)}(h:RwsX A H a os):Rws H a os:=by
 obtain⟨ps,e,l,r⟩:=h;exact⟨ps,e,l,λi p o a b=>(r i p o a b).2⟩
def a5d(cl:Cl):Sp:=λvs H Q _=>∃(A:Ad)(L:Ln)(tl:List Tr),vs=[.ref A.gv]/\LR cl H A L tl/\L.os.length<=1000/\∀p H',NewRows H H' p L.os->Q (.ref p) H'
abbrev a6o:Stmt:=m9 (top 89) 2
theorem b8k:g7 ["self"] ["self"] (d8 a6o):=↑1
theorem b9g(D:DefM K cl.Giver "orders" "Giver.orders" a6o ["self"])(T:Txt K mg cl)(G_orders_told:FnT P w K mg qb "orders_told" 1 ["orders"] a6f):MethT P w K mg qb cl.Giver "orders" 2 ["self"] (a5d cl):=by
 refine D.fn b8k ↑5 ↑2
 ·fail "l"
 ·obtain⟨A,L,tl,rfl,⟨ps,Gq,Tq,lt,hL,hg,ht,ok⟩,os4,k⟩:=h
  refine⟨_,(d9 (j1 (k7 G_orders_told hr ↑6 rfl i4 (a7 ↑4 d6)))),?_⟩;obtain⟨dx,ex⟩:=hL.gv;ext;exact⟨A.kg,L.os,rfl,hL.kept.rws,os4,k⟩
def a7o(cl:Cl):Sp:=λvs H Q _=>∃(A:Ad)(L:Ln)(tl:List Tr),vs=[.ref A.tk]/\LR cl H A L tl/\L.os.length<=1000/\∀p H',NewRows H H' p L.bk->Q (.ref p) H'
abbrev a9g:Stmt:=m9 (top 99) 1
theorem c2e:g7 ["self"] ["self"] (d8 a9g):=↑1
theorem c3q(D:DefM K cl.Taker "book" "Taker.book" a9g ["self"])(T:Txt K mg cl)(G_orders_told:FnT P w K mg qb "orders_told" 1 ["orders"] a6f):MethT P w K mg qb cl.Taker "book" 2 ["self"] (a7o cl):=by
 refine D.fn c2e ↑5 ↑2
 ·fail "l"
 ·obtain⟨A,L,tl,rfl,⟨ps,Gq,Tq,lt,hL,hg,ht,ok⟩,os4,k⟩:=h
  refine⟨_,(d9 (j1 (k7 G_orders_told hr ↑6 rfl i4 (a7 ↑4 d6)))),?_⟩;obtain⟨dx,ex⟩:=hL.tk;ext;exact⟨A.kk,L.bk,rfl,hL.book.rws,(have:=ok.tk.bl;by lia),k⟩
theorem _root_.L2.MethT.toBase{x m:Str}{C f:Addr}{k:Nat}{ps:List Str}{sp:Sp}(M:MethT P w K mg qb C m k ps sp)(hf:findIn K (.ref C) m=some (some (.ref f)))(cm:e9b K C m f)(hm:mg x=some (.ref C)):d6v P w K mg qb x m k ps sp:=by
 obtain⟨f',fd,F,hM,hb⟩:=M.ex;have:f'=f:=by have:=hM.at_;rw[hf] at this;cases this;rfl
 subst this;exact⟨C,f',fd,F,cm,hm,hb⟩
def a5v(cl:Cl):Sp:=λvs H Q _=>
 (∃(x dx bd:Addr)(v:V),vs=[.ref x,.ref bd,.str "giver",.str "taker",.str "told"]/\H x=some (.ins cl.Giver dx [("kept",v)])/\∀m r H',H m=none->H r=none->m≠r->Kp [x] H H'->H' m=some (.lst [])->H' r=some (.lst [])->H' x=some (.ins cl.Giver dx [("kept",v),("board",.ref bd),("name",.str "giver"),("other",.str "taker"),("stage_behind_marks",.str "told"),("stage_now",.str "rouse"),("marks_read",.ref m),("here",.non),("touched",.ref r)])->Q .non H')
 \/ (∃(x dx bd:Addr)(v:V),vs=[.ref x,.ref bd,.str "taker",.str "giver",.str "look"]/\H x=some (.ins cl.Taker dx [("taken",v)])/\∀m r H',H m=none->H r=none->m≠r->Kp [x] H H'->H' m=some (.lst [])->H' r=some (.lst [])->H' x=some (.ins cl.Taker dx [("taken",v),("board",.ref bd),("name",.str "taker"),("other",.str "giver"),("stage_behind_marks",.str "look"),("stage_now",.str "rouse"),("marks_read",.ref m),("here",.non),("touched",.ref r)])->Q .non H')
abbrev b2o:Stmt:=m9 (top 73) 0
theorem c5r:g7 ["self","board","name","other","stage_behind_marks"] ["self","board","name","other","stage_behind_marks"] (d8 b2o):=↑1
theorem c6w{C:Addr}(D:DefM K C "__init__" "Hand.__init__" b2o ["self","board","name","other","stage_behind_marks"])(T:Txt K mg cl):MethT P w K mg qb C "__init__" 1 ["self","board","name","other","stage_behind_marks"] (a5v cl):=by
 refine D.fn c5r ↑5 ↑2
 ·rcases h with ⟨x,dx,bd,v,rfl,_⟩|⟨x,dx,bd,v,rfl,_⟩ <;> rfl
 ·skip
  refine⟨_,(d5 (m6 (K:=K) (pv 0) (pv 1))
   (d5 (m6 (K:=K) (pv 0) (pv 2))
   (d5 (m6 (K:=K) (pv 0) (pv 3))
   (d5 (m6 (K:=K) (pv 0) (pv 4))
   (d5 (m6 (K:=K) (pv 0) k0)
   (d5 (m6 (K:=K) (pv 0) (t7 d6))
   (d5 (m6 (K:=K) (pv 0) d4k)
   (d9 (m6 (K:=K) (pv 0) (t7 d6)))))))))),?_⟩
  rcases h with h|h
  ·obtain⟨x,dx,bd,v,rfl,ex,k⟩:=h
   ext;refine⟨Nat.zero_le _,λm hm=>?_⟩;have nm:m≠x:=λz=>by rw[z,d7] at hm;cases hm
   have hm0:H m=none:=by simpa only [c7 nm] using hm
   ext;refine⟨Nat.zero_le _,λr hr0=>?_⟩;have nr:r≠x:=λz=>by rw[z,d7] at hr0;cases hr0
   have nmr:r≠m:=λz=>by rw[z,c7 nm,c7 nm,d7] at hr0;cases hr0
   have hr1:H r=none:=by simpa only [c7 nr,c7 nmr] using hr0
   ext;refine k m r _ hm0 hr1 (Ne.symm nmr) (λc o e n=>?_) ?_ ?_ ?_
   ·have nc:c≠x:=λz=>n (by simp[z])
    have c1:c≠m:=λz=>by rw[z,hm0] at e;cases e
    have c2:c≠r:=λz=>by rw[z,hr1] at e;cases e
    simpa only [c7 nc,c7 c1,c7 c2] using e
   ·simp only[c7 nm,c7 (Ne.symm nmr),d7]
   ·simp only[c7 nr,d7]
   ·rw[d7]
    rfl
  ·obtain⟨x,dx,bd,v,rfl,ex,k⟩:=h
   ext;refine⟨Nat.zero_le _,λm hm=>?_⟩;have nm:m≠x:=λz=>by rw[z,d7] at hm;cases hm
   have hm0:H m=none:=by simpa only [c7 nm] using hm
   ext;refine⟨Nat.zero_le _,λr hr0=>?_⟩;have nr:r≠x:=λz=>by rw[z,d7] at hr0;cases hr0
   have nmr:r≠m:=λz=>by rw[z,c7 nm,c7 nm,d7] at hr0;cases hr0
   have hr1:H r=none:=by simpa only [c7 nr,c7 nmr] using hr0
   ext;refine k m r _ hm0 hr1 (Ne.symm nmr) (λc o e n=>?_) ?_ ?_ ?_
   ·have nc:c≠x:=λz=>n (by simp[z])
    have c1:c≠m:=λz=>by rw[z,hm0] at e;cases e
    have c2:c≠r:=λz=>by rw[z,hr1] at e;cases e
    simpa only [c7 nc,c7 c1,c7 c2] using e
   ·simp only[c7 nm,c7 (Ne.symm nmr),d7]
   ·simp only[c7 nr,d7]
   ·rw[d7]
    rfl
def NRw(H H':Hp)(D:Addr)(S:List Addr)(os:List (List Int)):Prop:=∃ps:List Addr,H' D=some (.lst (ps.map V.ref))/\ps.length=os.length/\∀(j:Nat)(p:Addr)(o:List Int),ps[j]?=some p->os[j]?=some o->H p=none/\p≠D/\p ∉ S/\H' p=some (.lst (o.map V.int))
def b3r(cl:Cl):Sp:=λvs H Q _=>∃(x dx bd a l:Addr)(n:Nat)(row:List Int)(many:Int)(last:V)(os:List (List Int)),vs=[.ref x,.ref bd,.ref a]/\H x=some (.ins cl.Giver dx [])/\Brd cl H bd l n row many last/\Rws H a os/\Good n os/\os.length<=1000 /\
 ∀D m r H',H D=none->H m=none->H r=none->D≠m->D≠r->m≠r->Kp [x] H H'->NRw H H' D [m,r] os->H' m=some (.lst [])->H' r=some (.lst [])->H' x=some (.ins cl.Giver dx [("kept",.ref D),("board",.ref bd),("name",.str "giver"),("other",.str "taker"),("stage_behind_marks",.str "told"),("stage_now",.str "rouse"),("marks_read",.ref m),("here",.non),("touched",.ref r),("number",.int (-1)),("left",.int 0)])->Q .non H'
abbrev a9n:Stmt:=m9 (top 89) 0
theorem c2l:g7 ["self","board","orders"] ["self","board","orders"] (d8 a9n):=↑1
theorem c3y(D:DefM K cl.Giver "__init__" "Giver.__init__" a9n ["self","board","orders"])(T:Txt K mg cl)(G_orders_of:FnT P w K mg qb "orders_of" 2 ["size","orders"] (a8j cl))(G_Hand_init:d6v P w K mg qb "Hand" "__init__" 1 ["self","board","name","other","stage_behind_marks"] (a5v cl)):MethT P w K mg qb cl.Giver "__init__" 3 ["self","board","orders"] (b3r cl):=by
 refine D.fn c2l ↑5 ↑2
 ·fail "l"
 ·obtain⟨x,dx,bd,a,l,n,row,many,last,os,rfl,ex,hB,hR,hG,hz,k⟩:=h
  refine⟨_,(d5 (m6 (K:=K) (pv 0) (k7 G_orders_of hr ↑6 rfl i4 (a7 (a0c (K:=K) (pv 1)) (a7 (pv 2) d6))))
   (d5 (j9 (d4o G_Hand_init hr ↑6 rfl i4 (a7 (pv 0) (a7 (pv 1) (a7 k0 (a7 k0 (a7 k0 d6)))))))
   (d5 (m6 (K:=K) (pv 0) (v5 T.m_NO_ORDER rfl))
   (d9 (m6 (K:=K) (pv 0) i8))))),?_⟩
  obtain⟨⟨dxb,eb⟩,_⟩:=id hB;ext;refine⟨n,a,os,rfl,hR,(λo ho=>by have:=hG o ho;lia),hz,λD H1 nr=>?_⟩
  obtain⟨hD,s1,qs,eD,lq,rq⟩:=nr;have ex1:=s1 _ _ ex;have nDx:D≠x:=λz=>by rw[z,ex] at hD;cases hD
  ext;refine .inl ⟨x,dx,bd,.ref D,rfl,d7,λm r H2 hm hr0 hmr kp em er ex2=>?_⟩;have nmx:m≠x:=λz=>by rw[z,d7] at hm;cases hm
  have nrx:r≠x:=λz=>by rw[z,d7] at hr0;cases hr0
  rw[c7 nmx] at hm;rw[c7 nrx] at hr0;have hm0:=v2 s1 hm;have hr1:=v2 s1 hr0;have nDm:D≠m:=λz=>by rw[<- z,eD] at hm;cases hm
  have nDr:D≠r:=λz=>by rw[<- z,eD] at hr0;cases hr0
  have eD2:H2 D=some (.lst (qs.map V.ref)):=kp _ _ (by rw[c7 nDx];exact eD) (by simpa using nDx)
  have k1:Kp [x] H H2:=λc o e n=>kp _ _ (by rw[c7 (by simpa using n)];exact s1 _ _ e) n
  have rows2:∀(j:Nat)(p:Addr)(o:List Int),qs[j]?=some p->os[j]?=some o->H p=none/\p≠D/\p≠x/\p≠m/\p≠r/\H2 p=some (.lst (o.map V.int)):=λj p o hp ho=>by
   obtain⟨a1,a2,a3⟩:=rq j p o hp ho;have px:p≠x:=λz=>by rw[z,ex] at a1;cases a1
   exact⟨a1,a2,px,(λz=>by rw[z,hm] at a3;cases a3),(λz=>by rw[z,hr0] at a3;cases a3),kp _ _ (by rw[c7 px];exact a3) (by simpa using px)⟩
  ext;refine k D m r _ hD hm0 hr1 nDm nDr hmr (λc o e n=>?_) ⟨qs,?_,lq,λj p o hp ho=>?_⟩ ?_ ?_ ?_
  ·have nc:c≠x:=by simpa using n
   simp only[c7 nc];exact k1 _ _ e n
  ·simp only[c7 nDx]
   exact eD2
  ·obtain⟨a1,a2,a3,a4,a5,a6⟩:=rows2 j p o hp ho
   refine⟨a1,a2,by simp[a4,a5],?_⟩
   simp only[c7 a3];exact a6
  ·simp only[c7 nmx]
   exact em
  ·simp only[c7 nrx]
   exact er
  ·rw[d7]
   rfl
def b3m(cl:Cl):Sp:=λvs H Q _=>∃(x dx bd a l:Addr)(n:Nat)(row:List Int)(many:Int)(last:V)(os:List (List Int)),vs=[.ref x,.ref bd,.ref a]/\H x=some (.ins cl.Taker dx [])/\Brd cl H bd l n row many last/\Rws H a os/\Good n os/\os.length<=1000 /\
 ∀D m r q H',H D=none->H m=none->H r=none->D≠m->D≠r->m≠r->H q=none->q≠D->q≠m->q≠r->H' q=some (.lst [])->Kp [x] H H'->NRw H H' D [m,r,q] os->H' m=some (.lst [])->H' r=some (.lst [])->H' x=some (.ins cl.Taker dx [("taken",.ref D),("board",.ref bd),("name",.str "taker"),("other",.str "giver"),("stage_behind_marks",.str "look"),("stage_now",.str "rouse"),("marks_read",.ref m),("here",.non),("touched",.ref r),("not_freed",.non),("number",.int 0),("left",.int 0),("parts",.ref q)])->Q .non H'
abbrev a9f:Stmt:=m9 (top 99) 0
theorem c2d:g7 ["self","board","book"] ["self","board","book"] (d8 a9f):=↑1
theorem c3p(D:DefM K cl.Taker "__init__" "Taker.__init__" a9f ["self","board","book"])(T:Txt K mg cl)(G_orders_of:FnT P w K mg qb "orders_of" 2 ["size","orders"] (a8j cl))(G_Hand_init:d6v P w K mg qb "Hand" "__init__" 1 ["self","board","name","other","stage_behind_marks"] (a5v cl)):MethT P w K mg qb cl.Taker "__init__" 3 ["self","board","book"] (b3m cl):=by
 refine D.fn c2d ↑5 ↑2
 ·fail "l"
 ·obtain⟨x,dx,bd,a,l,n,row,many,last,os,rfl,ex,hB,hR,hG,hz,k⟩:=h
  refine⟨_,(d5 (m6 (K:=K) (pv 0) (k7 G_orders_of hr ↑6 rfl i4 (a7 (a0c (K:=K) (pv 1)) (a7 (pv 2) d6))))
   (d5 (j9 (d4o G_Hand_init hr ↑6 rfl i4 (a7 (pv 0) (a7 (pv 1) (a7 k0 (a7 k0 (a7 k0 d6)))))))
   (d5 (m6 (K:=K) (pv 0) d4k)
   (d5 (m6 (K:=K) (pv 0) i8)
   (d5 (m6 (K:=K) (pv 0) i8)
   (d9 (m6 (K:=K) (pv 0) (t7 d6)))))))),?_⟩
  obtain⟨⟨dxb,eb⟩,_⟩:=id hB;ext;refine⟨n,a,os,rfl,hR,(λo ho=>by have:=hG o ho;lia),hz,λD H1 nr=>?_⟩
  obtain⟨hD,s1,qs,eD,lq,rq⟩:=nr;have ex1:=s1 _ _ ex;have nDx:D≠x:=λz=>by rw[z,ex] at hD;cases hD
  ext;refine .inr ⟨x,dx,bd,.ref D,rfl,d7,λm r H2 hm hr0 hmr kp em er ex2=>?_⟩;have nmx:m≠x:=λz=>by rw[z,d7] at hm;cases hm
  have nrx:r≠x:=λz=>by rw[z,d7] at hr0;cases hr0
  rw[c7 nmx] at hm;rw[c7 nrx] at hr0;have hm0:=v2 s1 hm;have hr1:=v2 s1 hr0;have nDm:D≠m:=λz=>by rw[<- z,eD] at hm;cases hm
  have nDr:D≠r:=λz=>by rw[<- z,eD] at hr0;cases hr0
  have eD2:H2 D=some (.lst (qs.map V.ref)):=kp _ _ (by rw[c7 nDx];exact eD) (by simpa using nDx)
  have k1:Kp [x] H H2:=λc o e n=>kp _ _ (by rw[c7 (by simpa using n)];exact s1 _ _ e) n
  have rows2:∀(j:Nat)(p:Addr)(o:List Int),qs[j]?=some p->os[j]?=some o->H p=none/\p≠D/\p≠x/\p≠m/\p≠r/\H2 p=some (.lst (o.map V.int)):=λj p o hp ho=>by
   obtain⟨a1,a2,a3⟩:=rq j p o hp ho;have px:p≠x:=λz=>by rw[z,ex] at a1;cases a1
   exact⟨a1,a2,px,(λz=>by rw[z,hm] at a3;cases a3),(λz=>by rw[z,hr0] at a3;cases a3),kp _ _ (by rw[c7 px];exact a3) (by simpa using px)⟩
  ext;refine⟨Nat.zero_le _,λq hq=>?_⟩;have nqx:q≠x:=λz=>by rw[z,d7] at hq;cases hq
  simp only[c7 nqx] at hq;have hq0:H q=none:=by
   cases e:H q with
   | none=>rfl
   | some o=>rw[k1 _ _ e (by simpa using nqx)] at hq;cases hq
  have nqD:q≠D:=λz=>by rw[z,eD2] at hq;cases hq
  have nqm:q≠m:=λz=>by rw[z,em] at hq;cases hq
  have nqr:q≠r:=λz=>by rw[z,er] at hq;cases hq
  ext;refine k D m r q _ hD hm0 hr1 nDm nDr hmr hq0 nqD nqm nqr ?_ (λc o e n=>?_) ⟨qs,?_,lq,λj p o hp ho=>?_⟩ ?_ ?_ ?_
  ·simp only[c7 nqx,d7]
  ·have nc:c≠x:=by simpa using n
   have ncq:c≠q:=λz=>by rw[z,hq0] at e;cases e
   simp only[c7 nc,c7 ncq];exact k1 _ _ e n
  ·simp only[c7 nDx,c7 (Ne.symm nqD)]
   exact eD2
  ·obtain⟨a1,a2,a3,a4,a5,a6⟩:=rows2 j p o hp ho
   have npq:p≠q:=λz=>by rw[z,hq] at a6;cases a6
   refine⟨a1,a2,by simp[a4,a5,npq],?_⟩
   simp only[c7 a3,c7 npq];exact a6
  ·simp only[c7 nmx,c7 (Ne.symm nqm)]
   exact em
  ·simp only[c7 nrx,c7 (Ne.symm nqr)]
   exact er
  ·rw[d7]
   rfl
theorem b9i{H:Hp}{x dx:Addr}{u o:HO}(hx:H x=none)(hd:H dx=none)(ne:dx≠x):Same H (upd (upd H dx u) x o) :=
 (i9 hd).trans (i9 (by rw[c7 (Ne.symm ne)];exact hx))
def a2a(cl:Cl):Sp:=λvs H Q _=>∃(la dxl bd kt a l:Addr)(n:Nat)(row:List Int)(many:Int)(last:V)(os:List (List Int))(fs:List (Str×V))(fs':Addr->List (Str×V)),vs=[.ref la,.ref a]/\((fs=([("board",.ref bd),("kept_trail",.ref kt)]:List (Str×V))/\∀g,fs' g=([("board",.ref bd),("kept_trail",.ref kt),("giver",.ref g)]:List (Str×V)))\/(∃v u,fs=([("board",.ref bd),("kept_trail",.ref kt),("giver",v),("taker",u)]:List (Str×V))/\∀g,fs' g=([("board",.ref bd),("kept_trail",.ref kt),("giver",.ref g),("taker",u)]:List (Str×V))))/\H la=some (.ins cl.Lane dxl fs)/\Brd cl H bd l n row many last/\Rws H a os/\Good n os/\os.length<=1000 /\
 ∀g dxg D m H',H g=none->H D=none->H m=none->g≠D->g≠m->D≠m->Kp [la] H H'->NRw H H' D [g,m] os->H' m=some (.lst [])->H' g=some (.ins cl.Giver dxg [("kept",.ref D),("board",.ref bd),("name",.str "giver"),("other",.str "taker"),("stage_behind_marks",.str "told"),("stage_now",.str "rouse"),("marks_read",.ref m),("here",.non),("touched",.ref kt),("number",.int (-1)),("left",.int 0)])->H' la=some (.ins cl.Lane dxl (fs' g))->Q .non H'
abbrev a2s:Stmt:=m9 (top 101) 1
theorem a5f:g7 ["self","orders","giver"] ["self","orders"] (d8 a2s):=↑1
theorem b3a(D:DefM K cl.Lane "place_giver" "Lane.place_giver" a2s ["self","orders"])(T:Txt K mg cl)(G_Giver:MakeT P w K mg qb "Giver" cl.Giver 3 ["self","board","orders"] (b3r cl)):MethT P w K mg qb cl.Lane "place_giver" 5 ["self","orders"] (a2a cl):=by
 refine D.fn a5f ↑5 ↑2
 ·fail "l"
 ·obtain⟨la,dxl,bd,kt,a,l,n,row,many,last,os,fs,fs',rfl,hfs,ela,hB,hR,hG,hz,k⟩:=h
  refine⟨_,(d5 (n6 (i:=2) a5f.nd rfl (.inl rfl) (c5y G_Giver hr ↑6 rfl i4 (a7 ↑4 (a7 (pv 1) d6))))
   (d5 (m6 (K:=K) (pv 2) ↑4)
   (d9 (m6 (K:=K) (pv 0) (pv 2))))),?_⟩
  rcases hfs with hs1|hs2
  ·obtain⟨rfl,hfs⟩:=hs1
   ext;intro x dx hx hdx ne;have sm:=b9i (u:=.own x) (o:=.ins cl.Giver dx []) hx hdx ne;refine⟨x,dx,bd,a,l,n,row,many,last,os,rfl,d7,hB.keep (ps:=[]) (Kp.of sm) (by simp) (by simp),hR.same sm,hG,hz,λD m r H2 hD hm hr0 nDm nDr nmr kp nr em er ex2=>⟨rfl,?_⟩⟩
   fail "f";obtain⟨qs,eD,lq,rq⟩:=nr;ext;refine k x dx D m _ hx hD0 hm0 (Ne.symm nDx) (Ne.symm nmx) nDm (λc o e n=>?_) ⟨qs,?_,lq,λj p o hp ho=>?_⟩ ?_ ?_ ?_
   ·have nc:c≠la:=by simpa using n
    have ncx:c≠x:=λz=>by rw[z,hx] at e;cases e
    simp only[c7 nc,c7 ncx];exact kp _ _ (sm _ _ e) (by simpa using ncx)
   ·simp only[c7 nDx,c7 nDl]
    exact eD
   ·obtain⟨b0,b2,b3,b4⟩:=rq j p o hp ho
    have px:p≠x:=λz=>by rw[z,d7] at b0;cases b0
    have p0:=v2 sm b0;have pl:p≠la:=λz=>by rw[z,ela] at p0;cases p0
    have b1:=(by simpa using b3:p≠m/\p≠r)
    refine⟨p0,b2,by simpa using ⟨px,b1.1⟩,?_⟩
    simp only[c7 px,c7 pl];exact b4
   ·simp only[c7 nmx,c7 nml]
    exact em
   ·rw[c7 (Ne.symm nla),d7]
    rfl
   ·rw[d7,hfs]
    rfl
  ·obtain⟨v,u,rfl,hfs⟩:=hs2
   ext;intro x dx hx hdx ne;have sm:=b9i (u:=.own x) (o:=.ins cl.Giver dx []) hx hdx ne;refine⟨x,dx,bd,a,l,n,row,many,last,os,rfl,d7,hB.keep (ps:=[]) (Kp.of sm) (by simp) (by simp),hR.same sm,hG,hz,λD m r H2 hD hm hr0 nDm nDr nmr kp nr em er ex2=>⟨rfl,?_⟩⟩
   fail "f";obtain⟨qs,eD,lq,rq⟩:=nr;ext;refine k x dx D m _ hx hD0 hm0 (Ne.symm nDx) (Ne.symm nmx) nDm (λc o e n=>?_) ⟨qs,?_,lq,λj p o hp ho=>?_⟩ ?_ ?_ ?_
   ·have nc:c≠la:=by simpa using n
    have ncx:c≠x:=λz=>by rw[z,hx] at e;cases e
    simp only[c7 nc,c7 ncx];exact kp _ _ (sm _ _ e) (by simpa using ncx)
   ·simp only[c7 nDx,c7 nDl]
    exact eD
   ·obtain⟨b0,b2,b3,b4⟩:=rq j p o hp ho
    have px:p≠x:=λz=>by rw[z,d7] at b0;cases b0
    have p0:=v2 sm b0;have pl:p≠la:=λz=>by rw[z,ela] at p0;cases p0
    have b1:=(by simpa using b3:p≠m/\p≠r)
    refine⟨p0,b2,by simpa using ⟨px,b1.1⟩,?_⟩
    simp only[c7 px,c7 pl];exact b4
   ·simp only[c7 nmx,c7 nml]
    exact em
   ·rw[c7 (Ne.symm nla),d7]
    rfl
   ·rw[d7,hfs]
    rfl
def a1z(cl:Cl):Sp:=λvs H Q _=>∃(la dxl bd kt a l:Addr)(n:Nat)(row:List Int)(many:Int)(last:V)(os:List (List Int))(fs:List (Str×V))(fs':Addr->List (Str×V)),vs=[.ref la,.ref a]/\((∃v,fs=([("board",.ref bd),("kept_trail",.ref kt),("giver",v)]:List (Str×V))/\∀g,fs' g=([("board",.ref bd),("kept_trail",.ref kt),("giver",v),("taker",.ref g)]:List (Str×V)))\/(∃v u,fs=([("board",.ref bd),("kept_trail",.ref kt),("giver",v),("taker",u)]:List (Str×V))/\∀g,fs' g=([("board",.ref bd),("kept_trail",.ref kt),("giver",v),("taker",.ref g)]:List (Str×V))))/\H la=some (.ins cl.Lane dxl fs)/\Brd cl H bd l n row many last/\Rws H a os/\Good n os/\os.length<=1000 /\
 ∀g dxg D m q H',H g=none->H D=none->H m=none->g≠D->g≠m->D≠m->H q=none->q≠g->q≠D->q≠m->H' q=some (.lst [])->Kp [la] H H'->NRw H H' D [g,m,q] os->H' m=some (.lst [])->H' g=some (.ins cl.Taker dxg [("taken",.ref D),("board",.ref bd),("name",.str "taker"),("other",.str "giver"),("stage_behind_marks",.str "look"),("stage_now",.str "rouse"),("marks_read",.ref m),("here",.non),("touched",.ref kt),("not_freed",.non),("number",.int 0),("left",.int 0),("parts",.ref q)])->H' la=some (.ins cl.Lane dxl (fs' g))->Q .non H'
abbrev a2r:Stmt:=m9 (top 101) 2
theorem a5e:g7 ["self","book","taker"] ["self","book"] (d8 a2r):=↑1
theorem b2z(D:DefM K cl.Lane "place_taker" "Lane.place_taker" a2r ["self","book"])(T:Txt K mg cl)(G_Taker:MakeT P w K mg qb "Taker" cl.Taker 3 ["self","board","book"] (b3m cl)):MethT P w K mg qb cl.Lane "place_taker" 5 ["self","book"] (a1z cl):=by
 refine D.fn a5e ↑5 ↑2
 ·fail "l"
 ·obtain⟨la,dxl,bd,kt,a,l,n,row,many,last,os,fs,fs',rfl,hfs,ela,hB,hR,hG,hz,k⟩:=h
  refine⟨_,(d5 (n6 (i:=2) a5e.nd rfl (.inl rfl) (c5y G_Taker hr ↑6 rfl i4 (a7 ↑4 (a7 (pv 1) d6))))
   (d5 (m6 (K:=K) (pv 2) ↑4)
   (d9 (m6 (K:=K) (pv 0) (pv 2))))),?_⟩
  rcases hfs with hs1|hs2
  ·obtain⟨v,rfl,hfs⟩:=hs1
   ext;intro x dx hx hdx ne;have sm:=b9i (u:=.own x) (o:=.ins cl.Taker dx []) hx hdx ne;refine⟨x,dx,bd,a,l,n,row,many,last,os,rfl,d7,hB.keep (ps:=[]) (Kp.of sm) (by simp) (by simp),hR.same sm,hG,hz,λD m r q H2 hD hm hr0 nDm nDr nmr hq nqD nqm nqr eq kp nr em er ex2=>⟨rfl,?_⟩⟩
   fail "f";have nqg:q≠x:=λz=>by rw[z,d7] at hq;cases hq
   have hq0:=v2 sm hq;have nql:q≠la:=λz=>by rw[z,ela] at hq0;cases hq0
   obtain⟨qs,eD,lq,rq⟩:=nr;ext;refine k x dx D m q _ hx hD0 hm0 (Ne.symm nDx) (Ne.symm nmx) nDm hq0 nqg nqD nqm ?_ (λc o e n=>?_) ⟨qs,?_,lq,λj p o hp ho=>?_⟩ ?_ ?_ ?_
   ·simp only[c7 nql,c7 nqg]
    exact eq
   ·have nc:c≠la:=by simpa using n
    have ncx:c≠x:=λz=>by rw[z,hx] at e;cases e
    simp only[c7 nc,c7 ncx];exact kp _ _ (sm _ _ e) (by simpa using ncx)
   ·simp only[c7 nDx,c7 nDl]
    exact eD
   ·obtain⟨b0,b2,b3,b4⟩:=rq j p o hp ho
    have px:p≠x:=λz=>by rw[z,d7] at b0;cases b0
    have p0:=v2 sm b0;have pl:p≠la:=λz=>by rw[z,ela] at p0;cases p0
    have b1:=(by simpa using b3:p≠m/\p≠r/\p≠q)
    refine⟨p0,b2,by simpa using ⟨px,b1.1,b1.2.2⟩,?_⟩
    simp only[c7 px,c7 pl];exact b4
   ·simp only[c7 nmx,c7 nml]
    exact em
   ·rw[c7 (Ne.symm nla),d7]
    rfl
   ·rw[d7,hfs]
    rfl
  ·obtain⟨v,u,rfl,hfs⟩:=hs2
   ext;intro x dx hx hdx ne;have sm:=b9i (u:=.own x) (o:=.ins cl.Taker dx []) hx hdx ne;refine⟨x,dx,bd,a,l,n,row,many,last,os,rfl,d7,hB.keep (ps:=[]) (Kp.of sm) (by simp) (by simp),hR.same sm,hG,hz,λD m r q H2 hD hm hr0 nDm nDr nmr hq nqD nqm nqr eq kp nr em er ex2=>⟨rfl,?_⟩⟩
   fail "f";have nqg:q≠x:=λz=>by rw[z,d7] at hq;cases hq
   have hq0:=v2 sm hq;have nql:q≠la:=λz=>by rw[z,ela] at hq0;cases hq0
   obtain⟨qs,eD,lq,rq⟩:=nr;ext;refine k x dx D m q _ hx hD0 hm0 (Ne.symm nDx) (Ne.symm nmx) nDm hq0 nqg nqD nqm ?_ (λc o e n=>?_) ⟨qs,?_,lq,λj p o hp ho=>?_⟩ ?_ ?_ ?_
   ·simp only[c7 nql,c7 nqg]
    exact eq
   ·have nc:c≠la:=by simpa using n
    have ncx:c≠x:=λz=>by rw[z,hx] at e;cases e
    simp only[c7 nc,c7 ncx];exact kp _ _ (sm _ _ e) (by simpa using ncx)
   ·simp only[c7 nDx,c7 nDl]
    exact eD
   ·obtain⟨b0,b2,b3,b4⟩:=rq j p o hp ho
    have px:p≠x:=λz=>by rw[z,d7] at b0;cases b0
    have p0:=v2 sm b0;have pl:p≠la:=λz=>by rw[z,ela] at p0;cases p0
    have b1:=(by simpa using b3:p≠m/\p≠r/\p≠q)
    refine⟨p0,b2,by simpa using ⟨px,b1.1,b1.2.2⟩,?_⟩
    simp only[c7 px,c7 pl];exact b4
   ·simp only[c7 nmx,c7 nml]
    exact em
   ·rw[c7 (Ne.symm nla),d7]
    rfl
   ·rw[d7,hfs]
    rfl
theorem b1n{H:Hp}{x y:Addr}{o u:HO}(hx:H x=some o)(hy:H y=some u)(h:o≠u):x≠y:=λz=>h (by rw[z,hy] at hx;exact(Option.some.inj hx).symm)
abbrev e4j(cl:Cl)(dx:Addr)(A:Ad):HO:=.ins cl.Lane dx [("board",.ref A.bd),("kept_trail",.ref A.kt),("giver",.ref A.gv),("taker",.ref A.tk)]
section
variable{H H':Hp}{A:Ad}{n:Nat}{c:Pr.Cells}{os bk:List (List Int)}{gs ts ps:List Int}{Gq:Gm}{Tq:Tm}{tl:List Tr}{lt:Lt}{la g dxg D m q dxl:Addr}{fs:List (Str×V)}
def Ad.newG(A:Ad)(g D m:Addr):Ad:={ o:=λj=>if j=2 then g else if j=5 then D else A.o j,mg:=m,mt:=A.mt,fo:=A.fo }
theorem Ad.newG_o{j:Nat}(h2:j≠2)(h5:j≠5):(A.newG g D m).o j=A.o j:=by unfold Ad.newG;dsimp only;rw[if_neg h2,if_neg h5]
theorem Ad.newG_off{x:Addr}(h:∀j,j<8->x≠A.o j)(x2:x≠g)(x5:x≠D):∀j,j<8->x≠(A.newG g D m).o j:=λj hj=>by
 by_cases e2:j=2
 ·rw[e2];exact x2
 by_cases e5:j=5
 ·rw[e5];exact x5
 rw[Ad.newG_o e2 e5];exact h j hj
theorem LH.newG(h:LH cl H A n c os bk gs ts ps Gq Tq tl lt)(ela:H la=some (.ins cl.Lane dxl fs))(hla:∀j,j<8->la≠A.o j)(nla:¬ A.fo la)(hg:H g=none)(hD:H D=none)(hm:H m=none)(gD:g≠D)(gm:g≠m)(Dm:D≠m)(kp:Kp [la] H H')(nr:NRw H H' D [g,m] os)(em:H' m=some (.lst []))(eg:H' g=some (.ins cl.Giver dxg [("kept",.ref D),("board",.ref A.bd),("name",.str "giver"),("other",.str "taker"),("stage_behind_marks",.str "told"),("stage_now",.str "rouse"),("marks_read",.ref m),("here",.non),("touched",.ref A.kt),("number",.int (-1)),("left",.int 0)])):
  LH cl H' (A.newG g D m) n c os bk [] ts ps ⟨"rouse",.non,-1,0⟩ Tq tl lt:=by
 have kn:∀x o,H x=some o->x≠la->H' x=some o:=λx o e z=>kp x o e (by simpa using z)
 have kl:∀x xs,H x=some (.lst xs)->H' x=some (.lst xs):=λx xs e=>kn x _ e (b1n e ela (λz=>(nomatch z)));have sN:∀{x y:Addr}{o:HO},H x=some o->H y=none->x≠y:=λe1 e2 z=>by rw[z,e2] at e1;cases e1
 have ho:=h.has;have off:∀{x:Addr}{o:HO},H x=some o->(∀j,j<8->x≠A.o j)->∀j,j<8->x≠(A.newG g D m).o j:=λe z=>Ad.newG_off z (sN e hg) (sN e hD);obtain⟨many,last,hB,hLt⟩:=h.brd;obtain⟨dg,eg0⟩:=h.gv;obtain⟨dt,et0⟩:=h.tk;refine⟨⟨many,last,hB.keep (ps:=[la]) kp (λz=>Ne.symm (hla 0 ↑3) (List.mem_singleton.mp z)) (λz=>Ne.symm (hla 1 ↑3) (List.mem_singleton.mp z)),hLt.1,hLt.2.1,λq0 z=>?_⟩,?_,?_,?_,?_,?_,?_,?_,(h.tr.gen (A':=A.newG g D m) (λo z=>kn _ _ z (Ne.symm (hla 4 ↑3))) λp t e n1 f=>⟨off e n1,f,kn _ _ e (b1n e ela (λz=>(nomatch z)))⟩),?_,?_,?_⟩
 ·obtain⟨t,e,nt,et⟩:=hLt.2.2 q0 z
  exact⟨t,e,off et nt,kn _ _ et (b1n et ela (λz=>(nomatch z)))⟩
 ·exact⟨dxg,eg⟩
 ·exact⟨dt,kn _ _ et0 (Ne.symm (hla 3 ↑3))⟩
 ·exact em
 ·exact kl _ _ h.mt
 ·obtain⟨qs,e,l,r⟩:=nr
  refine⟨qs,e,l,λi p o hp ho2=>?_⟩;obtain⟨p0,pD,pS,pe⟩:=r i p o hp ho2;have pS2:p≠g/\p≠m:=by simpa using pS
  exact⟨Ad.newG_off (λj hj=>λz=>by obtain⟨u,eu⟩:=ho j hj;rw[<- z,p0] at eu;cases eu) pS2.1 pD,pe⟩
 ·obtain⟨qs,e,l,r⟩:=h.book
  refine⟨qs,kl _ _ e,l,λi p o hp ho2=>?_⟩;obtain⟨p1,p2⟩:=r i p o hp ho2;exact⟨off p2 p1,kl _ _ p2⟩
 ·exact kl _ _ h.pa
 ·intro i j hi hj ij
  by_cases i2:i=2
  ·subst i2
   by_cases j5:j=5
   ·subst j5;exact gD
   rw[Ad.newG_o (Ne.symm ij) j5];obtain⟨u,eu⟩:=ho j hj;exact Ne.symm (sN eu hg)
  by_cases i5:i=5
  ·subst i5
   by_cases j2:j=2
   ·subst j2;exact Ne.symm gD
   rw[Ad.newG_o j2 (Ne.symm ij)];obtain⟨u,eu⟩:=ho j hj;exact Ne.symm (sN eu hD)
  rw[Ad.newG_o i2 i5];by_cases j2:j=2
  ·subst j2
   obtain⟨u,eu⟩:=ho i hi;exact sN eu hg
  by_cases j5:j=5
  ·subst j5
   obtain⟨u,eu⟩:=ho i hi;exact sN eu hD
  rw[Ad.newG_o j2 j5];exact h.nd i j hi hj ij
 ·intro i hi
  exact⟨Ad.newG_off (λj hj=>λz=>by obtain⟨u,eu⟩:=ho j hj;rw[<- z,hm] at eu;cases eu) (Ne.symm gm) (Ne.symm Dm) i hi,off h.mt (λj hj=>(h.om j hj).2) i hi⟩
 ·intro x hx
  obtain⟨⟨o,a⟩,b,c1,d,e,f,g⟩:=h.fo x hx;have xla:x≠la:=λz=>nla (z ▸ hx);obtain⟨o0,z0⟩:=ho 0 ↑3;have y0:H' A.bd=H A.bd:=(kn _ _ z0 (Ne.symm (hla 0 ↑3))).trans z0.symm;obtain⟨qs,eq0,lq,rq⟩:=nr;have new:Unr H' D x:=λxs z q0=>by
   rw[eq0] at z;cases z;obtain⟨p,hp,e2⟩:=List.mem_map.mp q0;obtain⟨i,hi,ei⟩:=List.mem_iff_getElem.mp hp;obtain⟨p0,_⟩:=rq i p (os[i]' ↑3) (by rw[<- ei];exact List.getElem?_eq_getElem hi) (List.getElem?_eq_getElem _)
   rw[V.ref.inj e2,a] at p0;cases p0
  obtain⟨xo,ekk,_⟩:=h.book;have y:H' A.kk=H A.kk:=(kl _ _ ekk).trans ekk.symm;exact⟨⟨o,kn _ _ a xla⟩,Ad.newG_off b (sN a hg) (sN a hD),sN a hm,d,new,(λxs z=>f xs (y ▸ z)),(λC dx fs z=>g C dx fs (y0 ▸ z))⟩
def Ad.newT(A:Ad)(g D m q:Addr):Ad:={ o:=λj=>if j=3 then g else if j=6 then D else if j=7 then q else A.o j,mg:=A.mg,mt:=m,fo:=A.fo }
theorem Ad.newT_o{j:Nat}(h3:j≠3)(h6:j≠6)(h7:j≠7):(A.newT g D m q).o j=A.o j:=by unfold Ad.newT;dsimp only;rw[if_neg h3,if_neg h6,if_neg h7]
theorem Ad.newT_off{x:Addr}(h:∀j,j<8->x≠A.o j)(x3:x≠g)(x6:x≠D)(x7:x≠q):∀j,j<8->x≠(A.newT g D m q).o j:=λj hj=>by
 by_cases e3:j=3
 ·rw[e3];exact x3
 by_cases e6:j=6
 ·rw[e6];exact x6
 by_cases e7:j=7
 ·rw[e7];exact x7
 rw[Ad.newT_o e3 e6 e7];exact h j hj
theorem LH.newT(h:LH cl H A n c os bk gs ts ps Gq Tq tl lt)(ela:H la=some (.ins cl.Lane dxl fs))(hla:∀j,j<8->la≠A.o j)(nla:¬ A.fo la)(hg:H g=none)(hD:H D=none)(hm:H m=none)(gD:g≠D)(gm:g≠m)(Dm:D≠m)(hq:H q=none)(qg:q≠g)(qD:q≠D)(qm:q≠m)(eq:H' q=some (.lst []))(kp:Kp [la] H H')(nr:NRw H H' D [g,m,q] bk)(em:H' m=some (.lst []))(eg:H' g=some (.ins cl.Taker dxg [("taken",.ref D),("board",.ref A.bd),("name",.str "taker"),("other",.str "giver"),("stage_behind_marks",.str "look"),("stage_now",.str "rouse"),("marks_read",.ref m),("here",.non),("touched",.ref A.kt),("not_freed",.non),("number",.int 0),("left",.int 0),("parts",.ref q)])):
  LH cl H' (A.newT g D m q) n c os bk gs [] [] Gq ⟨"rouse",.non,.non,0,0⟩ tl lt:=by
 have kn:∀x o,H x=some o->x≠la->H' x=some o:=λx o e z=>kp x o e (by simpa using z)
 have kl:∀x xs,H x=some (.lst xs)->H' x=some (.lst xs):=λx xs e=>kn x _ e (b1n e ela (λz=>(nomatch z)));have sN:∀{x y:Addr}{o:HO},H x=some o->H y=none->x≠y:=λe1 e2 z=>by rw[z,e2] at e1;cases e1
 have ho:=h.has;have off:∀{x:Addr}{o:HO},H x=some o->(∀j,j<8->x≠A.o j)->∀j,j<8->x≠(A.newT g D m q).o j:=λe z=>Ad.newT_off z (sN e hg) (sN e hD) (sN e hq);obtain⟨many,last,hB,hLt⟩:=h.brd;obtain⟨dg,eg0⟩:=h.gv;obtain⟨dt,et0⟩:=h.tk;refine⟨⟨many,last,hB.keep (ps:=[la]) kp (λz=>Ne.symm (hla 0 ↑3) (List.mem_singleton.mp z)) (λz=>Ne.symm (hla 1 ↑3) (List.mem_singleton.mp z)),hLt.1,hLt.2.1,λq0 z=>?_⟩,?_,?_,?_,?_,?_,?_,?_,(h.tr.gen (A':=A.newT g D m q) (λo z=>kn _ _ z (Ne.symm (hla 4 ↑3))) λp t e n1 f=>⟨off e n1,f,kn _ _ e (b1n e ela (λz=>(nomatch z)))⟩),?_,?_,?_⟩
 ·obtain⟨t,e,nt,et⟩:=hLt.2.2 q0 z
  exact⟨t,e,off et nt,kn _ _ et (b1n et ela (λz=>(nomatch z)))⟩
 ·exact⟨dg,kn _ _ eg0 (Ne.symm (hla 2 ↑3))⟩
 ·exact⟨dxg,eg⟩
 ·exact kl _ _ h.mg
 ·exact em
 ·obtain⟨qs,e,l,r⟩:=h.kept
  refine⟨qs,kl _ _ e,l,λi p o hp ho2=>?_⟩;obtain⟨p1,p2⟩:=r i p o hp ho2;exact⟨off p2 p1,kl _ _ p2⟩
 ·obtain⟨qs,e,l,r⟩:=nr
  refine⟨qs,e,l,λi p o hp ho2=>?_⟩;obtain⟨p0,pD,pS,pe⟩:=r i p o hp ho2;have pS2:p≠g/\p≠m/\p≠q:=by simpa using pS
  exact⟨Ad.newT_off (λj hj=>λz=>by obtain⟨u,eu⟩:=ho j hj;rw[<- z,p0] at eu;cases eu) pS2.1 pD pS2.2.2,pe⟩
 ·exact eq
 ·intro i j hi hj ij
  by_cases i3:i=3
  ·subst i3
   by_cases j6:j=6
   ·subst j6;exact gD
   by_cases j7:j=7
   ·subst j7;exact Ne.symm qg
   rw[Ad.newT_o (Ne.symm ij) j6 j7];obtain⟨u,eu⟩:=ho j hj;exact Ne.symm (sN eu hg)
  by_cases i6:i=6
  ·subst i6
   by_cases j3:j=3
   ·subst j3;exact Ne.symm gD
   by_cases j7:j=7
   ·subst j7;exact Ne.symm qD
   rw[Ad.newT_o j3 (Ne.symm ij) j7];obtain⟨u,eu⟩:=ho j hj;exact Ne.symm (sN eu hD)
  by_cases i7:i=7
  ·subst i7
   by_cases j3:j=3
   ·subst j3;exact qg
   by_cases j6:j=6
   ·subst j6;exact qD
   rw[Ad.newT_o j3 j6 (Ne.symm ij)];obtain⟨u,eu⟩:=ho j hj;exact Ne.symm (sN eu hq)
  rw[Ad.newT_o i3 i6 i7];by_cases j3:j=3
  ·subst j3
   obtain⟨u,eu⟩:=ho i hi;exact sN eu hg
  by_cases j6:j=6
  ·subst j6
   obtain⟨u,eu⟩:=ho i hi;exact sN eu hD
  by_cases j7:j=7
  ·subst j7
   obtain⟨u,eu⟩:=ho i hi;exact sN eu hq
  rw[Ad.newT_o j3 j6 j7];exact h.nd i j hi hj ij
 ·intro i hi
  exact⟨off h.mg (λj hj=>(h.om j hj).1) i hi,Ad.newT_off (λj hj=>λz=>by obtain⟨u,eu⟩:=ho j hj;rw[<- z,hm] at eu;cases eu) (Ne.symm gm) (Ne.symm Dm) (Ne.symm qm) i hi⟩
 ·intro x hx
  obtain⟨⟨o,a⟩,b,c1,d,e,f,g⟩:=h.fo x hx;have xla:x≠la:=λz=>nla (z ▸ hx);obtain⟨o0,z0⟩:=ho 0 ↑3;have y0:H' A.bd=H A.bd:=(kn _ _ z0 (Ne.symm (hla 0 ↑3))).trans z0.symm;obtain⟨qs,eq0,lq,rq⟩:=nr;have new:Unr H' D x:=λxs z q0=>by
   rw[eq0] at z;cases z;obtain⟨p,hp,e2⟩:=List.mem_map.mp q0;obtain⟨i,hi,ei⟩:=List.mem_iff_getElem.mp hp;obtain⟨p0,_⟩:=rq i p (bk[i]' ↑3) (by rw[<- ei];exact List.getElem?_eq_getElem hi) (List.getElem?_eq_getElem _)
   rw[V.ref.inj e2,a] at p0;cases p0
  obtain⟨xo,ekk,_⟩:=h.kept;have y:H' A.kg=H A.kg:=(kl _ _ ekk).trans ekk.symm;exact⟨⟨o,kn _ _ a xla⟩,Ad.newT_off b (sN a hg) (sN a hD) (sN a hq),c1,sN a hm,(λxs z=>e xs (y ▸ z)),new,(λC dx fs z=>g C dx fs (y0 ▸ z))⟩
end
structure LN(cl:Cl)(H:Hp)(la:Addr)(A:Ad)(L:Ln)(tl:List Tr):Prop where
 lr:LR cl H A L tl
 ob:∃dx,H la=some (e4j cl dx A)
 off:∀j,j<8->la≠A.o j
 nfo:¬ A.fo la
def KpL(la:Addr)(A:Ad)(H H':Hp):Prop:=∀x o,H x=some o->x≠la->(∀j,j<8->x≠A.o j)->H' x=some o
def NxA(A A':Ad)(H:Hp):Prop:=(∀j,j<8->A'.o j=A.o j\/H (A'.o j)=none)/\A'.fo=A.fo
theorem Nx.all{A A':Ad}{H:Hp}(h:Nx A A' H):NxA A A' H:=⟨λj hj=>by
 by_cases e:j=7
 ·subst e;exact h.2.1
 ·exact .inl (h.1 j ↑3),h.2.2⟩
theorem NxA.off{A A':Ad}{H:Hp}{x:Addr}{o:HO}(h:NxA A A' H)(e:H x=some o)(n:∀j,j<8->x≠A.o j):∀j,j<8->x≠A'.o j:=λj hj=>by
 rcases h.1 j hj with z|z
 ·rw[z];exact n j hj
 ·exact λy=>by rw[y,z] at e;cases e
theorem LN.same{H H':Hp}{la:Addr}{A:Ad}{L:Ln}{tl:List Tr}(h:LN cl H la A L tl)(s:Same H H'):LN cl H' la A L tl:=by
 obtain⟨⟨ps,Gq,Tq,lt,a,b⟩,⟨dx,e⟩,o,f⟩:=h;exact⟨⟨ps,Gq,Tq,lt,a.same s,b⟩,⟨dx,s _ _ e⟩,o,f⟩
theorem d7s{n:Nat}(h2:2<=n)(h8:n<=8):b4x n=c0d n (a6c n):=by
 have:n=2\/n=3\/n=4\/n=5\/n=6\/n=7\/n=8:=by lia
 rcases this with rfl|rfl|rfl|rfl|rfl|rfl|rfl <;> decide
def HN(b:Bool)(h:Str):Prop:=(b=true/\h="giver")\/(b=false/\h="taker")
def a2n(cl:Cl):Sp:=λvs H Q _=>ExN λla A L tl=>∃(b:Bool)(h:Str),vs=[.ref la,.str h]/\HN b h/\LN cl H la A L tl/\∀x,HOf A b x->Q (.ref x) H
abbrev a3n:Stmt:=m9 (top 101) 3
theorem b3z:g7 ["self","hand"] ["self","hand"] (d8 a3n):=↑1
theorem b4p(D:DefM K cl.Lane "hand_named" "Lane.hand_named" a3n ["self","hand"])(T:Txt K mg cl)(G_check_hand:FnT P w K mg qb "check_hand" 1 ["hand"] (a4u cl)):MethT P w K mg qb cl.Lane "hand_named" 2 ["self","hand"] (a2n cl):=by
 refine D.fn b3z ↑5 ↑2
 ·fail "l"
 ·obtain⟨la,A,L,tl,b,h,rfl,hh,hN,k⟩:=h
  refine⟨_,(d5 (j9 (k7 G_check_hand hr ↑6 rfl i4 (a7 (pv 1) d6)))
   (d9 (j1 (a6b (k8 a8a (pv 1) k0 (n9 _)) ↑4 ↑4)))),?_⟩
  obtain⟨dx,ex⟩:=hN.ob;rcases hh with ⟨rfl,rfl⟩|⟨rfl,rfl⟩
  ·ext
   refine⟨_,rfl,?_⟩;rw[if_pos (.inl rfl)];ext;rw[if_pos ↑6];ext;exact k _ (.inl ⟨rfl,rfl⟩)
  ·ext
   refine⟨_,rfl,?_⟩;rw[if_pos (.inr rfl)];ext;rw[if_neg ↑6];ext;exact k _ (.inr ⟨rfl,rfl⟩)
def a2o(cl:Cl):Sp:=λvs H Q _=>ExN λla A L tl=>∃(a:Addr)(o:List Int),vs=[.ref la,.ref a]/\LN cl H la A L tl/\H a=some (.lst (o.map V.int))/\1<=o.length/\o.length<=L.n/\L.os.length<=400/\∀H',LN cl H' la A (a3w L o) tl->KpL la A H H'->Q (.int L.os.length) H'
abbrev a6l:Stmt:=m9 (top 101) 4
theorem b8h:g7 ["self","order"] ["self","order"] (d8 a6l):=↑1
theorem b9d(D:DefM K cl.Lane "hand_in" "Lane.hand_in" a6l ["self","order"])(T:Txt K mg cl)(GA:MethT P w K mg qb cl.Giver "add" 2 ["self","order"] (b6y cl)):MethT P w K mg qb cl.Lane "hand_in" 3 ["self","order"] (a2o cl):=by
 refine D.fn b8h ↑5 ↑2
 ·fail "l"
 ·obtain⟨la,A,L,tl,a,o,rfl,hN,ea,o1,o2,os4,k⟩:=h
  refine⟨_,(d9 (j1 (b8z (k:=2) ↑4 hr ↑6 i4 (a7 (pv 1) d6)))),?_⟩;obtain⟨dx,ex⟩:=hN.ob;obtain⟨_,_,_,_,hL,_⟩:=id hN.lr;obtain⟨dxg,eg⟩:=hL.gv;fail "e";refine⟨A.gv,cl.Giver,dxg,_,_,_,rfl,eg,rfl,T.k_Giver,GA,?_⟩;ext;refine⟨A,L,tl,a,o,rfl,hN.lr,ea,o1,o2,os4,λH' z1 z2=>?_⟩;exact k H' ⟨z1,⟨dx,z2 _ _ ex hN.off⟩,hN.off,hN.nfo⟩ (λx o e _ n=>z2 x o e n)
def b6t(cl:Cl):Sp:=λvs H Q _=>ExN λla A L tl=>∃(b:Bool)(h:Str),vs=[.ref la,.str h]/\HN b h/\LN cl H la A L tl/\L.os.length<=400/\tl.length<=4000000/\∀H' A',LN cl H' la A' (b5b b L) (trB b L tl)->KpL la A H H'->NxA A A' H->Q (.bl (!a9r b L)) H'
def c1o(cl:Cl)(b:Bool):Sp:=λvs H Q E=>∃(A:Ad)(L:Ln)(tl:List Tr),vs=[.ref (if b then A.gv else A.tk)]/\LR cl H A L tl/\L.os.length<=400/\tl.length<=4000000/\∀H' A',LR cl H' A' (b5b b L) (trB b L tl)->KpA A H H'->Nx A A' H->Q (.bl (!a9r b L)) H'
abbrev b2k:Stmt:=m9 (top 101) 5
theorem c5n:g7 ["self","hand"] ["self","hand"] (d8 b2k):=↑1
theorem c6s(D:DefM K cl.Lane "step" "Lane.step" b2k ["self","hand"])(T:Txt K mg cl)(G_Lane_hand_named:MethT P w K mg qb cl.Lane "hand_named" 2 ["self","hand"] (a2n cl))(GS:MethT P w K mg qb cl.Giver "step" 8 ["self"] (c1o cl true))(TS:MethT P w K mg qb cl.Taker "step" 8 ["self"] (c1o cl false)):MethT P w K mg qb cl.Lane "step" 9 ["self","hand"] (b6t cl):=by
 refine D.fn c5n ↑5 ↑2
 ·fail "l"
 ·obtain⟨la,A,L,tl,b,h,rfl,hh,hN,os4,tl5,k⟩:=h
  refine⟨_,(d9 (j1 (l9 (k:=8) (a1f (pv 0) T.k_Lane G_Lane_hand_named hr ↑6 i4 (a7 (pv 1) d6)) hr ↑6 i4))),?_⟩;obtain⟨dx,ex⟩:=hN.ob;obtain⟨_,_,_,_,hL,_⟩:=id hN.lr;obtain⟨dxg,eg⟩:=hL.gv;obtain⟨dxt,et⟩:=hL.tk;fail "e";refine⟨la,A,L,tl,b,h,rfl,hh,hN,λx hx=>?_⟩;have fin:∀H' A',LR cl H' A' (b5b b L) (trB b L tl)->KpA A H H'->Nx A A' H->Q (.bl (!a9r b L)) H':=λH' A' z1 z2 z3=>by
   refine k H' A' ⟨z1,⟨dx,?_⟩,z3.all.off ex hN.off,(by rw[z3.2.2];exact hN.nfo)⟩ (λx o e _ n=>z2 x o e n) z3.all
   have:=z2 _ _ ex hN.off;rw[this];unfold e4j Ad.bd Ad.kt Ad.gv Ad.tk;rw[z3.1 0 ↑3,z3.1 4 ↑3,z3.1 2 ↑3,z3.1 3 ↑3]
  rcases hx with ⟨rfl,rfl⟩|⟨rfl,rfl⟩
  ·refine⟨A.gv,cl.Giver,dxg,_,_,_,rfl,eg,rfl,T.k_Giver,GS,?_⟩
   ext;exact⟨A,L,tl,rfl,hN.lr,os4,tl5,fin⟩
  ·refine⟨A.tk,cl.Taker,dxt,_,_,_,rfl,et,rfl,T.k_Taker,TS,?_⟩
   ext;exact⟨A,L,tl,rfl,hN.lr,os4,tl5,fin⟩
theorem NewRows.rws{H H':Hp}{p:Addr}{os:List (List Int)}(h:NewRows H H' p os):Rws H' p os:=by
 obtain⟨_,_,ps,e,l,r⟩:=h;exact⟨ps,e,l,λi q o a b=>(r i q o a b).2.2⟩
def a5u(cl:Cl):Sp:=λvs H Q _=>ExN λla A L tl=>vs=[.ref la]/\LN cl H la A L tl/\L.os.length<=1000/\∀p H',NewRows H H' p L.bk->Q (.ref p) H'
abbrev b2n:Stmt:=m9 (top 101) 10
theorem c5q:g7 ["self"] ["self"] (d8 b2n):=↑1
theorem c6v(D:DefM K cl.Lane "book" "Lane.book" b2n ["self"])(T:Txt K mg cl)(GM:MethT P w K mg qb cl.Taker "book" 2 ["self"] (a7o cl)):MethT P w K mg qb cl.Lane "book" 3 ["self"] (a5u cl):=by
 refine D.fn c5q ↑5 ↑2
 ·fail "l"
 ·obtain⟨la,A,L,tl,rfl,hN,os4,k⟩:=h
  refine⟨_,(d9 (j1 (l9 (k:=2) ↑4 hr ↑6 i4))),?_⟩;obtain⟨dx,ex⟩:=hN.ob;obtain⟨_,_,_,_,hL,_⟩:=id hN.lr;obtain⟨dxg,eg⟩:=hL.tk;fail "e";refine⟨A.tk,cl.Taker,dxg,_,_,_,rfl,eg,rfl,T.k_Taker,GM,?_⟩;ext;exact⟨A,L,tl,rfl,hN.lr,os4,k⟩
def b1c(cl:Cl):Sp:=λvs H Q _=>ExN λla A L tl=>vs=[.ref la]/\LN cl H la A L tl/\L.os.length<=1000/\∀p H',NewRows H H' p L.os->Q (.ref p) H'
abbrev a7w:Stmt:=m9 (top 101) 11
theorem c0a:g7 ["self"] ["self"] (d8 a7w):=↑1
theorem c0n(D:DefM K cl.Lane "orders" "Lane.orders" a7w ["self"])(T:Txt K mg cl)(GM:MethT P w K mg qb cl.Giver "orders" 2 ["self"] (a5d cl)):MethT P w K mg qb cl.Lane "orders" 3 ["self"] (b1c cl):=by
 refine D.fn c0a ↑5 ↑2
 ·fail "l"
 ·obtain⟨la,A,L,tl,rfl,hN,os4,k⟩:=h
  refine⟨_,(d9 (j1 (l9 (k:=2) ↑4 hr ↑6 i4))),?_⟩;obtain⟨dx,ex⟩:=hN.ob;obtain⟨_,_,_,_,hL,_⟩:=id hN.lr;obtain⟨dxg,eg⟩:=hL.gv;fail "e";refine⟨A.gv,cl.Giver,dxg,_,_,_,rfl,eg,rfl,T.k_Giver,GM,?_⟩;ext;exact⟨A,L,tl,rfl,hN.lr,os4,k⟩
theorem LR.gfall{H':Hp}{A':Ad}{L:Ln}{tl:List Tr}{ps:List Int}{Tq:Tm}(h:LH cl H' A' L.n L.c L.os L.bk [] L.tseen ps ⟨"rouse",.non,-1,0⟩ Tq tl (d0z tl))(ht:TRel L Tq ps)(ok:Ok L):LR cl H' A' (gfall L) tl :=
 ⟨ps,_,Tq,(),h,⟨rfl,(λz=>(nomatch (show true=false from z))),(λz=>(nomatch (show true=false from z))),(λz=>(nomatch (show true=false from z)))⟩,⟨ht.st,ht.he,ht.nf,ht.nu,ht.le,ht.pa⟩,d8n ok⟩
theorem LR.tfall{H':Hp}{A':Ad}{L:Ln}{tl:List Tr}{Gq:Gm}(h:LH cl H' A' L.n L.c L.os L.bk L.gseen [] [] Gq ⟨"rouse",.non,.non,0,0⟩ tl (d0z tl))(hg:GRel L Gq)(ok:Ok L):LR cl H' A' (tfall L) tl :=
 ⟨[],Gq,_,(),h,⟨hg.st,hg.he,hg.nu,hg.le⟩,⟨rfl,(λz=>(nomatch (show true=false from z))),(λz=>(nomatch (show true=false from z))),(λz=>by rcases z with z|z <;> exact(nomatch (show Stg.rouse=_ from z))),(λz=>(nomatch (show Stg.rouse=Stg.thing from z))),(if_pos (.inl rfl)).symm⟩,d7c ok⟩
def c7n(b:Bool)(L:Ln):Ln:=if b then gfall L else tfall L
def b6v(cl:Cl):Sp:=λvs H Q _=>ExN λla A L tl=>∃(b:Bool)(h:Str),vs=[.ref la,.str h]/\HN b h/\LN cl H la A L tl/\L.os.length<=1000/\∀H' A',LN cl H' la A' (c7n b L) tl->KpL la A H H'->NxA A A' H->Q .non H'
abbrev b2m:Stmt:=m9 (top 101) 6
theorem c5p:g7 ["self","hand"] ["self","hand"] (d8 b2m):=↑1
theorem c6u(D:DefM K cl.Lane "fall" "Lane.fall" b2m ["self","hand"])(T:Txt K mg cl)(G_check_hand:FnT P w K mg qb "check_hand" 1 ["hand"] (a4u cl))(G_Lane_place_giver:MethT P w K mg qb cl.Lane "place_giver" 5 ["self","orders"] (a2a cl))(G_Lane_place_taker:MethT P w K mg qb cl.Lane "place_taker" 5 ["self","book"] (a1z cl))(GO:MethT P w K mg qb cl.Giver "orders" 2 ["self"] (a5d cl))(TB:MethT P w K mg qb cl.Taker "book" 2 ["self"] (a7o cl)):MethT P w K mg qb cl.Lane "fall" 6 ["self","hand"] (b6v cl):=by
 refine D.fn c5p ↑5 ↑2
 ·fail "l"
 ·obtain⟨la,A,L,tl,b,h,rfl,hh,hN,os4,k⟩:=h
  refine⟨_,(d5 (j9 (k7 G_check_hand hr ↑6 rfl i4 (a7 (pv 1) d6)))
   (d9 (a0s (k8 a8a (pv 1) k0 (n9 _))
    (d9 (j9 (a1f (pv 0) T.k_Lane G_Lane_place_giver hr ↑6 i4 (a7 (l9 (k:=2) ↑4 hr ↑6 i4) d6))))
    (d9 (j9 (a1f (pv 0) T.k_Lane G_Lane_place_taker hr ↑6 i4 (a7 (l9 (k:=2) ↑4 hr ↑6 i4) d6))))))),?_⟩
  obtain⟨dx,ex⟩:=hN.ob;obtain⟨ps,Gq,Tq,lt,hL,hg,ht,ok⟩:=id hN.lr;obtain⟨dxg,eg⟩:=hL.gv;obtain⟨dxt,et⟩:=hL.tk;rcases hh with ⟨rfl,rfl⟩|⟨rfl,rfl⟩
  ·ext
   refine⟨_,rfl,?_⟩;rw[if_pos (.inl rfl)];ext;rw[if_pos ↑6];fail "e";refine⟨A.gv,cl.Giver,dxg,_,_,_,rfl,eg,rfl,T.k_Giver,GO,?_⟩;ext;refine⟨A,L,tl,rfl,hN.lr,os4,λa H1 nr0=>?_⟩;have s1:=nr0.2.1;have z1:=hL.same s1;have e1:=s1 _ _ ex;obtain⟨many,last,hB,_⟩:=z1.brd;ext;refine⟨la,dx,A.bd,A.kt,a,A.l,L.n,_,many,last,L.os,_,_,rfl,.inr ⟨.ref A.gv,.ref A.tk,rfl,λ_=>rfl⟩,e1,hB,nr0.rws,ok.core.good,os4,λg dxg D m H2 hg0 hD hm gD gm Dm kp nr em eg2 el=>?_⟩;refine k H2 (A.newG g D m) ⟨LR.gfall (z1.newG e1 hN.off hN.nfo hg0 hD hm gD gm Dm kp nr em eg2) ht ok,⟨dx,el⟩,Ad.newG_off hN.off (λz=>by rw[<- z,e1] at hg0;cases hg0) (λz=>by rw[<- z,e1] at hD;cases hD),hN.nfo⟩ (λx o e n _=>kp _ _ (s1 _ _ e) (by simpa using n)) ⟨λj hj=>?_,rfl⟩
   by_cases e2:j=2
   ·subst e2;exact .inr (v2 s1 hg0)
   by_cases e5:j=5
   ·subst e5;exact .inr (v2 s1 hD)
   exact .inl (Ad.newG_o e2 e5)
  ·ext
   refine⟨_,rfl,?_⟩;rw[if_pos (.inr rfl)];ext;rw[if_neg ↑6];fail "e";refine⟨A.tk,cl.Taker,dxt,_,_,_,rfl,et,rfl,T.k_Taker,TB,?_⟩;ext;refine⟨A,L,tl,rfl,hN.lr,os4,λa H1 nr0=>?_⟩;have s1:=nr0.2.1;have z1:=hL.same s1;have e1:=s1 _ _ ex;obtain⟨many,last,hB,_⟩:=z1.brd;ext;refine⟨la,dx,A.bd,A.kt,a,A.l,L.n,_,many,last,L.bk,_,_,rfl,.inr ⟨.ref A.gv,.ref A.tk,rfl,λ_=>rfl⟩,e1,hB,nr0.rws,(λo ho=>ok.core.good o (by have e:=ok.tk.bk;rw[e] at ho;exact List.mem_of_mem_take ho)),(have:=ok.tk.bl;by lia),λg dxg D m q H2 hg0 hD hm gD gm Dm hq qg qD qm eq kp nr em eg2 el=>?_⟩
   refine k H2 (A.newT g D m q) ⟨LR.tfall (z1.newT e1 hN.off hN.nfo hg0 hD hm gD gm Dm hq qg qD qm eq kp nr em eg2) hg ok,⟨dx,el⟩,Ad.newT_off hN.off (λz=>by rw[<- z,e1] at hg0;cases hg0) (λz=>by rw[<- z,e1] at hD;cases hD) (λz=>by rw[<- z,e1] at hq;cases hq),hN.nfo⟩ (λx o e n _=>kp _ _ (s1 _ _ e) (by simpa using n)) ⟨λj hj=>?_,rfl⟩
   by_cases e3:j=3
   ·subst e3;exact .inr (v2 s1 hg0)
   by_cases e6:j=6
   ·subst e6;exact .inr (v2 s1 hD)
   by_cases e7:j=7
   ·subst e7;exact .inr (v2 s1 hq)
   exact .inl (Ad.newT_o e3 e6 e7)
theorem d3y{H:Hp}{a:Addr}(h:H a=some (.lst [])):Rws H a []:=⟨[],h,rfl,λi p o hp=>by simp at hp⟩
theorem c9i{H H':Hp}{D:Addr}{S:List Addr}(h:NRw H H' D S []):H' D=some (.lst []):=by
 obtain⟨ps,e,l,_⟩:=h;have:ps=[]:=List.length_eq_zero_iff.mp l;subst this;exact e
def b6u(cl:Cl):Sp:=λvs H Q _=>∃(la dx:Addr)(n:Nat),vs=[.ref la,.int n]/\H la=some (.ins cl.Lane dx [])/\2<=n/\n<=8/\∃F:Addr->Prop,(∀x,F x->x≠la/\∃o,H x=some o)/\∀A H',A.fo=F->LN cl H' la A (a1g n) []->Kp [la] H H'->(∀j,j<8->H (A.o j)=none)->(∀x,Unl H' A.bd x)->Q .non H'
abbrev b2l:Stmt:=m9 (top 101) 0
theorem c5o:g7 ["self","size"] ["self","size"] (d8 b2l):=↑1
theorem c6t(D:DefM K cl.Lane "__init__" "Lane.__init__" b2l ["self","size"])(T:Txt K mg cl)(G_Board:MakeT P w K mg qb "Board" cl.Board 2 ["self","size"] (b3s cl))(G_Lane_place_giver:MethT P w K mg qb cl.Lane "place_giver" 5 ["self","orders"] (a2a cl))(G_Lane_place_taker:MethT P w K mg qb cl.Lane "place_taker" 5 ["self","book"] (a1z cl)):MethT P w K mg qb cl.Lane "__init__" 6 ["self","size"] (b6u cl):=by
 refine D.fn c5o ↑5 ↑2
 ·fail "l"
 ·obtain⟨la,dx,n,rfl,ela,n2,n8,F,hF,k⟩:=h
  refine⟨_,(d5 (m6 (K:=K) (pv 0) (c5y G_Board hr ↑6 rfl i4 (a7 (pv 1) d6)))
   (d5 (m6 (K:=K) (pv 0) (t7 d6))
   (d5 (j9 (a1f (pv 0) T.k_Lane G_Lane_place_giver hr ↑6 i4 (a7 (t7 d6) d6)))
   (d9 (j9 (a1f (pv 0) T.k_Lane G_Lane_place_taker hr ↑6 i4 (a7 (t7 d6) d6))))))),?_⟩
  ext;intro bd dxb hbd hdxb ne;have sm:=b9i (u:=.own bd) (o:=.ins cl.Board dxb []) hbd hdxb ne;refine⟨bd,dxb,n,rfl,d7,?_⟩;rw[if_pos ⟨by lia,by lia⟩]
  intro l H1 hl kp1 hB1;refine⟨rfl,?_⟩;rw[show((n:Nat):Int).toNat=n from rfl] at hB1;have hl0:=v2 sm hl;have nlb:la≠bd:=λz=>by rw[<- z,ela] at hbd;cases hbd
  have nll:la≠l:=λz=>by rw[<- z,ela] at hl0;cases hl0
  have ela1:=kp1 _ _ (sm _ _ ela) (by simpa using nlb)
  have n01:bd≠l:=by
   obtain⟨⟨_,e1⟩,e2,_⟩:=hB1;exact b1n e1 e2 (λz=>(nomatch z))
  have kH1:∀x o,H x=some o->x≠la->H1 x=some o:=λx o e _=>kp1 _ _ (sm _ _ e) (by simpa using λz=>by rw[z,hbd] at e;cases e)
  ext;refine⟨Nat.zero_le _,λkt hkt=>?_⟩;have nkl:kt≠la:=λz=>by rw[z,d7] at hkt;cases hkt
  rw[c7 nkl] at hkt;have n04:bd≠kt:=λz=>by obtain⟨⟨_,e1⟩,_⟩:=hB1;rw[z,hkt] at e1;cases e1
  have n14:l≠kt:=λz=>by obtain⟨_,e1,_⟩:=hB1;rw[z,hkt] at e1;cases e1
  have hkt0:H kt=none:=by
   cases e:H kt with
   | none=>rfl
   | some o=>rw[kH1 _ _ e nkl] at hkt;cases hkt
  ext;refine⟨Nat.zero_le _,λa1 ha1=>?_⟩;have na1:a1≠la:=λz=>by rw[z,d7] at ha1;cases ha1
  have nak:a1≠kt:=λz=>by rw[z,c7 nkl,d7] at ha1;cases ha1
  simp only[c7 na1,c7 nak] at ha1;ext;generalize e3:upd (upd (upd (upd H1 la _) kt _) la _) a1 _=H3;have l3:H3 la=some (.ins cl.Lane dx [("board",.ref bd),("kept_trail",.ref kt)]):=by rw[<- e3,c7 (Ne.symm na1),d7];rfl
  have k3:∀x o,H1 x=some o->x≠la->H3 x=some o:=λx o e nx=>by
   rw[<- e3,c7 (λz=>by rw[z,ha1] at e;cases e),c7 nx,c7 (λz=>by rw[z,hkt] at e;cases e),c7 nx]
   exact e
  have t3:H3 kt=some (.lst []):=by rw[<- e3,c7 (Ne.symm nak),c7 nkl,d7]
  have a3:H3 a1=some (.lst []):=by rw[<- e3,d7]
  have hB3:Brd cl H3 bd l n (b4x n) 0 .non:=hB1.keep (ps:=[la]) (λc o e nn=>k3 c o e (by simpa using nn)) (by simpa using Ne.symm nlb) (by simpa using Ne.symm nll)
  have kH3:∀x o,H x=some o->x≠la->H3 x=some o:=λx o e nx=>k3 x o (kH1 x o e nx) nx;clear e3;refine⟨la,dx,bd,kt,a1,l,n,b4x n,0,.non,[],_,_,rfl,.inl ⟨rfl,λ_=>rfl⟩,l3,hB3,d3y a3,(λo ho=>by cases ho),by decide,λg dxg D m H4 hg hD hm gD gm Dm kp4 nr4 em4 eg4 l4=>?_⟩
  ext;refine⟨Nat.zero_le _,λa2 ha2=>?_⟩;ext;generalize e5:upd H4 a2 _=H5;have s5:Same H4 H5:=by rw[<- e5];exact i9 ha2
  have a5:H5 a2=some (.lst []):=by rw[<- e5,d7]
  clear e5;have k35:Kp [la] H3 H5:=λx o e nx=>s5 _ _ (kp4 x o e nx);have hB5:=hB3.keep k35 (by simpa using Ne.symm nlb) (by simpa using Ne.symm nll)
  refine⟨la,dx,bd,kt,a2,l,n,b4x n,0,.non,[],_,_,rfl,.inl ⟨.ref g,rfl,λ_=>rfl⟩,s5 _ _ l4,hB5,d3y a5,(λo ho=>by cases ho),by decide,λt dxt D2 m2 q H6 ht hD2 hm2 tD2 tm2 Dm2 hq qt qD2 qm2 eq6 kp6 nr6 em6 et6 l6=>?_⟩
  obtain⟨⟨dxb3,eb3⟩,el3,_⟩:=id hB3;have g5:=s5 _ _ eg4;have D5:=s5 _ _ (c9i nr4);have m5:=s5 _ _ em4;have t5:=k35 _ _ t3 (by simpa using nkl)
  have eb5:=k35 _ _ eb3 (by simpa using Ne.symm nlb)
  have el5:=k35 _ _ el3 (by simpa using Ne.symm nll)
  have sN:∀{H:Hp}{x y:Addr}{o:HO},H x=some o->H y=none->x≠y:=λe1 e2 z=>by rw[z,e2] at e1;cases e1
  have lg:=sN l3 hg;have lD:=sN l3 hD;have lm:=sN l3 hm;have l5:=s5 _ _ l4;have lt:=sN l5 ht;have lD2:=sN l5 hD2;have lm2:=sN l5 hm2;have lq:=sN l5 hq;have hB6:=hB5.keep kp6 (by simpa using Ne.symm nlb) (by simpa using Ne.symm nll)
  rw[d7s n2 n8] at hB6;have k6:∀x o,H5 x=some o->la≠x->H6 x=some o:=λx o e nx=>kp6 x o e (by simpa using Ne.symm nx)
  have d01:bd≠l:=n01;have d02:bd≠g:=sN eb3 hg;have d03:bd≠t:=sN eb5 ht;have d04:bd≠kt:=n04;have d05:bd≠D:=sN eb3 hD;have d06:bd≠D2:=sN eb5 hD2;have d07:bd≠q:=sN eb5 hq;have d12:l≠g:=sN el3 hg;have d13:l≠t:=sN el5 ht;have d14:l≠kt:=n14;have d15:l≠D:=sN el3 hD;have d16:l≠D2:=sN el5 hD2;have d17:l≠q:=sN el5 hq;have d23:g≠t:=sN g5 ht;have d24:g≠kt:=Ne.symm (sN t3 hg);have d25:g≠D:=gD;have d26:g≠D2:=sN g5 hD2;have d27:g≠q:=sN g5 hq;have d34:t≠kt:=Ne.symm (sN t5 ht);have d35:t≠D:=Ne.symm (sN D5 ht);have d36:t≠D2:=tD2;have d37:t≠q:=Ne.symm qt;have d45:kt≠D:=sN t3 hD;have d46:kt≠D2:=sN t5 hD2;have d47:kt≠q:=sN t5 hq;have d56:D≠D2:=sN D5 hD2;have d57:D≠q:=sN D5 hq;have d67:D2≠q:=Ne.symm qD2;have e0:m≠bd:=Ne.symm (sN eb3 hm);have f0:m2≠bd:=Ne.symm (sN eb5 hm2);have o0:la≠bd:=nlb;have e1:m≠l:=Ne.symm (sN el3 hm);have f1:m2≠l:=Ne.symm (sN el5 hm2);have o1:la≠l:=nll;have e2:m≠g:=Ne.symm gm;have f2:m2≠g:=Ne.symm (sN g5 hm2);have o2:la≠g:=lg;have e3:m≠t:=sN m5 ht;have f3:m2≠t:=Ne.symm tm2;have o3:la≠t:=lt;have e4:m≠kt:=Ne.symm (sN t3 hm);have f4:m2≠kt:=Ne.symm (sN t5 hm2);have o4:la≠kt:=Ne.symm nkl;have e5:m≠D:=Ne.symm Dm;have f5:m2≠D:=Ne.symm (sN D5 hm2);have o5:la≠D:=lD;have e6:m≠D2:=sN m5 hD2;have f6:m2≠D2:=Ne.symm Dm2;have o6:la≠D2:=lD2;have e7:m≠q:=sN m5 hq;have f7:m2≠q:=Ne.symm qm2;have o7:la≠q:=lq;have back3:∀x,la≠x->H3 x=none->H x=none:=λx nx e=>by
   cases z:H x with
   | none=>rfl
   | some o=>rw[kH3 _ _ z (Ne.symm nx)] at e;cases e
  have back5:∀x,la≠x->H5 x=none->H x=none:=λx nx e=>back3 x nx (by
   cases z:H3 x with
   | none=>rfl
   | some o=>rw[k35 _ _ z (by simpa using Ne.symm nx)] at e;cases e)
  have h0:H bd=none:=hbd;have h1:H l=none:=hl0;have h2:H g=none:=back3 _ lg hg;have h3:H t=none:=back5 _ lt ht;have h4:H kt=none:=hkt0;have h5:H D=none:=back3 _ lD hD;have h6:H D2=none:=back5 _ lD2 hD2;have h7:H q=none:=back5 _ lq hq;have j8:∀j,j<8->j=0\/j=1\/j=2\/j=3\/j=4\/j=5\/j=6\/j=7:=λj hj=>by lia
  refine k ⟨λj=>[bd,l,g,t,kt,D,D2,q].getD j bd,m,m2,F⟩ H6 rfl ⟨⟨[],⟨"rouse",.non,-1,0⟩,⟨"rouse",.non,.non,0,0⟩,(),⟨⟨0,.non,hB6,rfl,(λ_=>rfl),(λq z=>(nomatch z))⟩,⟨dxg,k6 _ _ g5 lg⟩,⟨dxt,et6⟩,k6 _ _ m5 lm,em6,⟨[],k6 _ _ D5 lD,rfl,λi p o hp=>by simp at hp⟩,⟨[],c9i nr6,rfl,λi p o hp=>by simp at hp⟩,eq6,⟨[],k6 _ _ t5 (Ne.symm nkl),rfl,λi p o hp=>by simp at hp⟩,?_,?_,?_⟩,⟨rfl,(λz=>(nomatch (show true=false from z))),(λz=>(nomatch (show true=false from z))),(λz=>(nomatch (show true=false from z)))⟩,⟨rfl,(λz=>(nomatch (show true=false from z))),(λz=>(nomatch (show true=false from z))),(λz=>by rcases z with z|z <;> exact(nomatch (show Stg.rouse=_ from z))),(λz=>(nomatch (show Stg.rouse=Stg.thing from z))),(if_pos (.inl rfl)).symm⟩,d2w n2 n8⟩,⟨dx,l6⟩,?_,(λz=>(hF la z).1 rfl)⟩ ?_ ?_ ?_
  ·intro i j hi hj ij
   rcases j8 i hi with rfl|rfl|rfl|rfl|rfl|rfl|rfl|rfl <;> rcases j8 j hj with rfl|rfl|rfl|rfl|rfl|rfl|rfl|rfl <;> first|exact absurd rfl ij|assumption|(apply Ne.symm;assumption)
  ·intro i hi
   rcases j8 i hi with rfl|rfl|rfl|rfl|rfl|rfl|rfl|rfl <;> exact⟨by assumption,by assumption⟩
  ·intro x hx
   obtain⟨xl,o,ex⟩:=hF x hx;have x6:∀y,H y=none->x≠y:=λy hy z=>by rw[z,hy] at ex;cases ex
   have ex6:H6 x=some o:=k6 _ _ (k35 _ _ (kH3 _ _ ex xl) (by simpa using xl)) (Ne.symm xl)
   refine⟨⟨o,ex6⟩,?_,x6 _ (back3 _ lm hm),x6 _ (back5 _ lm2 hm2),?_,?_,?_⟩
   ·intro i hi
    rcases j8 i hi with rfl|rfl|rfl|rfl|rfl|rfl|rfl|rfl <;> (apply x6;assumption)
   ·intro xs z
    have:=k6 _ _ D5 lD;rw[show H6 D=some (.lst xs) from z] at this;cases this;exact λq=>by cases q
   ·intro xs z
    have:=c9i nr6;rw[show H6 D2=some (.lst xs) from z] at this;cases this;exact λq=>by cases q
   ·intro C dx2 fs z
    obtain⟨⟨dxb6,eb6⟩,_⟩:=hB6;rw[show H6 bd=some (.ins C dx2 fs) from z] at eb6;cases eb6;exact λq=>by cases q
  ·intro i hi
   rcases j8 i hi with rfl|rfl|rfl|rfl|rfl|rfl|rfl|rfl <;> assumption
  ·intro c o e nc
   exact k6 _ _ (k35 _ _ (kH3 _ _ e (by simpa using nc)) nc) (λz=>by simp[z] at nc)
  ·intro i hi
   rcases j8 i hi with rfl|rfl|rfl|rfl|rfl|rfl|rfl|rfl <;> assumption
  ·intro x C dx2 fs z
   obtain⟨⟨dxb6,eb6⟩,_⟩:=hB6;rw[show H6 bd=some (.ins C dx2 fs) from z] at eb6;cases eb6;exact λq=>by cases q
def c8c(b:Bool)(L:Ln):Stg:=if b then L.gs else L.ts
def e5z(b:Bool)(L:Ln):Bool:=decide (c8c b L=.sleep) && decide (L.c (4*L.n+a2m b)=0)
def d3i(b:Bool)(L:Ln):Bool:=a9r b L || e5z b L
theorem d0f{a b:Stg}(h:b0s a=b0s b):a=b:=by cases a <;> cases b <;> first|rfl|exact absurd h ↑6
def b7p(cl:Cl)(b:Bool):Sp:=λvs H Q _=>∃(A:Ad)(L:Ln)(tl:List Tr),vs=[.ref (if b then A.gv else A.tk)]/\LR cl H A L tl/\Q (.str (b0s (c8c b L))) H
def d0h(cl:Cl)(b:Bool):Sp:=λvs H Q _=>∃(A:Ad)(L:Ln)(tl:List Tr),vs=[.ref (if b then A.gv else A.tk)]/\LR cl H A L tl/\∀H',Same H H'->Q (.bl (e5z b L)) H'
def d0g(cl:Cl)(b:Bool):Sp:=λvs H Q _=>∃(A:Ad)(L:Ln)(tl:List Tr),vs=[.ref (if b then A.gv else A.tk)]/\LR cl H A L tl/\∀H',Same H H'->Q (.bl (d3i b L)) H'
abbrev a4c:Stmt:=m9 (top 73) 1
theorem b4b:g7 ["self"] ["self"] (d8 a4c):=↑1
abbrev a1e:Stmt:=m9 (top 73) 6
theorem a1y:g7 ["self","bell"] ["self"] (d8 a1e):=↑1
abbrev a4b:Stmt:=m9 (top 73) 7
theorem b4a:g7 ["self"] ["self"] (d8 a4b):=↑1
theorem LR.same{H H':Hp}{A:Ad}{L:Ln}{tl:List Tr}(h:LR cl H A L tl)(s:Same H H'):LR cl H' A L tl:=by
 obtain⟨ps,Gq,Tq,lt,a,b⟩:=h;exact⟨ps,Gq,Tq,lt,a.same s,b⟩
theorem c0p(D:DefM K cl.Giver "stage" "Hand.stage" a4c ["self"])(T:Txt K mg cl):MethT P w K mg qb cl.Giver "stage" 2 ["self"] (b7p cl true):=by
 refine D.fn b4b ↑5 ↑2
 ·fail "l"
 ·obtain⟨A,L,tl,e0,⟨ps,Gq,Tq,lt,hL,hg,ht,ok⟩,k⟩:=h
  have e0:vs=[.ref A.gv]:=e0;subst e0;refine⟨_,(d9 (j1 ↑4)),?_⟩;obtain⟨dx,ex⟩:=hL.gv;ext;have q:Q (.str (b0s L.gs)) H:=k;rw[<- hg.st] at q;exact q
variable(P w K mg qb cl)in
abbrev qaq:=MethT P w K mg qb cl.Board "all_cells" 1 ["self"] (a1a cl)
theorem b6e(D:DefM K cl.Giver "sleeping" "Hand.sleeping" a1e ["self"])(T:Txt K mg cl)(G_Board_all_cells:qaq P w K mg qb cl)(G_bell_cell:qah P w K mg qb cl):MethT P w K mg qb cl.Giver "sleeping" 4 ["self"] (d0h cl true):=by
 refine D.fn a1y ↑5 ↑2
 ·fail "l"
 ·obtain⟨A,L,tl,e0,⟨ps,Gq,Tq,lt,hL,hg,ht,ok⟩,k⟩:=h
  have e0:vs=[.ref A.gv]:=e0;subst e0;refine⟨_,(d5 (n6 (i:=1) a1y.nd rfl (.inl rfl) (v4 (j4 (K:=K)) (a0m ↑4 T.k_Board G_Board_all_cells hr ↑6 i4) (k7 G_bell_cell hr ↑6 rfl i4 (a7 (a0c (K:=K) ↑4) (a7 ↑4 d6))) (λ_ _=>rfl)))
   (d9 (j1 (b9a (a3t a8a ↑4 k0 (n9 _)) (b4k (a3t a8a (pv 1) (v5 T.m_STILL rfl) (n9 _))))))),?_⟩
  obtain⟨dx,ex⟩:=hL.gv;obtain⟨many,last,hB,hLt⟩:=hL.brd;obtain⟨⟨dxb,eb⟩,el,hlen,n2,n8⟩:=id hB;ext;refine⟨A.bd,A.l,L.n,_,many,last,rfl,hB,λp hp=>?_⟩;have s1:=i9 (o:=.lst ((c0d L.n L.c).map V.int)) hp;ext;refine⟨L.n,"giver",rfl,a9x (n2:=n2) (n8:=n8) (.inl rfl) ?_⟩;rw[show(4*(L.n:Int)+c7h "giver"+2)=((4*L.n+a2m true:Nat):Int) by rw[hI0];show _=((4*L.n+2:Nat):Int);lia]
  have hm:a2m true<4:=by decide
  refine a0w d7 (b7d ↑3 (by rw[d0l];lia)) ?_
  rw[Int.toNat_natCast,a0n _ ↑3];have q:=k _ s1;unfold e5z at q;have e1:decide (V.str Gq.st=V.str "sleep")=decide (c8c true L=.sleep):=by
   rw[hg.st,decide_eq_decide];constructor
   ·intro z
    exact d0f (V.str.inj z)
   ·intro z
    show V.str (b0s (c8c true L))=_;rw[z]
    rfl
  have e2:decide (V.int (L.c (4*L.n+a2m true))=V.int 0)=decide (L.c (4*L.n+a2m true)=0):=by
   rw[decide_eq_decide];exact⟨V.int.inj,λz=>by rw[z]⟩
  ext;rw[e1];cases e3:decide (c8c true L=.sleep) with
  | false=>
   rw[e3] at q;exact q
  | true=>
   rw[e3] at q;ext;rw[e2];exact q
theorem c0o(D:DefM K cl.Giver "still" "Hand.still" a4b ["self"])(T:Txt K mg cl)(GR:MethT P w K mg qb cl.Giver "resting" 4 ["self"] (a4j cl))(GS:MethT P w K mg qb cl.Giver "sleeping" 4 ["self"] (d0h cl true)):MethT P w K mg qb cl.Giver "still" 5 ["self"] (d0g cl true):=by
 refine D.fn b4a ↑5 ↑2
 ·fail "l"
 ·obtain⟨A,L,tl,e0,⟨ps,Gq,Tq,lt,hL,hg,ht,ok⟩,k⟩:=h
  have e0:vs=[.ref A.gv]:=e0;subst e0;refine⟨_,(d9 (j1 (e1a (l9 (k:=4) (pv 0) hr ↑6 i4) (b4k (l9 (k:=4) (pv 0) hr ↑6 i4))))),?_⟩;obtain⟨dx,ex⟩:=hL.gv;fail "e";refine⟨A.gv,cl.Giver,dx,_,_,_,rfl,ex,rfl,T.k_Giver,GR,?_⟩;ext;refine⟨A,_,_,_,_,_,_,ps,Gq,Tq,tl,_,rfl,hL,(c2t ok hg).1,?_⟩;rw[(c2t ok hg).2];ext;refine c7j (λy=>?_) (λy=>?_)
  ·ext
   have q:=k H (Same.refl H);unfold d3i at q;rw[y,Bool.true_or] at q;exact q
  ·ext
   refine c4j ?_;ext;refine⟨A.gv,cl.Giver,dx,_,_,_,rfl,ex,rfl,T.k_Giver,GS,?_⟩;ext;refine⟨A,L,tl,rfl,⟨ps,Gq,Tq,lt,hL,hg,ht,ok⟩,λH' s'=>?_⟩;have q:=k H' s';unfold d3i at q;rw[y,Bool.false_or] at q;exact q
theorem c0l(D:DefM K cl.Taker "stage" "Hand.stage" a4c ["self"])(T:Txt K mg cl):MethT P w K mg qb cl.Taker "stage" 2 ["self"] (b7p cl false):=by
 refine D.fn b4b ↑5 ↑2
 ·fail "l"
 ·obtain⟨A,L,tl,e0,⟨ps,Gq,Tq,lt,hL,hg,ht,ok⟩,k⟩:=h
  have e0:vs=[.ref A.tk]:=e0;subst e0;refine⟨_,(d9 (j1 ↑4)),?_⟩;obtain⟨dx,ex⟩:=hL.tk;ext;have q:Q (.str (b0s L.ts)) H:=k;rw[<- ht.st] at q;exact q
theorem b6b(D:DefM K cl.Taker "sleeping" "Hand.sleeping" a1e ["self"])(T:Txt K mg cl)(G_Board_all_cells:qaq P w K mg qb cl)(G_bell_cell:qah P w K mg qb cl):MethT P w K mg qb cl.Taker "sleeping" 4 ["self"] (d0h cl false):=by
 refine D.fn a1y ↑5 ↑2
 ·fail "l"
 ·obtain⟨A,L,tl,e0,⟨ps,Gq,Tq,lt,hL,hg,ht,ok⟩,k⟩:=h
  have e0:vs=[.ref A.tk]:=e0;subst e0;refine⟨_,(d5 (n6 (i:=1) a1y.nd rfl (.inl rfl) (v4 (j4 (K:=K)) (a0m ↑4 T.k_Board G_Board_all_cells hr ↑6 i4) (k7 G_bell_cell hr ↑6 rfl i4 (a7 (a0c (K:=K) ↑4) (a7 ↑4 d6))) (λ_ _=>rfl)))
   (d9 (j1 (b9a (a3t a8a ↑4 k0 (n9 _)) (b4k (a3t a8a (pv 1) (v5 T.m_STILL rfl) (n9 _))))))),?_⟩
  obtain⟨dx,ex⟩:=hL.tk;obtain⟨many,last,hB,hLt⟩:=hL.brd;obtain⟨⟨dxb,eb⟩,el,hlen,n2,n8⟩:=id hB;ext;refine⟨A.bd,A.l,L.n,_,many,last,rfl,hB,λp hp=>?_⟩;have s1:=i9 (o:=.lst ((c0d L.n L.c).map V.int)) hp;ext;refine⟨L.n,"taker",rfl,a9x (n2:=n2) (n8:=n8) (.inr rfl) ?_⟩;rw[show(4*(L.n:Int)+c7h "taker"+2)=((4*L.n+a2m false:Nat):Int) by rw[hI1];show _=((4*L.n+3:Nat):Int);lia]
  have hm:a2m false<4:=by decide
  refine a0w d7 (b7d ↑3 (by rw[d0l];lia)) ?_
  rw[Int.toNat_natCast,a0n _ ↑3];have q:=k _ s1;unfold e5z at q;have e1:decide (V.str Tq.st=V.str "sleep")=decide (c8c false L=.sleep):=by
   rw[ht.st,decide_eq_decide];constructor
   ·intro z
    exact d0f (V.str.inj z)
   ·intro z
    show V.str (b0s (c8c false L))=_;rw[z]
    rfl
  have e2:decide (V.int (L.c (4*L.n+a2m false))=V.int 0)=decide (L.c (4*L.n+a2m false)=0):=by
   rw[decide_eq_decide];exact⟨V.int.inj,λz=>by rw[z]⟩
  ext;rw[e1];cases e3:decide (c8c false L=.sleep) with
  | false=>
   rw[e3] at q;exact q
  | true=>
   rw[e3] at q;ext;rw[e2];exact q
theorem c0k(D:DefM K cl.Taker "still" "Hand.still" a4b ["self"])(T:Txt K mg cl)(GR:MethT P w K mg qb cl.Taker "resting" 4 ["self"] (a4i cl))(GS:MethT P w K mg qb cl.Taker "sleeping" 4 ["self"] (d0h cl false)):MethT P w K mg qb cl.Taker "still" 5 ["self"] (d0g cl false):=by
 refine D.fn b4a ↑5 ↑2
 ·fail "l"
 ·obtain⟨A,L,tl,e0,⟨ps,Gq,Tq,lt,hL,hg,ht,ok⟩,k⟩:=h
  have e0:vs=[.ref A.tk]:=e0;subst e0;refine⟨_,(d9 (j1 (e1a (l9 (k:=4) (pv 0) hr ↑6 i4) (b4k (l9 (k:=4) (pv 0) hr ↑6 i4))))),?_⟩;obtain⟨dx,ex⟩:=hL.tk;fail "e";refine⟨A.tk,cl.Taker,dx,_,_,_,rfl,ex,rfl,T.k_Taker,GR,?_⟩;ext;refine⟨A,_,_,_,_,_,_,ps,Gq,Tq,tl,_,0,rfl,hL,?_⟩;ext;have y:a9r false L=false:=rfl;rcases (show True from trivial) with _
  ·ext
   refine c4j ?_;ext;refine⟨A.tk,cl.Taker,dx,_,_,_,rfl,ex,rfl,T.k_Taker,GS,?_⟩;ext;refine⟨A,L,tl,rfl,⟨ps,Gq,Tq,lt,hL,hg,ht,ok⟩,λH' s'=>?_⟩;have q:=k H' s';unfold d3i at q;rw[y,Bool.false_or] at q;exact q
def b3n(cl:Cl):Sp:=λvs H Q _=>ExN λla A L tl=>∃(b:Bool)(h:Str),vs=[.ref la,.str h]/\HN b h/\LN cl H la A L tl/\Q (.str (b0s (c8c b L))) H
abbrev a9h:Stmt:=m9 (top 101) 7
theorem c2f:g7 ["self","hand"] ["self","hand"] (d8 a9h):=↑1
theorem c3r(D:DefM K cl.Lane "stage" "Lane.stage" a9h ["self","hand"])(T:Txt K mg cl)(G_Lane_hand_named:MethT P w K mg qb cl.Lane "hand_named" 2 ["self","hand"] (a2n cl))(GS:MethT P w K mg qb cl.Giver "stage" 2 ["self"] (b7p cl true))(TS:MethT P w K mg qb cl.Taker "stage" 2 ["self"] (b7p cl false)):MethT P w K mg qb cl.Lane "stage" 3 ["self","hand"] (b3n cl):=by
 refine D.fn c2f ↑5 ↑2
 ·fail "l"
 ·obtain⟨la,A,L,tl,b,h,rfl,hh,hN,k⟩:=h
  refine⟨_,(d9 (j1 (l9 (k:=2) (a1f (pv 0) T.k_Lane G_Lane_hand_named hr ↑6 i4 (a7 (pv 1) d6)) hr ↑6 i4))),?_⟩;obtain⟨dx,ex⟩:=hN.ob;obtain⟨_,_,_,_,hL,_⟩:=id hN.lr;obtain⟨dxg,eg⟩:=hL.gv;obtain⟨dxt,et⟩:=hL.tk;fail "e";refine⟨la,A,L,tl,b,h,rfl,hh,hN,λx hx=>?_⟩;rcases hx with ⟨rfl,rfl⟩|⟨rfl,rfl⟩
  ·refine⟨A.gv,cl.Giver,dxg,_,_,_,rfl,eg,rfl,T.k_Giver,GS,?_⟩
   ext;exact⟨A,L,tl,rfl,hN.lr,k⟩
  ·refine⟨A.tk,cl.Taker,dxt,_,_,_,rfl,et,rfl,T.k_Taker,TS,?_⟩
   ext;exact⟨A,L,tl,rfl,hN.lr,k⟩
def b3o(cl:Cl):Sp:=λvs H Q _=>ExN λla A L tl=>vs=[.ref la]/\LN cl H la A L tl/\∀H',Same H H'->Q (.bl (d3i true L && d3i false L)) H'
abbrev a9i:Stmt:=m9 (top 101) 12
theorem c2g:g7 ["self"] ["self"] (d8 a9i):=↑1
theorem c3s(D:DefM K cl.Lane "quiet" "Lane.quiet" a9i ["self"])(T:Txt K mg cl)(GS:MethT P w K mg qb cl.Giver "still" 5 ["self"] (d0g cl true))(TS:MethT P w K mg qb cl.Taker "still" 5 ["self"] (d0g cl false)):MethT P w K mg qb cl.Lane "quiet" 7 ["self"] (b3o cl):=by
 refine D.fn c2g ↑5 ↑2
 ·fail "l"
 ·obtain⟨la,A,L,tl,rfl,hN,k⟩:=h
  refine⟨_,(d9 (j1 (b9a (l9 (k:=5) ↑4 hr ↑6 i4) (b4k (l9 (k:=5) ↑4 hr ↑6 i4))))),?_⟩;obtain⟨dx,ex⟩:=hN.ob;obtain⟨_,_,_,_,hL,_⟩:=id hN.lr;obtain⟨dxg,eg⟩:=hL.gv;obtain⟨dxt,et⟩:=hL.tk;fail "e";refine⟨A.gv,cl.Giver,dxg,_,_,_,rfl,eg,rfl,T.k_Giver,GS,?_⟩;ext;refine⟨A,L,tl,rfl,hN.lr,λH1 s1=>?_⟩;have ex1:=s1 _ _ ex;have et1:=s1 _ _ et;ext;refine c7j (λy=>?_) (λy=>?_)
  ·ext
   refine c4j ?_;ext;refine⟨A.tk,cl.Taker,dxt,_,_,_,rfl,et1,rfl,T.k_Taker,TS,?_⟩;ext;refine⟨A,L,tl,rfl,hN.lr.same s1,λH2 s2=>?_⟩;have q:=k H2 (s1.trans s2);rw[y,Bool.true_and] at q;exact q
  ·ext
   have q:=k H1 s1;rw[y,Bool.false_and] at q;exact q
def a7p(cl:Cl):Sp:=λvs H Q _=>ExN λla A L tl=>vs=[.ref la]/\LN cl H la A L tl/\∀p,H p=none->Q (.ref p) (upd H p (.lst ((c0d L.n L.c).map V.int)))
abbrev a9j:Stmt:=m9 (top 101) 14
theorem c2h:g7 ["self"] ["self"] (d8 a9j):=↑1
theorem c3t(D:DefM K cl.Lane "cells" "Lane.cells" a9j ["self"])(T:Txt K mg cl)(G_Board_all_cells:qaq P w K mg qb cl):MethT P w K mg qb cl.Lane "cells" 2 ["self"] (a7p cl):=by
 refine D.fn c2h ↑5 ↑2
 ·fail "l"
 ·obtain⟨la,A,L,tl,rfl,hN,k⟩:=h
  refine⟨_,(d9 (j1 (a0m ↑4 T.k_Board G_Board_all_cells hr ↑6 i4))),?_⟩;obtain⟨dx,ex⟩:=hN.ob;obtain⟨_,_,_,_,hL,_⟩:=id hN.lr;obtain⟨many,last,hB,hLt⟩:=hL.brd;obtain⟨⟨dxb,eb⟩,_⟩:=id hB;ext;exact⟨A.bd,A.l,L.n,_,many,last,rfl,hB,k⟩
end
def nc:HO->Bool
 | .own _=>false
 | .tbl _=>false
 | .frz _ _=>false
 | _=>true
def ow(H:Hp):Hp:=λx=>match H x with
 | some o=>if nc o=true then some o else none
 | none=>none
section
variable{cl:Cl}{H H1':Hp}{F F2:Addr->Prop}{la la2:Addr}{A A' A2:Ad}{L L' L2':Ln}{tl tl' tl2:List Tr}
theorem b5x{x:Addr}{o:HO}(e:H x=some o)(n:nc o=true):ow H x=some o:=by
 unfold ow;rw[e];exact if_pos n
theorem c0f{x:Addr}{o:HO}(e:ow H x=some o):H x=some o/\nc o=true:=by
 unfold ow at e;split at e
 ·rename_i u q
  split at e
  ·rename_i n;cases e;exact⟨q,n⟩
  ·cases e
 ·cases e
theorem a8e{o:HO}(n:nc o=true):∀a,o≠.own a:=λa z=>by rw[z] at n;cases n
theorem LN.ow(h:LN cl H la A L tl)(nf:∀x,¬ A.fo x):LN cl (ow H) la A L tl:=by
 obtain⟨⟨ps,Gq,Tq,lt,a,b⟩,⟨dx,e⟩,o,f⟩:=h;refine⟨⟨ps,Gq,Tq,lt,?_,b⟩,⟨dx,b5x e rfl⟩,o,f⟩;obtain⟨⟨m,l,⟨⟨d0,e0⟩,e1,z⟩,y⟩,⟨d2,e2⟩,⟨d3,e3⟩,e4,e5,e6,e7,e8,e9,nd,om,fo⟩:=a;have ro:∀{a os},RwsX A H a os->RwsX A (S.ow H) a os:=λh=>by
  obtain⟨ps,e,l,r⟩:=h;exact⟨ps,b5x e rfl,l,λi p o hp ho=>⟨(r i p o hp ho).1,b5x (r i p o hp ho).2 rfl⟩⟩
 refine⟨⟨m,l,⟨⟨d0,b5x e0 rfl⟩,b5x e1 rfl,z⟩,?_⟩,⟨d2,b5x e2 rfl⟩,⟨d3,b5x e3 rfl⟩,b5x e4 rfl,b5x e5 rfl,ro e6,ro e7,b5x e8 rfl,?_,nd,om,λx hx=>absurd hx (nf x)⟩
 ·obtain⟨y1,y2,y3⟩:=y
  refine⟨y1,y2,λq hq=>?_⟩;obtain⟨t,u1,u2,u3⟩:=y3 q hq;exact⟨t,u1,u2,b5x u3 rfl⟩
 ·obtain⟨ps,e,l,r⟩:=e9
  refine⟨ps,b5x e rfl,l,λi p t hp ht=>?_⟩;obtain⟨r1,r2,r3⟩:=r i p t hp ht;exact⟨r1,r2,b5x r3 rfl⟩
def b0n(H:Hp)(x:Addr):Prop:=∃o,H x=some o/\b0o (some o)=false/\∀a,o≠.own a
structure LP(cl:Cl)(H:Hp)(F:Addr->Prop)(la:Addr)(A:Ad)(L:Ln)(tl:List Tr):Prop where
 ln:LN cl (rs F H) la A L tl
 dom:∀x,F x->b0n H x
 nf:∀x,¬ A.fo x
theorem a0l{x:Addr}{o:HO}(ot:Out H1' (rs F H) H)(e:H x=some o)(n:∀a,o≠.own a)(nx:b0o (some o)=false)(hF:¬ F x):jn H1' (rs F H) H x=some o/\¬ b0n H1' x:=by
 have h1:rs F H x=none:=a5l e n (by rw[e,nx];exact λz=>z.elim hF (λq=>by cases q))
 have h2:=ot.fr x o e h1;refine⟨(c4e h1 h2).trans e,λz=>?_⟩;obtain⟨_,q,_⟩:=z;rw[h2] at q;cases q
theorem LP.behind(ot:Out H1' (rs F H) H)(n:LN cl H1' la A' L' tl')(nf:∀x,¬ A'.fo x):LP cl (jn H1' (rs F H) H) (b0n H1') la A' L' tl':=by
 refine⟨(n.ow nf).same λx o e=>?_,λx hx=>?_,nf⟩
 ·have e':H1' x=some o/\∀a,o≠.own a:=⟨(c0f e).1,a8e (c0f e).2⟩
  have ej:=a0p (H1:=rs F H) (H:=H) e'.1;refine a1v ej e'.2 ?_;cases q:b0o (some o) with
  | true=>right;rw[ej];exact q
  | false=>left;exact⟨o,e'.1,q,e'.2⟩
 ·obtain⟨o,e,z⟩:=hx
  exact⟨o,a0p e,z⟩
theorem LP.rest(h:LP cl H F2 la2 A2 L2' tl2)(dj:∀x,F x->F2 x->False)(ot:Out H1' (rs F H) H):LP cl (jn H1' (rs F H) H) F2 la2 A2 L2' tl2/\∀x,b0n H1' x->F2 x->False:=by
 have st:∀x,F2 x->∃o,H x=some o/\b0o (some o)=false/\(∀a,o≠.own a)/\jn H1' (rs F H) H x=some o/\¬ b0n H1' x:=λx hx=>by
  obtain⟨o,e,z1,z2⟩:=h.dom x hx;exact⟨o,e,z1,z2,a0l ot e z2 z1 λq=>dj x q hx⟩
 refine⟨⟨(h.ln.ow h.nf).same λx o e=>?_,λx hx=>?_,h.nf⟩,λx hx h2=>?_⟩
 ·have e':rs F2 H x=some o/\∀a,o≠.own a:=⟨(c0f e).1,a8e (c0f e).2⟩
  have en:=(c0f e).2;have eH:=a7z e'.1;by_cases hx:F2 x
  ·obtain⟨o',q1,q2,q3,q4,_⟩:=st x hx
   rw[eH] at q1;cases q1;exact a1v q4 q3 (.inl hx)
  ·cases q:b0o (some o) with
   | false=>
    have:=a5l (F:=F2) eH e'.2 (by rw[eH,q];exact λz=>z.elim hx (λq=>by cases q))
    rw[this] at e';cases e'.1
   | true=>
    have ej:jn H1' (rs F H) H x=some o:=by
     cases o with
     | tup xs=>exact a0p (ot.tup x xs eH)
     | frz a b=>cases en
     | tbl ps=>cases en
     | _=>cases q
    exact a1v ej e'.2 (.inr (by rw[ej];exact q))
 ·obtain⟨o,q1,q2,q3,q4,_⟩:=st x hx
  exact⟨o,q4,q2,q3⟩
 ·obtain⟨_,_,_,_,_,q⟩:=st x h2
  exact q hx
end
section
variable{P:Program}{w:World}{K:Frag}{mg:Str->Option Value}{qb:Heap}{cl:Cl}
theorem nwS{H H':Hp}{p:Addr}{o:HO}(h:upd H p o=H')(n:H p=none):Same H H'/\H' p=some o:=by
 rw[<- h];exact⟨i9 n,d7⟩
def HHn(o b:Bool)(h:Str):Prop:=(o=true/\b=true/\h="asker")\/(o=true/\b=false/\h="doer")\/(o=false/\b=true/\h="teller")\/(o=false/\b=false/\h="hearer")
def nmB(b:Bool):Str:=if b then "giver" else "taker"
abbrev e1q(cl:Cl)(dx la lb su fi:Addr):HO:=.ins cl.Hall dx [("out",.ref la),("back",.ref lb),("sums",.ref su),("finished",.ref fi)]
structure HD(P:Program)(w:World)(K:Frag)(cl:Cl):Prop where
 out:∃t u,KDict P w K cl.d_OUT_HANDS [("asker",.str "giver" t),("doer",.str "taker" u)]
 back:∃t u,KDict P w K cl.d_BACK_HANDS [("teller",.str "giver" t),("hearer",.str "taker" u)]
theorem va2{a b x:Str}{u v:Value}:valueAt [(a,u),(b,v)] x=if a=x then some u else if b=x then some v else none:=by
 unfold valueAt;by_cases h1:a=x
 ·simp[h1]
 ·by_cases h2:b=x
  ·simp[h1,h2]
  ·simp[h1,h2]
def d0j(cl:Cl):Sp:=λvs H Q E=>∃(hl dx la lb su fi:Addr)(h:Str),vs=[.ref hl,.str h]/\H hl=some (e1q cl dx la lb su fi) /\
 (∀o b,HHn o b h->∀p,H p=none->Q (.ref p) (upd H p (.tup [.ref (if o then la else lb),.str (nmB b)])))/\((∀o b,¬ HHn o b h)->False)
abbrev a1q:Stmt:=m9 (top 108) 1
theorem a8r:g7 ["self","hand"] ["self","hand"] (d8 a1q):=↑1
theorem a9u(D:DefM K cl.Hall "lane_and_name" "Hall.lane_and_name" a1q ["self","hand"])(T:Txt K mg cl)(kd:HD P w K cl):MethT P w K mg qb cl.Hall "lane_and_name" 1 ["self","hand"] (d0j cl):=by
 refine D.fn a8r ↑5 ↑2
 ·fail "l"
 ·obtain⟨hl,dx,la,lb,su,fi,h,rfl,ex,k,kb⟩:=h
  obtain⟨⟨t,u,ko⟩,⟨t',u',kc⟩⟩:=kd;refine⟨_,(d5 (a0s (k8 (c3c (K:=K)) (pv 1) (a2h T.r_OUT_HANDS rfl) (by with_unfolding_all rfl))
     (d9 (j1 (b7b (a7 ↑4 (a7 (v4 (c9p (K:=K)) (a2h T.r_OUT_HANDS rfl) (pv 1) (λ_ _=>rfl)) d6)))))
     v3)
   (d5 (a0s (k8 (c3c (K:=K)) (pv 1) (a2h T.r_BACK_HANDS rfl) (by with_unfolding_all rfl))
     (d9 (j1 (b7b (a7 ↑4 (a7 (v4 (c9p (K:=K)) (a2h T.r_BACK_HANDS rfl) (pv 1) (λ_ _=>rfl)) d6)))))
     v3)
   (d9 a2x))),?_⟩
  ext;by_cases h1:h="asker"
  ·subst h1
   refine⟨_,_,_,rfl,rfl,ko,_,rfl,?_⟩;rw[if_pos (by rfl)]
   ext;refine⟨_,_,_,_,.str "giver",rfl,rfl,ko,rfl,⟨_,rfl⟩,?_⟩;ext;exact⟨(show 2<=sizeLine by decide),λp hp=>k true true (.inl ⟨rfl,rfl,rfl⟩) p hp⟩
  by_cases h2:h="doer"
  ·subst h2
   refine⟨_,_,_,rfl,rfl,ko,_,rfl,?_⟩;rw[if_pos (by rfl)]
   ext;refine⟨_,_,_,_,.str "taker",rfl,rfl,ko,rfl,⟨_,rfl⟩,?_⟩;ext;exact⟨(show 2<=sizeLine by decide),λp hp=>k true false (.inr (.inl ⟨rfl,rfl,rfl⟩)) p hp⟩
  refine⟨_,_,_,rfl,rfl,ko,_,rfl,?_⟩;rw[if_neg (by rw[va2,if_neg (Ne.symm h1),if_neg (Ne.symm h2)];decide)]
  ext;by_cases h3:h="teller"
  ·subst h3
   refine⟨_,_,_,rfl,rfl,kc,_,rfl,?_⟩;rw[if_pos (by rfl)]
   ext;refine⟨_,_,_,_,.str "giver",rfl,rfl,kc,rfl,⟨_,rfl⟩,?_⟩;ext;exact⟨(show 2<=sizeLine by decide),λp hp=>k false true (.inr (.inr (.inl ⟨rfl,rfl,rfl⟩))) p hp⟩
  by_cases h4:h="hearer"
  ·subst h4
   refine⟨_,_,_,rfl,rfl,kc,_,rfl,?_⟩;rw[if_pos (by rfl)]
   ext;refine⟨_,_,_,_,.str "taker",rfl,rfl,kc,rfl,⟨_,rfl⟩,?_⟩;ext;exact⟨(show 2<=sizeLine by decide),λp hp=>k false false (.inr (.inr (.inr ⟨rfl,rfl,rfl⟩))) p hp⟩
  refine⟨_,_,_,rfl,rfl,kc,_,rfl,?_⟩;rw[if_neg (by rw[va2,if_neg (Ne.symm h3),if_neg (Ne.symm h4)];decide)]
  ext;exact kb λo b z=>by
   rcases z with ⟨_,_,z⟩|⟨_,_,z⟩|⟨_,_,z⟩|⟨_,_,z⟩
   ·exact h1 z
   ·exact h2 z
   ·exact h3 z
   ·exact h4 z
structure HSt where
 L:Ln
 tl:List Tr
 M:Ln
 tm:List Tr
 sm:List Int
 fin:List Int
structure HRel(cl:Cl)(H:Hp)(hl la lb su fi:Addr)(F G:Addr->Prop)(A B:Ad)(S:HSt):Prop where
 ob:∃dx,H hl=some (e1q cl dx la lb su fi)
 sum:H su=some (.lst (S.sm.map V.int))
 four:S.sm.length=4
 done:H fi=some (.dK (S.fin.map λn=>(.inl n,V.bl true)))
 lo:LP cl H F la A S.L S.tl
 lk:LP cl H G lb B S.M S.tm
 dj:∀x,F x->G x->False
 nF:¬ F hl/\¬ F su/\¬ F fi
 nG:¬ G hl/\¬ G su/\¬ G fi
def HR(cl:Cl)(H:Hp)(hl:Addr)(S:HSt):Prop:=∃la lb su fi F G A B,HRel cl H hl la lb su fi F G A B S
theorem HRel.out{H H1':Hp}{hl la lb su fi:Addr}{F G:Addr->Prop}{A B A':Ad}{S:HSt}{L':Ln}{tl':List Tr}(h:HRel cl H hl la lb su fi F G A B S)(ot:Out H1' (rs F H) H)(n:LN cl H1' la A' L' tl')(nf:∀x,¬ A'.fo x):
  HRel cl (jn H1' (rs F H) H) hl la lb su fi (b0n H1') G A' B { S with L:=L',tl:=tl' }:=by
 obtain⟨⟨dx,e⟩,e2,e3,e4,lo,lk,dj,⟨n1,n2,n3⟩,nG⟩:=h;obtain⟨r1,m1⟩:=a0l ot e (λ_ z=>nomatch z) rfl n1;obtain⟨r2,m2⟩:=a0l ot e2 (λ_ z=>nomatch z) rfl n2;obtain⟨r3,m3⟩:=a0l ot e4 (λ_ z=>nomatch z) rfl n3;obtain⟨l2,d2⟩:=lk.rest dj ot;exact⟨⟨dx,r1⟩,r2,e3,r3,LP.behind ot n nf,l2,d2,⟨m1,m2,m3⟩,nG⟩
theorem HRel.back{H H1':Hp}{hl la lb su fi:Addr}{F G:Addr->Prop}{A B B':Ad}{S:HSt}{M':Ln}{tm':List Tr}(h:HRel cl H hl la lb su fi F G A B S)(ot:Out H1' (rs G H) H)(n:LN cl H1' lb B' M' tm')(nf:∀x,¬ B'.fo x):
  HRel cl (jn H1' (rs G H) H) hl la lb su fi F (b0n H1') A B' { S with M:=M',tm:=tm' }:=by
 obtain⟨⟨dx,e⟩,e2,e3,e4,lo,lk,dj,nF,⟨n1,n2,n3⟩⟩:=h;obtain⟨r1,m1⟩:=a0l ot e (λ_ z=>nomatch z) rfl n1;obtain⟨r2,m2⟩:=a0l ot e2 (λ_ z=>nomatch z) rfl n2;obtain⟨r3,m3⟩:=a0l ot e4 (λ_ z=>nomatch z) rfl n3;obtain⟨l2,d2⟩:=lo.rest (λx a b=>dj x b a) ot;exact⟨⟨dx,r1⟩,r2,e3,r3,l2,LP.behind ot n nf,λx a b=>d2 x b a,nF,⟨m1,m2,m3⟩⟩
theorem LP.more{H:Hp}{F:Addr->Prop}{la p:Addr}{A:Ad}{L:Ln}{tl:List Tr}{o:HO}(h:LP cl H F la A L tl)(hp:H p=none):LP cl (upd H p o) F la A L tl:=by
 have np:∀x u,H x=some u->upd H p o x=some u:=λx u e=>by rw[c7 (g9 e hp)];exact e
 refine⟨(h.ln.ow h.nf).same λx u e=>?_,λx hx=>?_,h.nf⟩
 ·have e1:=c0f e
  have e2:=a7z e1.1;refine a1v (np x u e2) (a8e e1.2) ?_;by_cases hx:F x
  ·exact .inl hx
  ·right
   cases q:b0o (some u) with
   | true=>rw[np x u e2];exact q
   | false=>
    have:=a5l (F:=F) e2 (a8e e1.2) (by rw[e2,q];exact λz=>z.elim hx (λq=>by cases q))
    rw[this] at e1;cases e1.1
 ·obtain⟨u,e,z⟩:=h.dom x hx
  exact⟨u,np x u e,z⟩
theorem HRel.more{H:Hp}{hl la lb su fi p:Addr}{F G:Addr->Prop}{A B:Ad}{S:HSt}{o:HO}(h:HRel cl H hl la lb su fi F G A B S)(hp:H p=none):HRel cl (upd H p o) hl la lb su fi F G A B S:=by
 have np:∀x u,H x=some u->upd H p o x=some u:=λx u e=>by rw[c7 (g9 e hp)];exact e
 obtain⟨⟨dx,e⟩,e2,e3,e4,lo,lk,dj,nF,nG⟩:=h;exact⟨⟨dx,np _ _ e⟩,np _ _ e2,e3,np _ _ e4,lo.more hp,lk.more hp,dj,nF,nG⟩
def HSt.lane(S:HSt)(o:Bool):Ln:=if o then S.L else S.M
def HSt.trl(S:HSt)(o:Bool):List Tr:=if o then S.tl else S.tm
def HSt.put(S:HSt)(o:Bool)(L:Ln)(tl:List Tr):HSt:=if o then { S with L:=L,tl:=tl } else { S with M:=L,tm:=tl }
theorem HRel.at{H:Hp}{hl la lb su fi:Addr}{F G:Addr->Prop}{A B:Ad}{S:HSt}(h:HRel cl H hl la lb su fi F G A B S)(o:Bool):
  ∃F0 A0,LN cl (rs F0 H) (if o then la else lb) A0 (S.lane o) (S.trl o)/\(∀x,¬ A0.fo x)/\∀H1' A' L' tl',Out H1' (rs F0 H) H->LN cl H1' (if o then la else lb) A' L' tl'->A'.fo=A0.fo->HR cl (jn H1' (rs F0 H) H) hl (S.put o L' tl'):=by
 cases o with
 | true=>exact⟨F,A,h.lo.ln,h.lo.nf,λH1' A' L' tl' ot n e=>⟨la,lb,su,fi,_,G,A',B,h.out ot n (e ▸ h.lo.nf)⟩⟩
 | false=>exact⟨G,B,h.lk.ln,h.lk.nf,λH1' A' L' tl' ot n e=>⟨la,lb,su,fi,F,_,A,A',h.back ot n (e ▸ h.lk.nf)⟩⟩
theorem HHn.nm{o b:Bool}{h:Str}(z:HHn o b h):HN b (nmB b):=by
 cases b
 ·exact .inr ⟨rfl,rfl⟩
 ·exact .inl ⟨rfl,rfl⟩
theorem HHn.uq{o b o' b':Bool}{h:Str}(z:HHn o b h)(z':HHn o' b' h):o'=o/\b'=b:=by
 rcases z with ⟨rfl,rfl,rfl⟩|⟨rfl,rfl,rfl⟩|⟨rfl,rfl,rfl⟩|⟨rfl,rfl,rfl⟩ <;> rcases z' with ⟨rfl,rfl,e⟩|⟨rfl,rfl,e⟩|⟨rfl,rfl,e⟩|⟨rfl,rfl,e⟩ <;> first|exact⟨rfl,rfl⟩|exact absurd e ↑6
def b6w(cl:Cl):Sp:=λvs H Q E=>∃(hl:Addr)(S:HSt)(h:Str),vs=[.ref hl,.str h]/\HR cl H hl S/\(∀o,(S.lane o).os.length<=400/\(S.trl o).length<=4000000) /\
 (∀o b,HHn o b h->∀H',HR cl H' hl (S.put o (b5b b (S.lane o)) (trB b (S.lane o) (S.trl o)))->Q (.bl (!a9r b (S.lane o))) H')/\((∀o b,¬ HHn o b h)->False)
abbrev b2q:Stmt:=m9 (top 108) 3
theorem a8q:g7 ["self","hand","lane","name"] ["self","hand"] (d8 b2q):=↑1
variable(P w K mg qb cl)in
abbrev qar:=MethT P w K mg qb cl.Hall "lane_and_name" 1 ["self","hand"] (d0j cl)
theorem c6y(D:DefM K cl.Hall "step" "Hall.step" b2q ["self","hand"])(T:Txt K mg cl)(G_Hall_lane_and_name:qar P w K mg qb cl)(GS:MethT P w K mg qb cl.Lane "step" 10 ["self","hand"] (frS (b6t cl))):MethT P w K mg qb cl.Hall "step" 11 ["self","hand"] (b6w cl):=by
 refine D.fn a8q ↑5 ↑2
 ·fail "l"
 ·obtain⟨hl,S,h,rfl,⟨la,lb,su,fi,F,G,A,B,hR⟩,h45,k,kb⟩:=h
  obtain⟨dx,ex⟩:=hR.ob;refine⟨_,(d5 (b7a (a1f (pv 0) T.k_Hall G_Hall_lane_and_name hr ↑6 i4 (a7 (pv 1) d6)) (c3a (K:=K) rfl (a6a (y7 (i:=2) a8q.nd rfl (.inl rfl)) (a6a (y7 (i:=3) a8q.nd rfl (.inl rfl)) c2z))))
   (d9 (j1 (b8z (k:=10) (pv 2) hr ↑6 i4 (a7 (pv 3) d6))))),?_⟩
  ext;refine⟨hl,dx,la,lb,su,fi,h,rfl,ex,λo' b' hz p hp=>?_,kb⟩;obtain⟨h4,h5⟩:=h45 o';have hR2:=hR.more (o:=.tup [.ref (if o' then la else lb),.str (nmB b')]) hp;obtain⟨F0,A0,ln,nf,nx⟩:=hR2.at o';have e2:upd H p (.tup [.ref (if o' then la else lb),.str (nmB b')]) p=some (.tup [.ref (if o' then la else lb),.str (nmB b')]):=d7;obtain⟨dxl,el⟩:=ln.ob;have el:=a7z el;generalize upd H p (.tup [.ref (if o' then la else lb),.str (nmB b')])=H2 at *;refine c1e (by assumption) rfl ?_
  fail "e";refine⟨if o' then la else lb,cl.Lane,dxl,_,_,_,rfl,el,rfl,T.k_Lane,GS,?_⟩;ext;exact⟨rs F0 H2,a4d F0 H2,_,A0,S.lane o',S.trl o',b',nmB b',rfl,hz.nm,ln,h4,h5,λH' A' z1 z2 z3 ot=>k o' b' hz _ (nx H' A' _ _ ot z1 z3.2)⟩
theorem LP.sm{H H':Hp}{F:Addr->Prop}{la:Addr}{A:Ad}{L:Ln}{tl:List Tr}(h:LP cl H F la A L tl)(s:Same H H'):LP cl H' F la A L tl:=by
 refine⟨(h.ln.ow h.nf).same λx u e=>?_,λx hx=>?_,h.nf⟩
 ·have e1:=c0f e
  have e2:=a7z e1.1;refine a1v (s x u e2) (a8e e1.2) ?_;by_cases hx:F x
  ·exact .inl hx
  ·right
   cases q:b0o (some u) with
   | true=>rw[s x u e2];exact q
   | false=>
    have:=a5l (F:=F) e2 (a8e e1.2) (by rw[e2,q];exact λz=>z.elim hx (λq=>by cases q))
    rw[this] at e1;cases e1.1
 ·obtain⟨u,e,z⟩:=h.dom x hx
  exact⟨u,s x u e,z⟩
theorem HRel.sm{H H':Hp}{hl la lb su fi:Addr}{F G:Addr->Prop}{A B:Ad}{S:HSt}(h:HRel cl H hl la lb su fi F G A B S)(s:Same H H'):HRel cl H' hl la lb su fi F G A B S:=by
 obtain⟨⟨dx,e⟩,e2,e3,e4,lo,lk,dj,nF,nG⟩:=h;exact⟨⟨dx,s _ _ e⟩,s _ _ e2,e3,s _ _ e4,lo.sm s,lk.sm s,dj,nF,nG⟩
theorem HR.sm{H H':Hp}{hl:Addr}{S:HSt}(h:HR cl H hl S)(s:Same H H'):HR cl H' hl S:=by
 obtain⟨la,lb,su,fi,F,G,A,B,h⟩:=h;exact⟨la,lb,su,fi,F,G,A,B,h.sm s⟩
theorem LP.all{H:Hp}{F:Addr->Prop}{la:Addr}{A:Ad}{L:Ln}{tl:List Tr}(h:LP cl H F la A L tl):LN cl H la A L tl:=h.ln.same λ_ _ e=>a7z e
theorem HRel.lane{H:Hp}{hl la lb su fi:Addr}{F G:Addr->Prop}{A B:Ad}{S:HSt}(h:HRel cl H hl la lb su fi F G A B S)(o:Bool):∃A0,LN cl H (if o then la else lb) A0 (S.lane o) (S.trl o):=by
 cases o with
 | true=>exact⟨A,h.lo.all⟩
 | false=>exact⟨B,h.lk.all⟩
theorem b7s{H:Hp}{p:Addr}{o:HO}(hp:H p=none):Same H (upd H p o):=λx u e=>by rw[c7 (g9 e hp)];exact e
def b3p(cl:Cl):Sp:=λvs H Q E=>∃(hl:Addr)(S:HSt)(h:Str),vs=[.ref hl,.str h]/\HR cl H hl S/\(∀o b,HHn o b h->∀H',Same H H'->Q (.str (b0s (c8c b (S.lane o)))) H')/\((∀o b,¬ HHn o b h)->False)
abbrev a9k:Stmt:=m9 (top 108) 4
theorem a7q:g7 ["self","hand","lane","name"] ["self","hand"] (d8 a9k):=↑1
theorem c3u(D:DefM K cl.Hall "stage" "Hall.stage" a9k ["self","hand"])(T:Txt K mg cl)(G_Hall_lane_and_name:qar P w K mg qb cl)(GS:MethT P w K mg qb cl.Lane "stage" 3 ["self","hand"] (b3n cl)):MethT P w K mg qb cl.Hall "stage" 4 ["self","hand"] (b3p cl):=by
 refine D.fn a7q ↑5 ↑2
 ·fail "l"
 ·obtain⟨hl,S,h,rfl,⟨la,lb,su,fi,F,G,A,B,hR⟩,k,kb⟩:=h
  obtain⟨dx,ex⟩:=hR.ob;refine⟨_,(d5 (b7a (a1f (pv 0) T.k_Hall G_Hall_lane_and_name hr ↑6 i4 (a7 (pv 1) d6)) (c3a (K:=K) rfl (a6a (y7 (i:=2) a7q.nd rfl (.inl rfl)) (a6a (y7 (i:=3) a7q.nd rfl (.inl rfl)) c2z))))
   (d9 (j1 (b8z (k:=3) (pv 2) hr ↑6 i4 (a7 (pv 3) d6))))),?_⟩
  ext;refine⟨hl,dx,la,lb,su,fi,h,rfl,ex,λo' b' hz p hp=>?_,kb⟩;have sm:Same H (upd H p (.tup [.ref (if o' then la else lb),.str (nmB b')])):=b7s hp;obtain⟨A0,ln⟩:=(hR.sm sm).lane o';have e2:upd H p (.tup [.ref (if o' then la else lb),.str (nmB b')]) p=some (.tup [.ref (if o' then la else lb),.str (nmB b')]):=d7;obtain⟨dxl,el⟩:=ln.ob;generalize upd H p (.tup [.ref (if o' then la else lb),.str (nmB b')])=H2 at *;refine c1e (by assumption) rfl ?_
  fail "e";refine⟨if o' then la else lb,cl.Lane,dxl,_,_,_,rfl,el,rfl,T.k_Lane,GS,?_⟩;ext;exact⟨_,A0,S.lane o',S.trl o',b',nmB b',rfl,hz.nm,ln,k o' b' hz _ sm⟩
def a4v(cl:Cl)(o:Bool):Sp:=λvs H Q _=>∃(hl:Addr)(S:HSt),vs=[.ref hl]/\HR cl H hl S/\∀p,H p=none->Q (.ref p) (upd H p (.lst ((c0d (S.lane o).n (S.lane o).c).map V.int)))
abbrev a4o:Stmt:=m9 (top 108) 13
theorem b5j:g7 ["self"] ["self"] (d8 a4o):=↑1
theorem b6d(D:DefM K cl.Hall "out_cells" "Hall.out_cells" a4o ["self"])(T:Txt K mg cl)(G_Lane_cells:MethT P w K mg qb cl.Lane "cells" 2 ["self"] (a7p cl)):MethT P w K mg qb cl.Hall "out_cells" 3 ["self"] (a4v cl true):=by
 refine D.fn b5j ↑5 ↑2
 ·fail "l"
 ·obtain⟨hl,S,rfl,⟨la,lb,su,fi,F,G,A,B,hR⟩,k⟩:=h
  obtain⟨dx,ex⟩:=hR.ob;obtain⟨dxl,el⟩:=hR.lo.all.ob;refine⟨_,(d9 (j1 (a0m ↑4 T.k_Lane G_Lane_cells hr ↑6 i4))),?_⟩;ext;exact⟨la,A,S.L,S.tl,rfl,hR.lo.all,k⟩
abbrev a3o:Stmt:=m9 (top 108) 14
theorem b4c:g7 ["self"] ["self"] (d8 a3o):=↑1
theorem b4r(D:DefM K cl.Hall "back_cells" "Hall.back_cells" a3o ["self"])(T:Txt K mg cl)(G_Lane_cells:MethT P w K mg qb cl.Lane "cells" 2 ["self"] (a7p cl)):MethT P w K mg qb cl.Hall "back_cells" 3 ["self"] (a4v cl false):=by
 refine D.fn b4c ↑5 ↑2
 ·fail "l"
 ·obtain⟨hl,S,rfl,⟨la,lb,su,fi,F,G,A,B,hR⟩,k⟩:=h
  obtain⟨dx,ex⟩:=hR.ob;obtain⟨dxl,el⟩:=hR.lk.all.ob;refine⟨_,(d9 (j1 (a0m ↑4 T.k_Lane G_Lane_cells hr ↑6 i4))),?_⟩;ext;exact⟨lb,B,S.M,S.tm,rfl,hR.lk.all,k⟩
abbrev a6n:Stmt:=m9 (top 108) 8
theorem b8j:g7 ["self"] ["self"] (d8 a6n):=↑1
theorem b9f(D:DefM K cl.Hall "shelves" "Hall.shelves" a6n ["self"])(T:Txt K mg cl):MethT P w K mg qb cl.Hall "shelves" 1 ["self"] (λvs H Q _=>∃(hl:Addr)(S:HSt),vs=[.ref hl]/\HR cl H hl S/\∀p,H p=none->Q (.ref p) (upd H p (.lst (S.sm.map V.int)))):=by
 refine D.fn b8j ↑5 ↑2
 ·fail "l"
 ·obtain⟨hl,S,rfl,⟨la,lb,su,fi,F,G,A,B,hR⟩,k⟩:=h
  obtain⟨dx,ex⟩:=hR.ob;have es:=hR.sum;refine⟨_,(d9 (j1 (a2y (a7e (K:=K)) (by rfl) T.z_list PyProof.Rows.boot_list (a7 ↑4 d6)))),?_⟩
  ext;exact k
def a2l(S:HSt):List Int:=((List.range S.L.bk.length).filter λ(n:Nat)=>!decide ((n:Int)∈S.fin)).map λ(n:Nat)=>(n:Int)
theorem d5v(l:List Int)(j:Int):(c7z (l.map λn=>((.inl n:Key),V.bl true)) (.inl j)).isSome=decide (j∈l):=by
 rw[<- b7o]
 induction l with
 | nil=>rfl
 | cons a l ih=>
  rw[List.map_cons,List.any_cons,ih];by_cases h:j=a
  ·subst h;simp
  ·have:¬ a=j:=λz=>h z.symm
   simp[h,this]
def a0e(cl:Cl):Sp:=λvs H Q _=>∃(hl:Addr)(S:HSt),vs=[.ref hl]/\HR cl H hl S/\S.L.os.length<=1000/\∀p H',H p=none->Same H H'->H' p=some (.lst ((a2l S).map V.int))->Q (.ref p) H'
abbrev a6m:Stmt:=m9 (top 108) 6
theorem b8i:g7 ["self"] ["self"] (d8 a6m):=↑1
variable(P w K mg qb cl)in
abbrev qas:=MethT P w K mg qb cl.Lane "book" 3 ["self"] (a5u cl)
theorem b9e(D:DefM K cl.Hall "waiting" "Hall.waiting" a6m ["self"])(T:Txt K mg cl)(G_Lane_book:qas P w K mg qb cl):MethT P w K mg qb cl.Hall "waiting" 4 ["self"] (a0e cl):=by
 refine D.fn b8i ↑5 ↑2
 ·fail "l"
 ·obtain⟨hl,S,rfl,⟨la,lb,su,fi,F,G,A,B,hR⟩,h1,k⟩:=h
  obtain⟨dx,ex⟩:=hR.ob;obtain⟨dxl,el⟩:=hR.lo.all.ob;refine⟨_,(d9 (j1 (d4m (N:=["number","self"]) (nt:=1) (fr:=[0]) rfl (b7x (i:=0) rfl rfl (by decide +kernel) (by decide +kernel) rfl rfl rfl rfl rfl rfl rfl) (b4j rfl T.z_range (a7 (l7 (n5 (K:=K)) (by rfl) T.z_len PySem.boot_len (a7 (l9 (k:=3) ↑4 hr ↑6 i4) d6)) d6)) (a6p ↑6) (λ_ _ _ _ _=>y7 (i:=0) (show(["number","self"]:List Str).Nodup by decide +kernel) rfl (Or.inl rfl) (Or.inr rfl)) (λ_ _ _ _ _=>(e3u (d4q (huN hr 1) (pv 0) (a0c (K:=K) (pv 1))) (by with_unfolding_all rfl))) (λ_ _ _ _ _=>(pv 0))))),?_⟩
  have ef:=hR.done;have h20:2000<=sizeLine:=by decide
  refine d8w ?_;fail "e";refine⟨la,cl.Lane,dxl,_,_,_,rfl,el,rfl,T.k_Lane,G_Lane_book,?_⟩;ext;refine⟨la,A,S.L,S.tl,rfl,hR.lo.all,h1,λp H1 nr=>?_⟩;obtain⟨hp,sm,ps,ep,lp,_⟩:=nr;ext;obtain⟨_,_,_,_,_,_,_,okL⟩:=hR.lo.all.lr;have hb:S.L.bk.length<=1000:=Nat.le_trans okL.tk.bl h1;refine⟨_,rfl,by rw[List.length_map,lp];lia,by rw[List.length_map,lp];lia,?_⟩
  rw[List.length_map,lp,Int.toNat_natCast];refine c4o (n:=S.L.bk.length) (c:=λn=>!decide ((n:Int)∈S.fin)) (f:=λn=>V.int (n:Int)) ↑3 (λi H' k1 k2 hi s' q1 q2=>?_) (λD hD=>?_)
  ·have ex':=s' _ _ (sm _ _ ex)
   have ef':=s' _ _ (sm _ _ ef);ext;show e2z 0 _ H' _;ext;refine⟨fi,_,rfl,DGet.k (k:=.inl (0+(i:Int))) ef',_,rfl,?_⟩;rw[d5v,Int.zero_add];cases q:decide ((i:Int)∈S.fin) with
   | true=>
    rw[q] at q2;exact(if_neg ↑6).mpr (q2 rfl)
   | false=>
    rw[q] at q1;refine (if_pos rfl).mpr ?_;ext;exact q1 rfl
  ·have nD:D≠p:=λz=>by rw[z,ep] at hD;cases hD
   refine k D _ ?_ (λx o e=>by rw[c7 (g9 (sm _ _ e) hD)];exact sm _ _ e) (by rw[d7];unfold a2l;rw[List.map_map];rfl)
   cases q:H D with
   | none=>rfl
   | some u=>rw[sm _ _ q] at hD;cases hD
def b8y(S:HSt):Bool:=decide ((a2l S).length=0) && ((d3i true S.L && d3i false S.L) && (d3i true S.M && d3i false S.M))
def b3q(cl:Cl):Sp:=λvs H Q _=>∃(hl:Addr)(S:HSt),vs=[.ref hl]/\HR cl H hl S/\S.L.os.length<=1000/\∀H',Same H H'->Q (.bl (b8y S)) H'
abbrev a9l:Stmt:=m9 (top 108) 12
theorem c2j:g7 ["self"] ["self"] (d8 a9l):=↑1
variable(P w K mg qb cl)in
abbrev qat:=MethT P w K mg qb cl.Hall "waiting" 4 ["self"] (a0e cl)
theorem c3v(D:DefM K cl.Hall "quiet" "Hall.quiet" a9l ["self"])(T:Txt K mg cl)(G_Hall_waiting:qat P w K mg qb cl)(GQ:MethT P w K mg qb cl.Lane "quiet" 8 ["self"] (b3o cl)):MethT P w K mg qb cl.Hall "quiet" 9 ["self"] (b3q cl):=by
 refine D.fn c2j ↑5 ↑2
 ·fail "l"
 ·obtain⟨hl,S,rfl,⟨la,lb,su,fi,F,G,A,B,hR⟩,h1,k⟩:=h
  obtain⟨dx,ex⟩:=hR.ob;refine⟨_,(d9 (j1 (b9a (a3t a8a (l7 (n5 (K:=K)) (by rfl) T.z_len PySem.boot_len (a7 (a0m (pv 0) T.k_Hall G_Hall_waiting hr ↑6 i4) d6)) i8 (n9 _)) (b9a (l9 (k:=8) ↑4 hr ↑6 i4) (b4k (l9 (k:=8) ↑4 hr ↑6 i4)))))),?_⟩
  ext;refine⟨hl,S,rfl,⟨la,lb,su,fi,F,G,A,B,hR⟩,h1,λp H1 hp sm ep=>?_⟩;have hR1:=hR.sm sm;have ex1:=sm _ _ ex;obtain⟨dxa,ea⟩:=hR1.lo.all.ob;ext;by_cases hw:(a2l S).length=0
  ·refine (if_pos (by rw[List.length_map,hw];rfl)).mpr ?_
   fail "e";refine⟨la,cl.Lane,dxa,_,_,_,rfl,ea,rfl,T.k_Lane,GQ,?_⟩;ext;refine⟨la,A,S.L,S.tl,rfl,hR1.lo.all,λH2 s2=>?_⟩;have sm2:Same H H2:=λx o e=>s2 _ _ (sm _ _ e);have hR2:=hR.sm sm2;have ex2:=sm2 _ _ ex;obtain⟨dxb,eb⟩:=hR2.lk.all.ob;cases hq:(d3i true S.L && d3i false S.L) with
   | false=>
    ext;have:=k H2 sm2;unfold b8y at this;rw[hq,Bool.false_and,Bool.and_false] at this;exact this
   | true=>
    fail "e";refine⟨lb,cl.Lane,dxb,_,_,_,rfl,eb,rfl,T.k_Lane,GQ,?_⟩;ext;refine⟨lb,B,S.M,S.tm,rfl,hR2.lk.all,λH3 s3=>?_⟩;have:=k H3 (λx o e=>s3 _ _ (sm2 _ _ e));unfold b8y at this;rw[hq,hw,Bool.true_and] at this;exact this
  ·refine (if_neg (by rw[List.length_map];exact λz=>hw (by have:=of_decide_eq_true z;cases h:(a2l S).length with|zero=>rfl|succ n=>rw[h] at this;cases this))).mpr ?_
   have:=k H1 sm;unfold b8y at this;rw[decide_eq_false hw,Bool.false_and] at this;exact this
theorem c2s{F F1:Addr->Prop}{H:Hp}(h:∀x,F x->F1 x):Same (rs F H) (rs F1 H):=λx o e=>by
 have eH:=a7z e;by_cases n:∃a,o=.own a
 ·obtain⟨a,rfl⟩:=n
  by_cases hc:F a\/b0o (H a)=true
  ·exact c8q eH (hc.imp (h a) id)
  ·rw[d3z eH hc] at e;cases e
 ·have n:∀a,o≠.own a:=λa z=>n ⟨a,z⟩
  by_cases hc:F x\/b0o (H x)=true
  ·exact a1v eH n (hc.imp (h x) id)
  ·rw[a5l eH n hc] at e;cases e
theorem HRel.outG{H H1':Hp}{hl la lb su fi:Addr}{F G F1:Addr->Prop}{A B A':Ad}{S:HSt}{L':Ln}{tl':List Tr}(h:HRel cl H hl la lb su fi F G A B S)(dj:∀x,F1 x->G x->False)(nF:¬ F1 hl/\¬ F1 su/\¬ F1 fi)(ot:Out H1' (rs F1 H) H)(n:LN cl H1' la A' L' tl')(nf:∀x,¬ A'.fo x):
  HRel cl (jn H1' (rs F1 H) H) hl la lb su fi (b0n H1') G A' B { S with L:=L',tl:=tl' }:=by
 obtain⟨⟨dx,e⟩,e2,e3,e4,lo,lk,_,_,nG⟩:=h;obtain⟨n1,n2,n3⟩:=nF;obtain⟨r1,m1⟩:=a0l ot e (λ_ z=>nomatch z) rfl n1;obtain⟨r2,m2⟩:=a0l ot e2 (λ_ z=>nomatch z) rfl n2;obtain⟨r3,m3⟩:=a0l ot e4 (λ_ z=>nomatch z) rfl n3;obtain⟨l2,d2⟩:=lk.rest dj ot;exact⟨⟨dx,r1⟩,r2,e3,r3,LP.behind ot n nf,l2,d2,⟨m1,m2,m3⟩,nG⟩
def b8b(cl:Cl):Sp:=λvs H Q _=>∃(hl a:Addr)(S:HSt)(o:List Int)(H0:Hp),vs=[.ref hl,.ref a]/\HR cl H0 hl S/\Same H0 H/\H0 a=none/\H a=some (.lst (o.map V.int))/\1<=o.length/\o.length<=S.L.n/\S.L.os.length<=400 /\
 ∀H',HR cl H' hl (S.put true (a3w S.L o) S.tl)->Q (.int S.L.os.length) H'
abbrev b5w:Stmt:=m9 (top 108) 2
theorem c8k:g7 ["self","order"] ["self","order"] (d8 b5w):=↑1
theorem c9h(D:DefM K cl.Hall "ask" "Hall.ask" b5w ["self","order"])(T:Txt K mg cl)(G_Lane_hand_in:MethT P w K mg qb cl.Lane "hand_in" 3 ["self","order"] (frS (a2o cl))):MethT P w K mg qb cl.Hall "ask" 4 ["self","order"] (b8b cl):=by
 refine D.fn c8k ↑5 ↑2
 ·fail "l"
 ·obtain⟨hl,a,S,o,H0,rfl,⟨la,lb,su,fi,F,G,A,B,hR0⟩,s0,a0,ea,o1,on,h4,k⟩:=h
  have hR:=hR0.sm s0;obtain⟨dx,ex⟩:=hR.ob;obtain⟨dxl,el⟩:=hR.lo.all.ob;have nfa:∀{x:Addr}{u:HO},H0 x=some u->x≠a:=λe z=>by rw[z,a0] at e;cases e
  have nG:¬ G a:=λz=>by obtain⟨u,e,_⟩:=hR0.lk.dom a z;exact nfa e rfl
  obtain⟨dx0,ex0⟩:=hR0.ob;have nla:hl≠a/\su≠a/\fi≠a:=⟨nfa ex0,nfa hR0.sum,nfa hR0.done⟩;refine⟨_,(d9 (j1 (a1f ↑4 T.k_Lane G_Lane_hand_in hr ↑6 i4 (a7 (pv 1) d6)))),?_⟩;ext;refine⟨rs (λx=>F x\/x=a) H,a4d _ H,la,A,S.L,S.tl,a,o,rfl,hR.lo.ln.same (c2s λ_ z=>.inl z),a1v ea (λ_ z=>nomatch z) (.inl (.inr rfl)),o1,on,h4,λH' ln kp ot=>?_⟩;refine k _ ⟨la,lb,su,fi,_,G,A,B,hR.outG (F1:=λx=>F x\/x=a) (λx z g=>z.elim (λz=>hR.dj x z g) λz=>nG (z ▸ g)) ⟨?_,?_,?_⟩ ot ln hR.lo.nf⟩
  ·exact λz=>z.elim hR.nF.1 nla.1
  ·exact λz=>z.elim hR.nF.2.1 nla.2.1
  ·exact λz=>z.elim hR.nF.2.2 nla.2.2
def HSd(P:Program)(w:World)(K:Frag)(cl:Cl):Prop:=∃a b,KDict P w K cl.d_SIDES [("house",.ref a),("shop",.ref b)]/\KTup K a [.str "asker",.str "hearer"]/\KTup K b [.str "doer",.str "teller"]
def e5v(b:Bool)(S:HSt):HSt:=(S.put true (c7n b S.L) S.tl).put false (c7n (!b) S.M) S.tm
def SdN(b:Bool)(h:Str):Prop:=(b=true/\h="house")\/(b=false/\h="shop")
def b6x(cl:Cl):Sp:=λvs H Q E=>∃(hl:Addr)(S:HSt)(h:Str),vs=[.ref hl,.str h]/\HR cl H hl S/\S.L.os.length<=1000/\S.M.os.length<=1000 /\
 (∀b,SdN b h->∀H',HR cl H' hl (e5v b S)->Q .non H')/\((∀b,¬ SdN b h)->False)
abbrev b2s:Stmt:=m9 (top 108) 5
theorem a5y:g7 ["self","side","hand","lane","name"] ["self","side"] (d8 b2s):=↑1
theorem c7a(D:DefM K cl.Hall "fall" "Hall.fall" b2s ["self","side"])(T:Txt K mg cl)(kd:HSd P w K cl)(G_Hall_lane_and_name:qar P w K mg qb cl)(GF:MethT P w K mg qb cl.Lane "fall" 6 ["self","hand"] (frS (b6v cl))):MethT P w K mg qb cl.Hall "fall" 7 ["self","side"] (b6x cl):=by
 refine D.fn a5y ↑5 ↑2
 ·fail "l"
 ·obtain⟨hl,S,h,rfl,hR,h1,h2,k,kb⟩:=h
  obtain⟨ta,tb,ks,ka,kc⟩:=kd;refine⟨_,(d5 (a0s (k8 (d2i (K:=K)) (pv 1) (a2h T.r_SIDES rfl) (by with_unfolding_all rfl))
     (d9 a2x)
     v3)
   (d9 (b4i a3u rfl (e0y (K:=K) (v4 (c9p (K:=K)) (a2h T.r_SIDES rfl) (pv 1) (λ_ _=>rfl))) (y7 (i:=2) a5y.nd rfl (.inl rfl))
    (
     d5 (b7a (a1f (pv 0) T.k_Hall G_Hall_lane_and_name hr ↑6 i4 (a7 (pv 2) d6)) (c3a (K:=K) rfl (a6a (y7 (i:=3) a5y.nd rfl (.inl rfl)) (a6a (y7 (i:=4) a5y.nd rfl (.inl rfl)) c2z))))
     (d9 (j9 (b8z (k:=6) (pv 3) hr ↑6 i4 (a7 (pv 4) d6)))))))),?_⟩
  ext;by_cases g1:h="house"
  ·subst g1
   refine⟨_,_,_,rfl,rfl,ks,_,rfl,?_⟩;rw[if_neg (by rw[va2];split <;> simp_all)]
   ext;refine d9p ?_;ext;refine⟨_,_,_,_,.ref ta,rfl,rfl,ks,rfl,rfl,?_⟩;refine⟨ta,rfl,⟨_,ka.sq⟩,?_⟩;refine d1i (λH=>ka.sq) ?_;obtain⟨la1,lb1,su1,fi1,F1,G1,A1,B1,r1⟩:=hR;obtain⟨dx1,ex1⟩:=r1.ob;ext;refine⟨hl,dx1,la1,lb1,su1,fi1,"asker",rfl,ex1,λo' b' hz p hp=>?_,λz=>absurd (show HHn true true "asker" from .inl ⟨rfl,rfl,rfl⟩) (z true true)⟩;obtain⟨rfl,rfl⟩:=HHn.uq (show HHn true true "asker" from .inl ⟨rfl,rfl,rfl⟩) hz;have q1:=r1.more (o:=.tup [.ref (if true then la1 else lb1),.str (nmB true)]) hp;obtain⟨F0,A0,ln,nf,nx⟩:=q1.at true;have e2:upd H p (.tup [.ref (if true then la1 else lb1),.str (nmB true)]) p=some (.tup [.ref (if true then la1 else lb1),.str (nmB true)]):=d7;obtain⟨dxl,el⟩:=ln.ob;have el:=a7z el;generalize upd H p (.tup [.ref (if true then la1 else lb1),.str (nmB true)])=H1 at *;refine c1e (by assumption) rfl ?_
   fail "e";refine⟨if true then la1 else lb1,cl.Lane,dxl,_,_,_,rfl,el,rfl,T.k_Lane,GF,?_⟩;ext;refine⟨rs F0 H1,a4d F0 H1,_,A0,_,_,true,nmB true,rfl,HHn.nm (show HHn true true "asker" from .inl ⟨rfl,rfl,rfl⟩),ln,h1,λJ1 A' z1 z2 z3 ot=>?_⟩;have w1:=nx J1 A' _ _ ot z1 z3.2;generalize jn J1 (rs F0 H1) H1=M1 at *;obtain⟨la2,lb2,su2,fi2,F2,G2,A2,B2,r2⟩:=w1;obtain⟨dx2,ex2⟩:=r2.ob;ext;refine⟨hl,dx2,la2,lb2,su2,fi2,"hearer",rfl,ex2,λo' b' hz p hp=>?_,λz=>absurd (show HHn false false "hearer" from .inr (.inr (.inr ⟨rfl,rfl,rfl⟩))) (z false false)⟩;obtain⟨rfl,rfl⟩:=HHn.uq (show HHn false false "hearer" from .inr (.inr (.inr ⟨rfl,rfl,rfl⟩))) hz;have q2:=r2.more (o:=.tup [.ref (if false then la2 else lb2),.str (nmB false)]) hp;obtain⟨F0,A0,ln,nf,nx⟩:=q2.at false;have e2:upd M1 p (.tup [.ref (if false then la2 else lb2),.str (nmB false)]) p=some (.tup [.ref (if false then la2 else lb2),.str (nmB false)]):=d7;obtain⟨dxl,el⟩:=ln.ob;have el:=a7z el;generalize upd M1 p (.tup [.ref (if false then la2 else lb2),.str (nmB false)])=H2 at *;refine c1e (by assumption) rfl ?_
   fail "e";refine⟨if false then la2 else lb2,cl.Lane,dxl,_,_,_,rfl,el,rfl,T.k_Lane,GF,?_⟩;ext;refine⟨rs F0 H2,a4d F0 H2,_,A0,_,_,false,nmB false,rfl,HHn.nm (show HHn false false "hearer" from .inr (.inr (.inr ⟨rfl,rfl,rfl⟩))),ln,h2,λJ2 A' z1 z2 z3 ot=>?_⟩;have w2:=nx J2 A' _ _ ot z1 z3.2;generalize jn J2 (rs F0 H2) H2=M2 at *;ext;exact k true (.inl ⟨rfl,rfl⟩) _ w2
  by_cases g2:h="shop"
  ·subst g2
   refine⟨_,_,_,rfl,rfl,ks,_,rfl,?_⟩;rw[if_neg (by rw[va2];split <;> simp_all)]
   ext;refine d9p ?_;ext;refine⟨_,_,_,_,.ref tb,rfl,rfl,ks,rfl,rfl,?_⟩;refine⟨tb,rfl,⟨_,kc.sq⟩,?_⟩;refine d1i (λH=>kc.sq) ?_;obtain⟨la1,lb1,su1,fi1,F1,G1,A1,B1,r1⟩:=hR;obtain⟨dx1,ex1⟩:=r1.ob;ext;refine⟨hl,dx1,la1,lb1,su1,fi1,"doer",rfl,ex1,λo' b' hz p hp=>?_,λz=>absurd (show HHn true false "doer" from .inr (.inl ⟨rfl,rfl,rfl⟩)) (z true false)⟩;obtain⟨rfl,rfl⟩:=HHn.uq (show HHn true false "doer" from .inr (.inl ⟨rfl,rfl,rfl⟩)) hz;have q1:=r1.more (o:=.tup [.ref (if true then la1 else lb1),.str (nmB false)]) hp;obtain⟨F0,A0,ln,nf,nx⟩:=q1.at true;have e2:upd H p (.tup [.ref (if true then la1 else lb1),.str (nmB false)]) p=some (.tup [.ref (if true then la1 else lb1),.str (nmB false)]):=d7;obtain⟨dxl,el⟩:=ln.ob;have el:=a7z el;generalize upd H p (.tup [.ref (if true then la1 else lb1),.str (nmB false)])=H1 at *;refine c1e (by assumption) rfl ?_
   fail "e";refine⟨if true then la1 else lb1,cl.Lane,dxl,_,_,_,rfl,el,rfl,T.k_Lane,GF,?_⟩;ext;refine⟨rs F0 H1,a4d F0 H1,_,A0,_,_,false,nmB false,rfl,HHn.nm (show HHn true false "doer" from .inr (.inl ⟨rfl,rfl,rfl⟩)),ln,h1,λJ1 A' z1 z2 z3 ot=>?_⟩;have w1:=nx J1 A' _ _ ot z1 z3.2;generalize jn J1 (rs F0 H1) H1=M1 at *;obtain⟨la2,lb2,su2,fi2,F2,G2,A2,B2,r2⟩:=w1;obtain⟨dx2,ex2⟩:=r2.ob;ext;refine⟨hl,dx2,la2,lb2,su2,fi2,"teller",rfl,ex2,λo' b' hz p hp=>?_,λz=>absurd (show HHn false true "teller" from .inr (.inr (.inl ⟨rfl,rfl,rfl⟩))) (z false true)⟩;obtain⟨rfl,rfl⟩:=HHn.uq (show HHn false true "teller" from .inr (.inr (.inl ⟨rfl,rfl,rfl⟩))) hz;have q2:=r2.more (o:=.tup [.ref (if false then la2 else lb2),.str (nmB true)]) hp;obtain⟨F0,A0,ln,nf,nx⟩:=q2.at false;have e2:upd M1 p (.tup [.ref (if false then la2 else lb2),.str (nmB true)]) p=some (.tup [.ref (if false then la2 else lb2),.str (nmB true)]):=d7;obtain⟨dxl,el⟩:=ln.ob;have el:=a7z el;generalize upd M1 p (.tup [.ref (if false then la2 else lb2),.str (nmB true)])=H2 at *;refine c1e (by assumption) rfl ?_
   fail "e";refine⟨if false then la2 else lb2,cl.Lane,dxl,_,_,_,rfl,el,rfl,T.k_Lane,GF,?_⟩;ext;refine⟨rs F0 H2,a4d F0 H2,_,A0,_,_,true,nmB true,rfl,HHn.nm (show HHn false true "teller" from .inr (.inr (.inl ⟨rfl,rfl,rfl⟩))),ln,h2,λJ2 A' z1 z2 z3 ot=>?_⟩;have w2:=nx J2 A' _ _ ot z1 z3.2;generalize jn J2 (rs F0 H2) H2=M2 at *;ext;exact k false (.inr ⟨rfl,rfl⟩) _ w2
  refine⟨_,_,_,rfl,rfl,ks,_,rfl,?_⟩;rw[if_pos (by rw[va2,if_neg (Ne.symm g1),if_neg (Ne.symm g2)];rfl)]
  ext;exact kb λb z=>by
   rcases z with ⟨_,z⟩|⟨_,z⟩
   ·exact g1 z
   ·exact g2 z
def TP(H:Hp)(os:List (List Int))(D:Addr)(i:Nat)(acc:List V)(H':Hp):Prop:=H' D=some (.lst acc)/\Same H H'/\∃ps:List Addr,acc=ps.map V.ref/\ps.length=i/\∀(j:Nat)(p:Addr)(o:List Int),ps[j]?=some p->os[j]?=some o->H p=none/\p≠D/\H' p=some (.tup (o.map V.int))
theorem TP.new{H:Hp}{os:List (List Int)}{D:Addr}(hD:H D=none):TP H os D 0 [] (upd H D (.lst [])):=⟨d7,i9 hD,[],rfl,rfl,λj p o h=>by simp at h⟩
theorem TP.push{H H':Hp}{os:List (List Int)}{o:List Int}{D p:Addr}{i:Nat}{acc:List V}(h:TP H os D i acc H')(hD:H D=none)(ho:os[i]?=some o)(hp:H' p=none):
  (upd H' p (.tup (o.map V.int))) D=some (.lst acc)/\TP H os D (i+1) (acc++[.ref p]) (upd (upd H' p (.tup (o.map V.int))) D (.lst (acc++[.ref p]))):=by
 obtain⟨e,s,ps,rfl,hl,r⟩:=h;have nD:D≠p:=λz=>by rw[<- z,e] at hp;cases hp
 have hp0:=v2 s hp;refine⟨by rw[c7 nD];exact e,d7,?_,ps++[p],by rw[List.map_append];rfl,by rw[List.length_append,hl];rfl,?_⟩
 ·intro b u eb
  rw[c7 (λz=>by rw[z,hD] at eb;cases eb),c7 (λz=>by rw[z,hp0] at eb;cases eb)]
  exact s _ _ eb
 ·intro j q u hj hu
  by_cases y:j<ps.length
  ·rw[List.getElem?_append_left y] at hj
   obtain⟨a,b,c⟩:=r j q u hj hu;refine⟨a,b,?_⟩;rw[c7 b,c7 (λz=>by rw[z,hp] at c;cases c)]
   exact c
  ·rw[List.getElem?_append_right ↑3] at hj
   have:j=i:=by
    by_cases z:j-ps.length=0
    ·lia
    ·rw[List.getElem?_eq_none (by simp;lia)] at hj;cases hj
   subst this;rw[hl,Nat.sub_self] at hj;cases hj;rw[ho] at hu;cases hu;exact⟨hp0,Ne.symm nD,by rw[c7 (Ne.symm nD)];exact d7⟩
def c1p:Sp:=λvs H Q _=>∃(a:Addr)(os:List (List Int)),vs=[.ref a]/\Rws H a os/\os.length<=1000/\∀p acc H',H p=none->TP H os p os.length acc H'->Q (.ref p) H'
abbrev c8l:Stmt:=top 107
theorem d7o:g7 ["answers"] ["answers"] (d8 c8l):=↑1
theorem d7y(D:DefT K mg "pairs" c8l ["answers"])(T:Txt K mg cl):FnT P w K mg qb "pairs" 1 ["answers"] c1p:=by
 refine D.fn d7o ↑5 ↑2
 ·fail "l"
 ·obtain⟨a,os,rfl,⟨ps,ea,hl,hr'⟩,hz,k⟩:=h
  refine⟨_,(d9 (j1 (b2v (N:=["answer"]) (nt:=1) (fr:=[]) rfl (b0q rfl rfl (by decide +kernel) (by decide +kernel) rfl rfl) (a1l (K:=K) (pv 0)) (a6p ↑6) (λ_ _ _ _ _=>y7 (i:=0) (show(["answer"]:List Str).Nodup by decide +kernel) rfl (Or.inl rfl) (Or.inr rfl)) (λ_ _ _ _ _=>(a2y (d6f (K:=K)) (by rfl) T.z_tuple PyProof.Rows.boot_tuple (a7 (pv 0) d6)))))),?_⟩
  have h60:6000<=sizeLine:=by decide
  refine⟨_,rfl,a,rfl,⟨_,SqL.of ea⟩,a7d (xs:=ps.map V.ref) (by rw[List.length_map];lia) (TP H os) (λD hD=>TP.new hD) ?_ ?_ ?_⟩
  ·rintro D i acc H' ⟨e,s,qs,rfl,hq,_⟩
   exact⟨e,by rw[List.length_map];exact hq,SqL.of (s _ _ ea)⟩
  ·intro D i x acc H' hD hx hp
   rw[List.getElem?_map] at hx;cases hpi:ps[i]? with
   | none=>rw[hpi] at hx;cases hx
   | some q=>
    rw[hpi] at hx;cases hx;have hi:i<os.length:=by rw[<- hl];exact(List.getElem?_eq_some_iff.mp hpi).1
    have hoi:=List.getElem?_eq_getElem hi;have eq:=hp.2.1 _ _ (hr' i q _ hpi hoi);ext;exact⟨q,_,rfl,.inl ⟨SqL.of eq,λp hpn=>hp.push hD hoi hpn⟩⟩
  ·intro D acc H' hD hp
   rw[List.length_map,hl] at hp;exact k _ _ _ hD hp
def a2j(cl:Cl)(b:Bool):Sp:=λvs H Q _=>∃(hl:Addr)(S:HSt),vs=[.ref hl]/\HR cl H hl S/\S.M.os.length<=1000/\∀p acc H1 H',Same H H1->H1 p=none->TP H1 (if b then S.M.os else S.M.bk) p (if b then S.M.os else S.M.bk).length acc H'->Q (.ref p) H'
abbrev b2p:Stmt:=m9 (top 108) 10
theorem c5s:g7 ["self"] ["self"] (d8 b2p):=↑1
theorem c6x(D:DefM K cl.Hall "told" "Hall.told" b2p ["self"])(T:Txt K mg cl)(G_pairs:FnT P w K mg qb "pairs" 1 ["answers"] c1p)(GO:MethT P w K mg qb cl.Lane "orders" 3 ["self"] (b1c cl)):MethT P w K mg qb cl.Hall "told" 4 ["self"] (a2j cl true):=by
 refine D.fn c5s ↑5 ↑2
 ·fail "l"
 ·obtain⟨hl,S,rfl,⟨la,lb,su,fi,F,G,A,B,hR⟩,h1,k⟩:=h
  obtain⟨dx,ex⟩:=hR.ob;obtain⟨dxl,el⟩:=hR.lk.all.ob;refine⟨_,(d9 (j1 (k7 G_pairs hr ↑6 rfl i4 (a7 (l9 (k:=3) ↑4 hr ↑6 i4) d6)))),?_⟩;fail "e";refine⟨lb,cl.Lane,dxl,_,_,_,rfl,el,rfl,T.k_Lane,GO,?_⟩;ext;refine⟨lb,B,S.M,S.tm,rfl,hR.lk.all,h1,λp H1 nr=>?_⟩;ext;exact⟨p,S.M.os,rfl,nr.rws,h1,λq acc H' hq tp=>k q acc H1 H' nr.2.1 hq tp⟩
abbrev a9m:Stmt:=m9 (top 108) 11
theorem c2k:g7 ["self"] ["self"] (d8 a9m):=↑1
theorem c3w(D:DefM K cl.Hall "heard" "Hall.heard" a9m ["self"])(T:Txt K mg cl)(G_pairs:FnT P w K mg qb "pairs" 1 ["answers"] c1p)(GO:qas P w K mg qb cl):MethT P w K mg qb cl.Hall "heard" 4 ["self"] (a2j cl false):=by
 refine D.fn c2k ↑5 ↑2
 ·fail "l"
 ·obtain⟨hl,S,rfl,⟨la,lb,su,fi,F,G,A,B,hR⟩,h1,k⟩:=h
  obtain⟨dx,ex⟩:=hR.ob;obtain⟨dxl,el⟩:=hR.lk.all.ob;obtain⟨_,_,_,_,_,_,_,okM⟩:=hR.lk.all.lr;refine⟨_,(d9 (j1 (k7 G_pairs hr ↑6 rfl i4 (a7 (l9 (k:=3) ↑4 hr ↑6 i4) d6)))),?_⟩;fail "e";refine⟨lb,cl.Lane,dxl,_,_,_,rfl,el,rfl,T.k_Lane,GO,?_⟩;ext;refine⟨lb,B,S.M,S.tm,rfl,hR.lk.all,h1,λp H1 nr=>?_⟩;ext;exact⟨p,S.M.bk,rfl,nr.rws,Nat.le_trans okM.tk.bl h1,λq acc H' hq tp=>k q acc H1 H' nr.2.1 hq tp⟩
abbrev b2t:Stmt:=m9 (top 108) 9
theorem c5u:g7 ["self"] ["self"] (d8 b2t):=↑1
theorem c7b(D:DefM K cl.Hall "done" "Hall.done" b2t ["self"])(T:Txt K mg cl):MethT P w K mg qb cl.Hall "done" 1 ["self"] (λvs H Q _=>∃(hl:Addr)(S:HSt),vs=[.ref hl]/\HR cl H hl S/\∀p,H p=none->Q (.ref p) (upd H p (.lst (S.fin.map V.int)))):=by
 refine D.fn c5u ↑5 ↑2
 ·fail "l"
 ·obtain⟨hl,S,rfl,⟨la,lb,su,fi,F,G,A,B,hR⟩,k⟩:=h
  obtain⟨dx,ex⟩:=hR.ob;have ef:=hR.done;refine⟨_,(d9 (j1 (a2y (c9y rfl) (by rfl) T.z_list PyProof.Rows.boot_list (a7 ↑4 d6)))),?_⟩
  ext;refine⟨fi,_,rfl,ef,λp hp=>?_⟩;rw[List.map_map];exact k p hp
def a0f(o:List Int):Nat:=((o.getD 0 0) % 4).toNat
def a0i(S:HSt)(o:List Int):Int:=S.sm.getD (a0f o) 0+(o.drop 1).sum
def doH(S:HSt)(n:Nat):HSt :=
 let o:=S.L.bk.getD n []
 { S with sm:=S.sm.set (a0f o) (a0i S o),fin:=S.fin++[(n:Int)],M:=a3w S.M [(n:Int),a0i S o] }
theorem b7n{S:HSt}{j:Nat}{x:Int}(h:(a2l S)[j]?=some x):∃n:Nat,x=n/\n<S.L.bk.length/\(n:Int) ∉ S.fin:=by
 have h:=List.mem_of_getElem? h;unfold a2l at h;obtain⟨n,hn,rfl⟩:=List.mem_map.mp h;obtain⟨a,b⟩:=List.mem_filter.mp hn;exact⟨n,rfl,List.mem_range.mp a,by simpa using b⟩
theorem c1j{xs:List V}{i:Int}(h:0<=i):atI xs i=xs[i.toNat]?:=by
 unfold atI ixN;rw[if_pos h];by_cases h1:i<(xs.length:Int)
 ·rw[if_pos h1];rfl
 ·rw[if_neg h1]
  exact(List.getElem?_eq_none ↑3).symm
theorem LP.updX{H:Hp}{F:Addr->Prop}{la x:Addr}{A:Ad}{L:Ln}{tl:List Tr}{o u:HO}(h:LP cl H F la A L tl)(hx:H x=some o)(no:b0o (some o)=false)(nw:∀a,o≠.own a)(nF:¬ F x):LP cl (upd H x u) F la A L tl:=by
 refine⟨(h.ln.ow h.nf).same λy v e=>?_,λy hy=>?_,h.nf⟩
 ·have e1:=c0f e
  have e2:=a7z e1.1;have ny:y≠x:=λz=>by
   rw[z] at e1;rw[a5l hx nw (by rw[hx,no];exact λz=>z.elim nF (λq=>by cases q))] at e1
   cases e1.1
  have e3:upd H x u y=some v:=(c7 ny).trans e2;refine a1v e3 (a8e e1.2) ?_;by_cases hy:F y
  ·exact .inl hy
  ·right
   cases q:b0o (some v) with
   | true=>rw[e3];exact q
   | false=>
    have:=a5l (F:=F) e2 (a8e e1.2) (by rw[e2,q];exact λz=>z.elim hy (λq=>by cases q))
    rw[this] at e1;cases e1.1
 ·obtain⟨v,e,z⟩:=h.dom y hy
  exact⟨v,(c7 (show y≠x from λq=>nF (by rw[<- q];exact hy))).trans e,z⟩
theorem HRel.setS{H:Hp}{hl la lb su fi:Addr}{F G:Addr->Prop}{A B:Ad}{S:HSt}{sm:List Int}(h:HRel cl H hl la lb su fi F G A B S)(l4:sm.length=4):HRel cl (upd H su (.lst (sm.map V.int))) hl la lb su fi F G A B { S with sm:=sm }:=by
 obtain⟨⟨dx,e⟩,e2,e3,e4,lo,lk,dj,nF,nG⟩:=h;exact⟨⟨dx,(c7 (a7b e e2 λz=>nomatch z)).trans e⟩,d7,l4,(c7 (a7b e4 e2 λz=>nomatch z)).trans e4,lo.updX e2 rfl (λ_ z=>nomatch z) nF.2.1,lk.updX e2 rfl (λ_ z=>nomatch z) nG.2.1,dj,nF,nG⟩
theorem HRel.setF{H:Hp}{hl la lb su fi:Addr}{F G:Addr->Prop}{A B:Ad}{S:HSt}{l:List Int}(h:HRel cl H hl la lb su fi F G A B S):HRel cl (upd H fi (.dK (l.map λn=>(.inl n,V.bl true)))) hl la lb su fi F G A B { S with fin:=l }:=by
 obtain⟨⟨dx,e⟩,e2,e3,e4,lo,lk,dj,nF,nG⟩:=h;exact⟨⟨dx,(c7 (a7b e e4 λz=>nomatch z)).trans e⟩,(c7 (a7b e2 e4 λz=>nomatch z)).trans e2,e3,d7,lo.updX e4 rfl (λ_ z=>nomatch z) nF.2.2,lk.updX e4 rfl (λ_ z=>nomatch z) nG.2.2,dj,nF,nG⟩
theorem HRel.backG{H H1':Hp}{hl la lb su fi:Addr}{F G F1:Addr->Prop}{A B B':Ad}{S:HSt}{M':Ln}{tm':List Tr}(h:HRel cl H hl la lb su fi F G A B S)(dj:∀x,F1 x->F x->False)(nG:¬ F1 hl/\¬ F1 su/\¬ F1 fi)(ot:Out H1' (rs F1 H) H)(n:LN cl H1' lb B' M' tm')(nf:∀x,¬ B'.fo x):
  HRel cl (jn H1' (rs F1 H) H) hl la lb su fi F (b0n H1') A B' { S with M:=M',tm:=tm' }:=by
 obtain⟨⟨dx,e⟩,e2,e3,e4,lo,lk,_,nF,_⟩:=h;obtain⟨n1,n2,n3⟩:=nG;obtain⟨r1,m1⟩:=a0l ot e (λ_ z=>nomatch z) rfl n1;obtain⟨r2,m2⟩:=a0l ot e2 (λ_ z=>nomatch z) rfl n2;obtain⟨r3,m3⟩:=a0l ot e4 (λ_ z=>nomatch z) rfl n3;obtain⟨l2,d2⟩:=lo.rest dj ot;exact⟨⟨dx,r1⟩,r2,e3,r3,l2,LP.behind ot n nf,λx a b=>d2 x b a,nF,⟨m1,m2,m3⟩⟩
theorem c7q{xs:List V}{j:Nat}(h:j<=xs.length):d3j xs (some (j:Int)) none=xs.drop j:=by
 unfold d3j;rw[HT.sIx_nat,HT.sIx_none,Nat.min_eq_left h];exact List.take_of_length_le (by rw[List.length_drop];lia)
theorem d9x{L:Ln}(ok:Ok L){n:Nat}(hn:n<L.bk.length):1<=(L.bk[n]'hn).length:=by
 have m:∀x,x∈L.bk->x∈L.os:=λx hx=>by rw[ok.tk.bk] at hx;exact List.mem_of_mem_take hx
 exact(ok.core.good _ (m _ (List.getElem_mem hn))).1
theorem e5r{σ:St}{H:Hp}{to ti te:TE}{tget:V->V->Hp->VK->Prop}{tip:TIp}{tset:e2q}{D:d6x}(q:to σ H λo H1=>ti σ H1 λi H2=>tget o i H2 λx H3=>te σ H3 λy H4=>tip x y H4 λz H5=>tset o i z H5 λH6=>D.nx σ H6):e3l to ti te tget tip tset D σ H:=q
def c0w(cl:Cl):Sp:=λvs H Q E=>∃(hl:Addr)(S:HSt)(i:Int),vs=[.ref hl,.int i]/\HR cl H hl S/\S.L.os.length<=400/\S.M.os.length<=400/\S.fin.length<=1000 /\
 (∀n:Nat,0<=i->(a2l S)[i.toNat]?=some (n:Int)->∀H',HR cl H' hl (doH S n)->Q (.int n) H')/\((i<0\/((a2l S).length:Int)<=i)->∀H',Same H H'->False)
abbrev b8w:Stmt:=m9 (top 108) 7
theorem a6y:g7 ["self","place","numbers","number","order","shelf"] ["self","place"] (d8 b8w):=↑1
theorem d2u(D:DefM K cl.Hall "do" "Hall.do" b8w ["self","place"])(T:Txt K mg cl)(G_Hall_waiting:qat P w K mg qb cl)(GB:qas P w K mg qb cl)(G_Lane_hand_in:MethT P w K mg qb cl.Lane "hand_in" 3 ["self","order"] (frS (a2o cl))):MethT P w K mg qb cl.Hall "do" 5 ["self","place"] (c0w cl):=by
 refine D.fn a6y ↑5 ↑2
 ·fail "l"
 ·obtain⟨hl,S,i,rfl,⟨la,lb,su,fi,F,G,A,B,hR⟩,h1,h2,h3,k,kb⟩:=h
  obtain⟨dx,ex⟩:=hR.ob;refine⟨_,(d5 (n6 (i:=2) a6y.nd rfl (.inl rfl) (a0m (pv 0) T.k_Hall G_Hall_waiting hr ↑6 i4))
   (d5 (a0s (c8r rfl T.z_range (pv 1) (a7 (l7 (n5 (K:=K)) (by rfl) T.z_len PySem.boot_len (a7 (pv 2) d6)) d6))
     (d9 a2x)
     v3)
   (d5 (n6 (i:=3) a6y.nd rfl (.inl rfl) (v4 (j4 (K:=K)) (pv 2) (pv 1) (λ_ _=>rfl)))
   (d5 (n6 (i:=4) a6y.nd rfl (.inl rfl) (v4 (j4 (K:=K)) (l9 (k:=3) ↑4 hr ↑6 i4) (pv 3) (λ_ _=>rfl)))
   (d5 (n6 (i:=5) a6y.nd rfl (.inl rfl) (o8 a5n (v4 (j4 (K:=K)) (pv 4) i8 (λ_ _=>rfl)) (v5 T.m_SHELVES rfl)))
   (d5 (e0v ↑4 (pv 5) (d5m (K:=K)) (l7 (c7s (K:=K) rfl) (by rfl) T.z_sum PyProof.Rows.boot_sum (a7 (b7t (b7q (K:=K)) (pv 4) (c2x i8) c2y) d6)) d9m b3t)
   (d5 (c8t (huN hr 1) ↑4 (pv 3) a9s rfl)
   (d5 (j9 (a1f ↑4 T.k_Lane G_Lane_hand_in hr ↑6 i4 (a7 (t7 (a7 (pv 3) (a7 (v4 (j4 (K:=K)) ↑4 (pv 5) (λ_ _=>rfl)) d6))) d6)))
   (d9 (j1 (pv 3))))))))))),?_⟩
  ext;refine⟨hl,S,rfl,⟨la,lb,su,fi,F,G,A,B,hR⟩,by lia,λp H1 hp s1 ep=>?_⟩
  ext;refine d3e ?_;ext;refine⟨i,_,rfl,rfl,_,rfl,?_⟩;rw[List.length_map];by_cases hi:0<=i/\i<((a2l S).length:Int)
  ·rw[decide_eq_true hi]
   refine (if_neg ↑6).mpr ?_;have hj:i.toNat<(a2l S).length:=by lia
   obtain⟨n,en,hn,nf⟩:=b7n (List.getElem?_eq_getElem hj);have hR1:=hR.sm s1;have ex1:=s1 _ _ ex;obtain⟨dxl,el⟩:=hR1.lo.all.ob;ext;refine a0w ep (v:=.int n) (by rw[c1j hi.1,List.getElem?_map,List.getElem?_eq_getElem hj,en];rfl) ?_
   fail "e";refine⟨la,cl.Lane,dxl,_,_,_,rfl,el,rfl,T.k_Lane,GB,?_⟩;ext;refine⟨la,A,S.L,S.tl,rfl,hR1.lo.all,by lia,λq H2 nr=>?_⟩
   obtain⟨hq,s2,ps,eq,lq,rows⟩:=nr;have hn':n<ps.length:=by lia
   obtain⟨hpn,nq,eo⟩:=rows n ps[n] (S.L.bk[n]'hn) (List.getElem?_eq_getElem hn') (List.getElem?_eq_getElem hn);ext;have s12:Same H H2:=λx u e=>s2 _ _ (s1 _ _ e);have hR2:=hR.sm s12;have ex2:=s12 _ _ ex;have es2:=hR2.sum;have ef2:=hR2.done;obtain⟨_,_,_,_,_,_,_,okL⟩:=hR.lo.all.lr;have o1:1<=(S.L.bk[n]'hn).length:=d9x okL hn;generalize ho:S.L.bk[n]'hn=o at *;have h04:(0:Int)<=o.getD 0 0 % 4/\o.getD 0 0 % 4<4:=⟨Int.emod_nonneg _ ↑6,Int.emod_lt_of_pos _ ↑6⟩;refine a0w eq (v:=.ref ps[n]) (by rw[c1j ↑3,List.getElem?_map,Int.toNat_natCast,List.getElem?_eq_getElem hn'];rfl) ?_
   ext;refine a0w eo (b7d ↑3 ↑3) ?_;ext;have l4:a0f o<S.sm.length:=by unfold a0f;have:=hR.four;lia
   refine e5r ?_;ext;refine⟨su,_,_,.int (S.sm.getD (a0f o) 0),rfl,rfl,SqL.of es2,h04.1,?_,?_⟩
   ·show(S.sm.map V.int)[a0f o]?=_
    rw[List.getElem?_map,List.getD_eq_getElem?_getD,List.getElem?_eq_getElem l4];rfl
   ext;refine e7g ?_;ext;refine d5p ?_;ext;refine⟨1,rfl,?_⟩;refine c4h ?_;refine⟨ps[n],_,rfl,SqL.of eo,λc hc=>?_⟩;have ecut:d3j (o.map V.int) (some 1) none=(o.drop 1).map V.int:=by
    rw[show(some 1:Option Int)=some ((1:Nat):Int) from rfl,c7q (by rw[List.length_map];exact o1),List.map_drop]
   rw[ecut];ext;have hR3:=hR2.more (o:=.lst ((o.drop 1).map V.int)) hc;have e3:upd H2 c (.lst ((o.drop 1).map V.int)) c=some (.lst ((o.drop 1).map V.int)):=d7;generalize upd H2 c (.lst ((o.drop 1).map V.int))=H3 at *;refine⟨c,o.drop 1,rfl,SqL.of e3,_,_,rfl,rfl,?_⟩;refine⟨su,_,_,a0f o,rfl,rfl,hR3.sum,?_,?_⟩
   ·unfold ixN
    rw[show o.getD (Int.toNat 0) 0=o.getD 0 0 from rfl,if_pos h04.1,if_pos (by rw[List.length_map];have:=hR.four;lia)]
    rfl
   have em:(S.sm.map V.int).set (a0f o) (.int (S.sm.getD (a0f o) 0+(o.drop 1).sum))=(S.sm.set (a0f o) (a0i S o)).map V.int:=by
    rw[List.map_set];rfl
   rw[em];have hR4:=hR3.setS (sm:=S.sm.set (a0f o) (a0i S o)) (by rw[List.length_set];exact hR.four)
   generalize upd H3 su (.lst ((S.sm.set (a0f o) (a0i S o)).map V.int))=H4 at *;obtain⟨dx4,ex4⟩:=hR4.ob;ext;refine d5r ?_;ext;have vn:c7z (S.fin.map λn=>((.inl n:Key),V.bl true)) (.inl (n:Int))=none:=by
    cases q:c7z (S.fin.map λn=>((.inl n:Key),V.bl true)) (.inl (n:Int)) with
    | none=>rfl
    | some y=>
     have:=d5v S.fin n;rw[q] at this;exact absurd (of_decide_eq_true this.symm) nf
   have pk:c2w (S.fin.map λn=>((.inl n:Key),V.bl true)) (.inl (n:Int)) (.bl true)=(S.fin++[(n:Int)]).map λn=>((.inl n:Key),V.bl true):=by
    rw[d7t _ vn,List.map_append];rfl
   have h60:6000<=sizeLine:=by decide
   refine⟨fi,_,rfl,DPut.k (k:=.inl (n:Int)) hR4.done (by rw[List.length_map];show S.fin.length<_;lia),?_⟩
   refine e2c (by assumption) ?_
   show e3a _ _ _ _ (upd H4 fi (.dK (c2w (S.fin.map λn=>((.inl n:Key),V.bl true)) (.inl (n:Int)) (.bl true))));rw[pk];have hR5:=hR4.setF (l:=S.fin++[(n:Int)]);generalize upd H4 fi (.dK ((S.fin++[(n:Int)]).map λn=>(.inl n,V.bl true)))=H5 at *;obtain⟨dx5,ex5⟩:=hR5.ob;obtain⟨dxk,ek⟩:=hR5.lk.all.ob;have es5:=hR5.sum;ext;refine a0w es5 (v:=.int (a0i S o)) ?_ ?_
   ·show atI ((S.sm.set (a0f o) (a0i S o)).map V.int) (o.getD 0 0 % 4)=_
    rw[c1j h04.1,List.getElem?_map];show((S.sm.set (a0f o) (a0i S o))[a0f o]?).map V.int=_;rw[List.getElem?_set_self l4];rfl
   ext;refine⟨(show 2<=sizeLine by decide),λd hd=>?_⟩
   ext;have hR6:=hR5.more (o:=.lst [.int n,.int (a0i S o)]) hd;have ed:upd H5 d (.lst [.int n,.int (a0i S o)]) d=some (.lst ([(n:Int),a0i S o].map V.int)):=d7;have nd5:∀{x:Addr}{u:HO},H5 x=some u->x≠d:=λe z=>by rw[z,hd] at e;cases e
   have nFd:¬ F d:=λz=>by obtain⟨u,e,_⟩:=hR5.lo.dom d z;exact nd5 e rfl
   have nb:hl≠d/\su≠d/\fi≠d:=⟨nd5 ex5,nd5 es5,nd5 hR5.done⟩;obtain⟨_,_,_,_,_,_,_,okM⟩:=hR.lk.all.lr;have n2:=okM.core.n2;show frS (a2o cl) [V.ref lb,V.ref d] (upd H5 d (.lst [.int n,.int (a0i S o)])) _ _;generalize upd H5 d (.lst [.int n,.int (a0i S o)])=H6 at *;refine⟨rs (λx=>G x\/x=d) H6,a4d _ H6,lb,B,S.M,S.tm,d,[(n:Int),a0i S o],rfl,hR6.lk.ln.same (c2s λ_ z=>.inl z),a1v ed (λ_ z=>nomatch z) (.inl (.inr rfl)),Nat.succ_le_succ (Nat.zero_le _),n2,h2,λH' ln kp ot=>?_⟩;ext;refine k n hi.1 (by rw[List.getElem?_eq_getElem hj,en]) _ ⟨la,lb,su,fi,F,b0n H',A,B,?_⟩
   have hR7:=hR6.backG (F1:=λx=>G x\/x=d) (λx z g=>z.elim (λz=>hR6.dj x g z) λz=>nFd (z ▸ g)) ⟨λz=>z.elim hR6.nG.1 nb.1,λz=>z.elim hR6.nG.2.1 nb.2.1,λz=>z.elim hR6.nG.2.2 nb.2.2⟩ ot ln hR6.lk.nf;have eo':S.L.bk.getD n []=o:=by rw[List.getD_eq_getElem?_getD,List.getElem?_eq_getElem hn,ho];rfl
   unfold doH;rw[eo'];exact hR7
  ·rw[decide_eq_false hi]
   refine (if_pos rfl).mpr ?_;ext;exact kb ↑3 _ s1
theorem MakeT.frame{x:Str}{C:Addr}{k:Nat}{ps:List Str}{sp:Sp}(M:MakeT P w K mg qb x C k ps sp):MakeT P w K mg qb x C k ps (frS sp):=by
 obtain⟨f,fd,F,a,b,c⟩:=M.ex;exact⟨f,fd,F.frame,a,b,c⟩
theorem d0x{H:Hp}{x dx:Addr}{u o:HO}(hx:H x=none)(hd:H dx=none)(ne:dx≠x):Same H (upd (upd H dx u) x o):=λb v e=>by
 rw[c7 (g9 e hx),c7 (g9 e hd)];exact e
def a1t(n m:Nat):HSt:=⟨a1g n,[],a1g m,[],[0,0,0,0],[]⟩
def a8o(cl:Cl):Sp:=λvs H Q _=>∃(x dx:Addr)(n m:Nat),vs=[.ref x,.int n,.int m]/\H x=some (.ins cl.Hall dx [])/\2<=n/\n<=8/\2<=m/\m<=8/\∀H',HR cl H' x (a1t n m)->Q .non H'
abbrev b2r:Stmt:=m9 (top 108) 0
theorem c5t:g7 ["self","out_size","back_size"] ["self","out_size","back_size"] (d8 b2r):=↑1
theorem c6z(D:DefM K cl.Hall "__init__" "Hall.__init__" b2r ["self","out_size","back_size"])(T:Txt K mg cl)(G_Lane:MakeT P w K mg qb "Lane" cl.Lane 6 ["self","size"] (frS (b6u cl))):MethT P w K mg qb cl.Hall "__init__" 8 ["self","out_size","back_size"] (a8o cl):=by
 refine D.fn c5t ↑5 ↑2
 ·fail "l"
 ·obtain⟨x,dx,n,m,rfl,ex,n2,n8,m2,m8,k⟩:=h
  refine⟨_,(d5 (m6 (K:=K) (pv 0) (c5y G_Lane hr ↑6 rfl i4 (a7 (pv 1) d6)))
   (d5 (m6 (K:=K) (pv 0) (c5y G_Lane hr ↑6 rfl i4 (a7 (pv 2) d6)))
   (d5 (m6 (K:=K) (pv 0) (o8 d4r (t7 (a7 i8 d6)) (v5 T.m_SHELVES rfl)))
   (d9 (m6 (K:=K) (pv 0) d7w))))),?_⟩
  ext;intro la dxl hla hdxl ne;have sm:=d0x (u:=.own la) (o:=.ins cl.Lane dxl []) hla hdxl ne;have nxl:x≠la:=λz=>by rw[<- z,ex] at hla;cases hla
  have ex1:=sm _ _ ex;have el1:upd (upd H dxl (.own la)) la (.ins cl.Lane dxl []) la=some (.ins cl.Lane dxl []):=d7;generalize upd (upd H dxl (.own la)) la (.ins cl.Lane dxl [])=H1 at *;refine⟨rs (λy=>y=la) H1,a4d _ H1,la,dxl,n,rfl,a1v el1 (λ_ z=>nomatch z) (.inl rfl),n2,n8,λ_=>False,λ_ z=>z.elim,λA J fo ln kp _ _ ot=>⟨rfl,?_⟩⟩;have lo:=LP.behind ot ln (by rw[fo];exact λ_ z=>z)
  obtain⟨ex2,nf2⟩:=a0l ot ex1 (λ_ z=>nomatch z) rfl nxl;generalize jn J (rs (λy=>y=la) H1) H1=H2 at *;ext;have lo3:=lo.updX (u:=.ins cl.Hall dx (a4e "out" (.ref la) [])) ex2 rfl (λ_ z=>nomatch z) nf2;have ex3:upd H2 x (.ins cl.Hall dx (a4e "out" (.ref la) [])) x=some (.ins cl.Hall dx (a4e "out" (.ref la) [])):=d7;generalize upd H2 x (.ins cl.Hall dx (a4e "out" (.ref la) []))=H3 at *;intro lb dxb hlb hdxb neb;have smb:=d0x (u:=.own lb) (o:=.ins cl.Lane dxb []) hlb hdxb neb;have nxb:x≠lb:=λz=>by rw[<- z,ex3] at hlb;cases hlb
  have nFb:∀y,y=lb->b0n J y->False:=λy z q=>by
   obtain⟨u,e,_⟩:=lo3.dom y q;rw[z,hlb] at e;cases e
  have lo4:=lo3.sm smb;have ex4:=smb _ _ ex3;have el4:upd (upd H3 dxb (.own lb)) lb (.ins cl.Lane dxb []) lb=some (.ins cl.Lane dxb []):=d7;generalize upd (upd H3 dxb (.own lb)) lb (.ins cl.Lane dxb [])=H4 at *;refine⟨rs (λy=>y=lb) H4,a4d _ H4,lb,dxb,m,rfl,a1v el4 (λ_ z=>nomatch z) (.inl rfl),m2,m8,λ_=>False,λ_ z=>z.elim,λB N fob lnb kpb _ _ otb=>⟨rfl,?_⟩⟩;have lk:=LP.behind otb lnb (by rw[fob];exact λ_ z=>z)
  obtain⟨ex5,nf5⟩:=a0l otb ex4 (λ_ z=>nomatch z) rfl nxb;obtain⟨lo5,dj5⟩:=lo4.rest nFb otb;generalize jn N (rs (λy=>y=lb) H4) H4=H5 at *;ext;have lo6:=lo5.updX (u:=.ins cl.Hall dx (a4e "back" (.ref lb) (a4e "out" (.ref la) []))) ex5 rfl (λ_ z=>nomatch z) nf2;have lk6:=lk.updX (u:=.ins cl.Hall dx (a4e "back" (.ref lb) (a4e "out" (.ref la) []))) ex5 rfl (λ_ z=>nomatch z) nf5;have ex6:upd H5 x (.ins cl.Hall dx (a4e "back" (.ref lb) (a4e "out" (.ref la) []))) x=some (.ins cl.Hall dx (a4e "back" (.ref lb) (a4e "out" (.ref la) []))):=d7;generalize upd H5 x (.ins cl.Hall dx (a4e "back" (.ref lb) (a4e "out" (.ref la) [])))=H6 at *;refine⟨b2x,λz1 hz1=>?_⟩;have s1:Same H6 (upd H6 z1 (.lst [.int 0])):=b7s hz1;have lo7:=lo6.sm s1;have lk7:=lk6.sm s1;have ex7:=s1 _ _ ex6;have e7:upd H6 z1 (.lst [.int 0]) z1=some (.lst [.int 0]):=d7;generalize upd H6 z1 (.lst [.int 0])=H7 at *;ext;refine⟨z1,4,_,rfl,rfl,e7,by decide,by decide,by decide,λz2 hz2=>?_⟩
  have s2:Same H7 (upd H7 z2 (.lst (List.replicate (Int.toNat 4) [V.int 0]).flatten)):=b7s hz2;have lo8:=lo7.sm s2;have lk8:=lk7.sm s2;have ex8:=s2 _ _ ex7;have e8:upd H7 z2 (.lst (List.replicate (Int.toNat 4) [V.int 0]).flatten) z2=some (.lst ([0,0,0,0].map V.int)):=d7;have n82:∀y,(b0n J y\/b0n N y)->y≠z2:=λy q z=>by
   rcases q with q|q
   ·obtain⟨u,e,_⟩:=lo7.dom y q
    rw[z,hz2] at e;cases e
   ·obtain⟨u,e,_⟩:=lk7.dom y q
    rw[z,hz2] at e;cases e
  generalize upd H7 z2 (.lst (List.replicate (Int.toNat 4) [V.int 0]).flatten)=H8 at *;ext;have n2x:z2≠x:=a7b e8 ex8 λz=>nomatch z;have lo9:=lo8.updX (u:=.ins cl.Hall dx (a4e "sums" (.ref z2) (a4e "back" (.ref lb) (a4e "out" (.ref la) [])))) ex8 rfl (λ_ z=>nomatch z) nf2;have lk9:=lk8.updX (u:=.ins cl.Hall dx (a4e "sums" (.ref z2) (a4e "back" (.ref lb) (a4e "out" (.ref la) [])))) ex8 rfl (λ_ z=>nomatch z) nf5;have ex9:upd H8 x (.ins cl.Hall dx (a4e "sums" (.ref z2) (a4e "back" (.ref lb) (a4e "out" (.ref la) [])))) x=some (.ins cl.Hall dx (a4e "sums" (.ref z2) (a4e "back" (.ref lb) (a4e "out" (.ref la) [])))):=d7;have e9:upd H8 x (.ins cl.Hall dx (a4e "sums" (.ref z2) (a4e "back" (.ref lb) (a4e "out" (.ref la) [])))) z2=some (.lst ([0,0,0,0].map V.int)):=(c7 n2x).trans e8;generalize upd H8 x (.ins cl.Hall dx (a4e "sums" (.ref z2) (a4e "back" (.ref lb) (a4e "out" (.ref la) []))))=H9 at *;intro z3 hz3;have s3:Same H9 (upd H9 z3 (.dK [])):=b7s hz3;have lo10:=lo9.sm s3;have lk10:=lk9.sm s3;have ex10:=s3 _ _ ex9;have e10:=s3 _ _ e9;have d10:upd H9 z3 (.dK []) z3=some (.dK []):=d7;have n103:∀y,(b0n J y\/b0n N y)->y≠z3:=λy q z=>by
   rcases q with q|q
   ·obtain⟨u,e,_⟩:=lo9.dom y q
    rw[z,hz3] at e;cases e
   ·obtain⟨u,e,_⟩:=lk9.dom y q
    rw[z,hz3] at e;cases e
  generalize upd H9 z3 (.dK [])=H10 at *;ext;have n3x:z3≠x:=a7b d10 ex10 λz=>nomatch z;refine k _ ⟨la,lb,z2,z3,b0n J,b0n N,A,B,⟨dx,d7⟩,(c7 n2x).trans e10,rfl,(c7 n3x).trans d10,lo10.updX ex10 rfl (λ_ z=>nomatch z) nf2,lk10.updX ex10 rfl (λ_ z=>nomatch z) nf5,λy a b=>dj5 y b a,⟨nf2,λz=>n82 z2 (.inl z) rfl,λz=>n103 z3 (.inl z) rfl⟩,⟨nf5,λz=>n82 z2 (.inr z) rfl,λz=>n103 z3 (.inr z) rfl⟩⟩
end
section
variable{cl:Cl}
def TRw(H:Hp)(p:Addr)(os:List (List Int)):Prop:=∃ps:List Addr,H p=some (.lst (ps.map V.ref))/\ps.length=os.length/\∀(i:Nat)(q:Addr)(o:List Int),ps[i]?=some q->os[i]?=some o->H q=some (.tup (o.map V.int))
theorem TP.rw{H H':Hp}{os:List (List Int)}{p:Addr}{acc:List V}(h:TP H os p os.length acc H'):TRw H' p os:=by
 obtain⟨e,_,ps,rfl,l,r⟩:=h;exact⟨ps,e,l,λi q o a b=>(r i q o a b).2.2⟩
theorem TRw.sm{H H':Hp}{os:List (List Int)}{p:Addr}(h:TRw H p os)(s:Same H H'):TRw H' p os:=by
 obtain⟨ps,e,l,r⟩:=h;exact⟨ps,s _ _ e,l,λi q o a b=>s _ _ (r i q o a b)⟩
structure HP(cl:Cl)(H:Hp)(X:Addr->Prop)(hl:Addr)(S:HSt):Prop where
 hr:HR cl (rs X H) hl S
 dom:∀x,X x->b0n H x
theorem c8p{X:Addr->Prop}{H H':Hp}(h:∀x o,H x=some o->(X x\/b0o (some o)=true \/ ∃a,o=.own a)->H' x=some o):Same (rs X H) (rs X H'):=λx o e=>by
 have eH:=a7z e;by_cases n:∃a,o=.own a
 ·obtain⟨a,rfl⟩:=n
  by_cases hc:X a\/b0o (H a)=true
  ·refine c8q (h _ _ eH (.inr (.inr ⟨a,rfl⟩))) (hc.imp id λz=>?_)
   cases q:H a with
   | none=>rw[q] at z;cases z
   | some u=>rw[h a u q (.inr (.inl (q ▸ z)))];exact q ▸ z
  ·rw[d3z eH hc] at e;cases e
 ·have n:∀a,o≠.own a:=λa z=>n ⟨a,z⟩
  by_cases hc:X x\/b0o (H x)=true
  ·have e':=h x o eH (hc.imp id λz=>.inl (by rw[eH] at z;exact z))
   exact a1v e' n (hc.imp id λz=>by rw[e',<- eH];exact z)
  ·rw[a5l eH n hc] at e;cases e
theorem LP.cut{H1 H:Hp}{F X:Addr->Prop}{la:Addr}{A:Ad}{L:Ln}{tl:List Tr}(h:LP cl H1 F la A L tl)(s:Same H1 H)(hX:∀x,F x->X x):LP cl (rs X H) F la A L tl:=by
 refine⟨(h.ln.ow h.nf).same λx o e=>?_,λx hx=>?_,h.nf⟩
 ·have e1:=c0f e
  have e2:=a7z e1.1;have n:=a8e e1.2;have hc:F x\/b0o (some o)=true:=by
   by_cases hx:F x
   ·exact .inl hx
   ·right
    cases q:b0o (some o) with
    | true=>rfl
    | false=>
     have:=a5l (F:=F) e2 n (by rw[e2,q];exact λz=>z.elim hx (λq=>by cases q))
     rw[this] at e1;cases e1.1
  have e3:=a1v (F:=X) (s _ _ e2) n (hc.imp (hX x) λz=>by rw[s _ _ e2];exact z)
  exact a1v e3 n (hc.imp id λz=>by rw[e3];exact z)
 ·obtain⟨o,e,z1,z2⟩:=h.dom x hx
  exact⟨o,a1v (s _ _ e) z2 (.inl (hX x hx)),z1,z2⟩
theorem HP.of{H1 H:Hp}{hl:Addr}{S:HSt}(h:HR cl H1 hl S)(s:Same H1 H):∃X,(∀x,X x->b0n H1 x)/\HP cl H X hl S:=by
 obtain⟨la,lb,su,fi,F,G,A,B,⟨dx,e⟩,e2,e3,e4,lo,lk,dj,nF,nG⟩:=h;have ft:∀x,(F x\/G x\/x=hl\/x=su\/x=fi)->b0n H1 x:=λx hx=>by
  rcases hx with z|z|rfl|rfl|rfl
  ·exact lo.dom x z
  ·exact lk.dom x z
  ·exact⟨_,e,rfl,λ_ z=>nomatch z⟩
  ·exact⟨_,e2,rfl,λ_ z=>nomatch z⟩
  ·exact⟨_,e4,rfl,λ_ z=>nomatch z⟩
 refine⟨λx=>F x\/G x\/x=hl\/x=su\/x=fi,ft,⟨la,lb,su,fi,F,G,A,B,⟨dx,a1v (s _ _ e) (λ_ z=>nomatch z) (.inl (by simp))⟩,a1v (s _ _ e2) (λ_ z=>nomatch z) (.inl (by simp)),e3,a1v (s _ _ e4) (λ_ z=>nomatch z) (.inl (by simp)),lo.cut s λ_ z=>.inl z,lk.cut s λ_ z=>.inr (.inl z),dj,nF,nG⟩,λx hx=>?_⟩
 obtain⟨o,q,z⟩:=ft x hx;exact⟨o,s _ _ q,z⟩
theorem HP.all{H:Hp}{X:Addr->Prop}{hl:Addr}{S:HSt}(h:HP cl H X hl S):HR cl H hl S:=h.hr.sm λ_ _ e=>a7z e
theorem HP.same{H H':Hp}{X:Addr->Prop}{hl:Addr}{S:HSt}(h:HP cl H X hl S)(s:Same H H'):HP cl H' X hl S :=
 ⟨h.hr.sm (c8p λx o e _=>s _ _ e),λx hx=>by obtain⟨o,q,z⟩:=h.dom x hx;exact⟨o,s _ _ q,z⟩⟩
theorem HP.but{H H':Hp}{X:Addr->Prop}{hl wl:Addr}{S:HSt}{xs:List V}(h:HP cl H X hl S)(e:H wl=some (.lst xs))(n:¬ X wl)(b:But wl H H'):HP cl H' X hl S:=by
 refine⟨h.hr.sm (c8p λx o q hc=>b _ _ q λz=>?_),λx hx=>?_⟩
 ·rw[z,e] at q
  cases q;rcases hc with hc|hc|⟨_,hc⟩
  ·exact n (z ▸ hc)
  ·cases hc
  ·cases hc
 ·obtain⟨o,q,z⟩:=h.dom x hx
  exact⟨o,b _ _ q (λy=>n (y ▸ hx)),z⟩
theorem HP.no{H:Hp}{X:Addr->Prop}{hl x:Addr}{S:HSt}(h:HP cl H X hl S)(e:H x=none):¬ X x:=λz=>by
 obtain⟨o,q,_⟩:=h.dom x z;rw[e] at q;cases q
def nt:HO->Bool
 | .own _=>false
 | .tbl _=>false
 | _=>true
def KX(X:Addr->Prop)(H:Hp)(X':Addr->Prop)(H':Hp):Prop:=∀x o,H x=some o->nt o=true->¬ X x->H' x=some o/\¬ X' x
theorem HP.call{H H1':Hp}{X:Addr->Prop}{hl:Addr}{S':HSt}(ot:Out H1' (rs X H) H)(r:HR cl H1' hl S'):∃X',HP cl (jn H1' (rs X H) H) X' hl S'/\KX X H X' (jn H1' (rs X H) H):=by
 obtain⟨X',d,h⟩:=HP.of r (H:=jn H1' (rs X H) H) λx o e=>a0p e;refine⟨X',h,λx o e n nx=>?_⟩;have fx:∀q,H1' x=some q->b0o (some q)=true->¬ X' x:=λq e1 z hx=>by
  obtain⟨u,e2,z2,_⟩:=d x hx;rw[e1] at e2;cases e2;rw[z] at z2;cases z2
 have ft:b0o (some o)=false->(∀a,o≠.own a)->jn H1' (rs X H) H x=some o/\¬ X' x:=λz1 z2=>by
  obtain⟨a,b⟩:=a0l ot e z2 z1 nx;exact⟨a,λz=>b (d x z)⟩
 cases o with
 | tup xs=>exact⟨a0p (ot.tup _ _ e),fx _ (ot.tup _ _ e) rfl⟩
 | frz a b=>exact⟨a0p (ot.frz _ _ _ e),fx _ (ot.frz _ _ _ e) rfl⟩
 | own a=>cases n
 | tbl ps=>cases n
 | _=>exact ft rfl (λ_ z=>nomatch z)
end
section
variable{P:Program}{w:World}{K:Frag}{mg:Str->Option Value}{qb:Heap}{cl:Cl}
abbrev bkO(oa dn td sh:Addr)(tk hd:Nat):HO:=.dK [(.inr "orders",.ref oa),(.inr "taken",.int tk),(.inr "done",.ref dn),(.inr "told",.ref td),(.inr "shelves",.ref sh),(.inr "heard",.int hd)]
structure BRel(H:Hp)(bk oa dn td sh:Addr)(ps:List Addr)(S:HSt)(tk hd:Nat):Prop where
 d:H bk=some (bkO oa dn td sh tk hd)
 o:H oa=some (.lst (ps.map V.ref))
 ol:ps.length=S.L.os.length
 oe:∀(i:Nat)(p:Addr)(x:List Int),ps[i]?=some p->S.L.os[i]?=some x->H p=some (.lst (x.map V.int))
 n:H dn=some (.lst (S.fin.map V.int))
 t:TRw H td S.M.os
 s:H sh=some (.lst (S.sm.map V.int))
 nd:[oa,dn,td,sh].Nodup
 np:∀x∈ps,x ∉ [oa,dn,td,sh]
def BY(bk oa dn td sh:Addr)(ps:List Addr)(x:Addr):Prop:=x=bk\/x∈[oa,dn,td,sh]\/x∈ps
theorem BRel.keep{H H':Hp}{bk oa dn td sh:Addr}{ps:List Addr}{S S':HSt}{tk hd:Nat}(h:BRel H bk oa dn td sh ps S tk hd)(k:∀x o,H x=some o->nt o=true->(BY bk oa dn td sh ps x\/b0o (some o)=true)->H' x=some o)(e1:S'.L.os=S.L.os)(e2:S'.fin=S.fin)(e3:S'.M.os=S.M.os)(e4:S'.sm=S.sm):BRel H' bk oa dn td sh ps S' tk hd:=by
 obtain⟨h1,h2,h3,h4,h5,h6,h7,h8,h9⟩:=h;refine⟨k _ _ h1 rfl (.inl (.inl rfl)),k _ _ h2 rfl (.inl (.inr (.inl (by simp)))),by rw[e1];exact h3,λi p x hp hx=>?_,?_,?_,?_,h8,h9⟩
 ·rw[e1] at hx
  exact k _ _ (h4 i p x hp hx) rfl (.inl (.inr (.inr (List.mem_of_getElem? hp))))
 ·rw[e2];exact k _ _ h5 rfl (.inl (.inr (.inl (by simp))))
 ·obtain⟨qs,e,l,r⟩:=h6
  rw[e3];exact⟨qs,k _ _ e rfl (.inl (.inr (.inl (by simp)))),l,λi q o a b=>k _ _ (r i q o a b) rfl (.inr rfl)⟩
 ·rw[e4];exact k _ _ h7 rfl (.inl (.inr (.inl (by simp))))
theorem BRel.same{H H':Hp}{bk oa dn td sh:Addr}{ps:List Addr}{S:HSt}{tk hd:Nat}(h:BRel H bk oa dn td sh ps S tk hd)(s:Same H H'):BRel H' bk oa dn td sh ps S tk hd:=h.keep (λ_ _ e _ _=>s _ _ e) rfl rfl rfl rfl
theorem BRel.at{H:Hp}{bk oa dn td sh:Addr}{ps:List Addr}{S:HSt}{tk hd:Nat}(h:BRel H bk oa dn td sh ps S tk hd){x:Addr}(hx:BY bk oa dn td sh ps x):b0n H x:=by
 rcases hx with rfl|hx|hx
 ·exact⟨_,h.d,rfl,λ_ z=>nomatch z⟩
 ·simp only[List.mem_cons,List.not_mem_nil,or_false] at hx
  rcases hx with rfl|rfl|rfl|rfl
  ·exact⟨_,h.o,rfl,λ_ z=>nomatch z⟩
  ·exact⟨_,h.n,rfl,λ_ z=>nomatch z⟩
  ·obtain⟨qs,e,_⟩:=h.t
   exact⟨_,e,rfl,λ_ z=>nomatch z⟩
  ·exact⟨_,h.s,rfl,λ_ z=>nomatch z⟩
 ·obtain⟨i,hi⟩:=List.getElem?_of_mem hx
  have hl:i<S.L.os.length:=by rw[<- h.ol];exact(List.getElem?_eq_some_iff.mp hi).1
  exact⟨_,h.oe i x _ hi (List.getElem?_eq_getElem hl),rfl,λ_ z=>nomatch z⟩
structure UR(cl:Cl)(H:Hp)(hl bk:Addr)(S:HSt)(tk hd:Nat)(X:Addr->Prop)(oa dn td sh:Addr)(ps:List Addr):Prop where
 hp:HP cl H X hl S
 b:BRel H bk oa dn td sh ps S tk hd
 sp:∀x,X x->¬ BY bk oa dn td sh ps x
theorem UR.same{H H':Hp}{hl bk:Addr}{S:HSt}{tk hd:Nat}{X:Addr->Prop}{oa dn td sh:Addr}{ps:List Addr}(h:UR cl H hl bk S tk hd X oa dn td sh ps)(s:Same H H'):UR cl H' hl bk S tk hd X oa dn td sh ps:=⟨h.hp.same s,h.b.same s,h.sp⟩
theorem UR.call{H H1':Hp}{hl bk:Addr}{S S':HSt}{tk hd:Nat}{X:Addr->Prop}{oa dn td sh:Addr}{ps:List Addr}(h:UR cl H hl bk S tk hd X oa dn td sh ps)(ot:Out H1' (rs X H) H)(r:HR cl H1' hl S'):∃X',HP cl (jn H1' (rs X H) H) X' hl S'/\BRel (jn H1' (rs X H) H) bk oa dn td sh ps S tk hd/\(∀x,X' x->¬ BY bk oa dn td sh ps x)/\KX X H X' (jn H1' (rs X H) H):=by
 obtain⟨X',p,kx⟩:=HP.call ot r;refine⟨X',p,h.b.keep (λx o e n hx=>?_) rfl rfl rfl rfl,λx hx y=>?_,kx⟩
 ·by_cases z:X x
  ·rcases hx with hx|hx
   ·exact absurd hx (h.sp x z)
   ·obtain⟨u,eu,f,_⟩:=h.hp.dom x z
    rw[e] at eu;cases eu;rw[hx] at f;cases f
  ·exact(kx x o e n z).1
 ·obtain⟨o,e,f,nw⟩:=h.b.at y
  refine (kx x o e ?_ λz=>h.sp x z y).2 hx;cases o with
  | own a=>exact absurd rfl (nw a)
  | tbl ps=>cases f
  | _=>rfl
def a8m:Sp:=λvs H Q _=>vs=[]/\∀p,H p=none->Q (.ref p) (upd H p (.lst [.str "asker",.str "doer",.str "teller",.str "hearer"]))
abbrev b2c:Stmt:=top 113
theorem c5g:g7 [] [] (d8 b2c):=↑1
theorem c6l(D:DefT K mg "_law_hands" b2c []):FnT P w K mg qb "_law_hands" 1 [] a8m:=by
 refine D.fn c5g ↑5 ↑2
 ·obtain⟨rfl,_⟩:=h
  rfl
 ·obtain⟨rfl,k⟩:=h
  refine⟨_,(d9 (j1 (t7 (a7 k0 (a7 k0 (a7 k0 (a7 k0 d6))))))),?_⟩;ext;exact⟨(show 4<=sizeLine by decide),k⟩
theorem b6j{ta tb:TE}{r:List (TE×TE)}{σ:St}{H:Hp}{Q:List (V×V)->Hp->Prop}(q:ta σ H λx H1=>tb σ H1 λy H2=>b7z r σ H2 λps H3=>Q ((x,y)::ps) H3):b7z ((ta,tb)::r) σ H Q:=q
theorem e5c{σ:St}{H:Hp}{Q:List (V×V)->Hp->Prop}(q:Q [] H):b7z [] σ H Q:=q
def b6r:Sp:=λvs H Q _=>vs=[]/\∀bk oa dn td sh H',(∀x,BY bk oa dn td sh [] x->H x=none)->Same H H'->(∀n m,BRel H' bk oa dn td sh [] (a1t n m) 0 0)->Q (.ref bk) H'
abbrev b2d:Stmt:=top 115
theorem c5h:g7 [] [] (d8 b2d):=↑1
theorem c6m(D:DefT K mg "_law_books" b2d []):FnT P w K mg qb "_law_books" 1 [] b6r:=by
 refine D.fn c5h ↑5 ↑2
 ·obtain⟨rfl,_⟩:=h
  rfl
 ·obtain⟨rfl,k⟩:=h
  refine'⟨_,d9 ?e,?rd⟩
  case e=>
   show PS _ (.Return (some (.Dict [some (.Constant _ _ _),some (.Constant _ _ _),some (.Constant _ _ _),some (.Constant _ _ _),some (.Constant _ _ _),some (.Constant _ _ _)] [.List _ _,.Constant _ _ _,.List _ _,.List _ _,.List [.Constant _ _ _,.Constant _ _ _,.Constant _ _ _,.Constant _ _ _] _,.Constant _ _ _] _)) _) _;refine' j1 ?e2
   case e2=>
    refine' e1d ?pp ?h1 ?h2 ?h3 ?h4
    case pp=>
     with_reducible refine' (b0i k0 (t7 d6) (b0i k0 i8 (b0i k0 (t7 d6) (b0i k0 (t7 d6) (b0i k0 ?sh (b0i k0 i8 e0x))))))
     case sh=>exact t7 (a7 i8 (a7 i8 (a7 i8 (a7 i8 d6))))
    case h1=>rfl
    case h2=>rfl
    case h3=>exact List.cons_ne_nil _ _
    case h4=>exact Nat.le_of_ble_eq_true rfl
  case rd=>
   ext;refine e5n λbk hb=>?_;generalize u0:upd H bk _=H0;obtain⟨s0,e0⟩:=nwS u0 hb;refine b6j ?_;ext;refine⟨Nat.zero_le _,λoa ha=>?_⟩;generalize u1:upd H0 oa _=H1;obtain⟨s1,e1⟩:=nwS u1 ha;refine b6j ?_;ext;refine b6j ?_;ext;refine⟨Nat.zero_le _,λdn hn=>?_⟩;generalize u2:upd H1 dn _=H2;obtain⟨s2,e2⟩:=nwS u2 hn;refine b6j ?_;ext;refine⟨Nat.zero_le _,λtd ht=>?_⟩;generalize u3:upd H2 td _=H3;obtain⟨s3,e3⟩:=nwS u3 ht;refine b6j ?_;ext;refine⟨(show 4<=sizeLine by decide),λsh hs=>?_⟩
   generalize u4:upd H3 sh _=H4;obtain⟨s4,e4⟩:=nwS u4 hs;refine b6j ?_;ext;refine e5c ?_;have s04:=((s1.trans s2).trans s3).trans s4;refine⟨s04 _ _ e0,[(.inr "orders",.ref oa),(.inr "taken",.int 0),(.inr "done",.ref dn),(.inr "told",.ref td),(.inr "shelves",.ref sh),(.inr "heard",.int 0)],rfl,(show 6<=15 by decide),?_⟩
   have n1:=s0.free ha;have n2:=(s0.trans s1).free hn;have n3:=((s0.trans s1).trans s2).free ht;have n4:=(((s0.trans s1).trans s2).trans s3).free hs;have sm:Same H (upd H4 bk (bkO oa dn td sh 0 0)):=(s0.trans s04).set hb;have ob:=g9 e0 ha;have nb:=g9 (s1 _ _ e0) hn;have tb:=g9 (s2 _ _ (s1 _ _ e0)) ht;have sb:=g9 (s3 _ _ (s2 _ _ (s1 _ _ e0))) hs;have on:=g9 e1 hn;have ot:=g9 (s2 _ _ e1) ht;have os:=g9 (s3 _ _ (s2 _ _ e1)) hs;have nt':=g9 e2 ht;have ns:=g9 (s3 _ _ e2) hs;have ts:=g9 e3 hs;refine k bk oa dn td sh _ (λx hx=>?_) sm λn m=>⟨d7,?_,rfl,λi p x hp=>(by cases hp),?_,⟨[],?_,rfl,λi q o hq=>(by cases hq)⟩,?_,?_,λx hx=>(by cases hx)⟩
   ·rcases hx with rfl|hx|hx
    ·exact hb
    ·simp only[List.mem_cons,List.not_mem_nil,or_false] at hx
     rcases hx with rfl|rfl|rfl|rfl <;> assumption
    ·cases hx
   ·rw[c7 (Ne.symm ob)];exact s4 _ _ (s3 _ _ (s2 _ _ e1))
   ·rw[c7 (Ne.symm nb)];exact s4 _ _ (s3 _ _ e2)
   ·rw[c7 (Ne.symm tb)];exact s4 _ _ e3
   ·rw[c7 (Ne.symm sb)];exact e4
   ·simp only[List.nodup_cons,List.mem_cons,List.not_mem_nil,or_false,not_or,not_false_eq_true,List.nodup_nil,and_true]
    exact⟨⟨on,ot,os⟩,⟨nt',ns⟩,ts⟩
theorem HP.ob{H:Hp}{X:Addr->Prop}{hl:Addr}{S:HSt}(h:HP cl H X hl S):∃dx la lb su fi,H hl=some (e1q cl dx la lb su fi):=by
 obtain⟨la,lb,su,fi,F,G,A,B,h⟩:=h.all;obtain⟨dx,ex⟩:=h.ob;exact⟨dx,la,lb,su,fi,ex⟩
theorem a8h{H:Hp}{bk:Addr}{kvs:List (Key×V)}{x:Str}{v:V}(e:H bk=some (.dK kvs))(h:c7z kvs (.inr x)=some v):DGet H bk (.str x) (some v):=by
 rw[<- h];exact DGet.k (k:=.inr x) e
structure HB4(S:HSt):Prop where
 l:S.L.os.length<=400
 m:S.M.os.length<=400
 f:S.fin.length<=1000
theorem HP.ok{H:Hp}{X:Addr->Prop}{hl:Addr}{S:HSt}(h:HP cl H X hl S):Ok S.L/\Ok S.M/\S.sm.length=4:=by
 obtain⟨la,lb,su,fi,F,G,A,B,r⟩:=h.all;obtain⟨_,_,_,_,_,_,_,okL⟩:=r.lo.all.lr;obtain⟨_,_,_,_,_,_,_,okM⟩:=r.lk.all.lr;exact⟨okL,okM,r.four⟩
section
variable{H:Hp}{bk oa dn td sh:Addr}{ps:List Addr}{S:HSt}{tk hd:Nat}
theorem BRel.ne(h:BRel H bk oa dn td sh ps S tk hd):oa≠dn/\oa≠td/\oa≠sh/\dn≠td/\dn≠sh/\td≠sh/\bk≠oa/\bk≠dn/\bk≠td/\bk≠sh:=by
 have z:=h.nd;simp only[List.nodup_cons,List.mem_cons,List.not_mem_nil,or_false,not_or,not_false_eq_true,List.nodup_nil,and_true] at z;obtain⟨⟨z1,z2,z3⟩,⟨z4,z5⟩,z6⟩:=z;obtain⟨qs,et,_⟩:=h.t;exact⟨z1,z2,z3,z4,z5,z6,a7b h.d h.o (λz=>nomatch z),a7b h.d h.n (λz=>nomatch z),a7b h.d et (λz=>nomatch z),a7b h.d h.s (λz=>nomatch z)⟩
theorem BRel.nps(h:BRel H bk oa dn td sh ps S tk hd){i:Nat}{p:Addr}(hp:ps[i]?=some p):p≠oa/\p≠dn/\p≠td/\p≠sh:=by
 have z:=h.np p (List.mem_of_getElem? hp);simp only[List.mem_cons,List.not_mem_nil,or_false,not_or] at z;exact z
theorem TRw.upd{a:Addr}{u:HO}{os:List (List Int)}{xs:List V}(h:TRw H td os)(n:td≠a)(e:H a=some (.lst xs)):TRw (upd H a u) td os:=by
 obtain⟨qs,et,l,r⟩:=h;exact⟨qs,(c7 n).trans et,l,λi q o hq ho=>(c7 (a7b (r i q o hq ho) e λz=>nomatch z)).trans (r i q o hq ho)⟩
theorem BRel.setS{sm:List Int}(h:BRel H bk oa dn td sh ps S tk hd):BRel (upd H sh (.lst (sm.map V.int))) bk oa dn td sh ps { S with sm:=sm } tk hd:=by
 obtain⟨z1,z2,z3,z4,z5,z6,z7,z8,z9,z10⟩:=h.ne;exact⟨(c7 z10).trans h.d,(c7 z3).trans h.o,h.ol,λi p x hp hx=>(c7 (h.nps hp).2.2.2).trans (h.oe i p x hp hx),(c7 z5).trans h.n,h.t.upd z6 h.s,d7,h.nd,h.np⟩
theorem BRel.addN{n:List Int}(h:BRel H bk oa dn td sh ps S tk hd):BRel (upd H dn (.lst (n.map V.int))) bk oa dn td sh ps { S with fin:=n } tk hd:=by
 obtain⟨z1,z2,z3,z4,z5,z6,z7,z8,z9,z10⟩:=h.ne;exact⟨(c7 z8).trans h.d,(c7 z1).trans h.o,h.ol,λi p x hp hx=>(c7 (h.nps hp).2.1).trans (h.oe i p x hp hx),d7,h.t.upd (Ne.symm z4) h.n,(c7 (Ne.symm z5)).trans h.s,h.nd,h.np⟩
theorem BRel.addT{qs:List Addr}{q:Addr}{o:List Int}{M:Ln}(h:BRel H bk oa dn td sh ps S tk hd)(e:H td=some (.lst (qs.map V.ref)))(hq:H q=some (.tup (o.map V.int)))(em:M.os=S.M.os++[o])(lq:qs.length=S.M.os.length)(rq:∀(i:Nat) (q:Addr) (o:List Int),qs[i]?=some q->S.M.os[i]?=some o->H q=some (.tup (o.map V.int))):BRel (upd H td (.lst (qs.map V.ref++[.ref q]))) bk oa dn td sh ps { S with M:=M } tk hd:=by
 obtain⟨z1,z2,z3,z4,z5,z6,z7,z8,z9,z10⟩:=h.ne;refine⟨(c7 z9).trans h.d,(c7 z2).trans h.o,h.ol,λi p x hp hx=>(c7 (h.nps hp).2.2.1).trans (h.oe i p x hp hx),(c7 z4).trans h.n,⟨qs++[q],by rw[d7,List.map_append];rfl,?_,λi p x hp hx=>?_⟩,(c7 (Ne.symm z6)).trans h.s,h.nd,h.np⟩
 ·show(qs++[q]).length=M.os.length
  rw[em,List.length_append,List.length_append,lq];rfl
 ·have hx:M.os[i]?=some x:=hx
  rw[em] at hx;by_cases hi:i<qs.length
  ·rw[List.getElem?_append_left hi] at hp
   rw[List.getElem?_append_left ↑3] at hx;exact(c7 (a7b (rq i p x hp hx) e λz=>nomatch z)).trans (rq i p x hp hx)
  ·rw[List.getElem?_append_right ↑3] at hp
   rw[List.getElem?_append_right ↑3] at hx;have h1:=(List.getElem?_eq_some_iff.mp hp).1;have h1:i-qs.length<1:=h1;rw[show i-qs.length=0 by lia] at hp
   rw[show i-S.M.os.length=0 by lia] at hx
   cases hp;cases hx;exact(c7 (a7b hq e λz=>nomatch z)).trans hq
end
def c4x(cl:Cl):Sp:=λvs H Q _=>∃(hl bk:Addr)(S:HSt)(tk hd:Nat)(X:Addr->Prop)(oa dn td sh:Addr)(ps:List Addr)(i:Int)(n:Nat),vs=[.ref hl,.ref bk,.int i]/\UR cl H hl bk S tk hd X oa dn td sh ps/\HB4 S/\0<=i/\(a2l S)[i.toNat]?=some (n:Int)/\∀H' X',UR cl H' hl bk (doH S n) tk hd X' oa dn td sh ps->Q (.bl true) H'
abbrev c2p:Stmt:=top 116
theorem b3u:g7 ["hall","books","place","number","order","shelf"] ["hall","books","place"] (d8 c2p):=↑1
theorem d4v(D:DefT K mg "_law_do" c2p ["hall","books","place"])(T:Txt K mg cl)(G_Hall_waiting:qat P w K mg qb cl)(G_Hall_do:MethT P w K mg qb cl.Hall "do" 5 ["self","place"] (frS (c0w cl))):FnT P w K mg qb "_law_do" 6 ["hall","books","place"] (c4x cl):=by
 refine D.fn b3u ↑5 ↑2
 ·fail "l"
 ·obtain⟨hl,bk,S,tk,hd,X,oa,dn,td,sh,ps,i,n,rfl,hU,hB,i0,hw,k⟩:=h
  refine⟨_,(d5 (n6 (i:=3) b3u.nd rfl (.inl rfl) (v4 (j4 (K:=K)) (a0m (pv 0) T.k_Hall G_Hall_waiting hr ↑6 i4) (pv 2) (λ_ _=>rfl)))
   (d5 (a0s (PW.pt (b4h (k8 e4f (a1f (pv 0) T.k_Hall G_Hall_do hr ↑6 i4 (a7 (pv 2) d6)) (pv 3) (n9 _)) (a8b (k8 (d9l (K:=K)) (pv 3) (a0u (huN hr 1) (pv 1) k0 (λ_ _=>rfl)) (by with_unfolding_all rfl)))))
     (d9 (j1 a9s))
     v3)
   (d5 (n6 (i:=4) b3u.nd rfl (.inl rfl) (v4 (j4 (K:=K)) (a0u (huN hr 1) (pv 1) k0 (λ_ _=>rfl)) (pv 3) (λ_ _=>rfl)))
   (d5 (n6 (i:=5) b3u.nd rfl (.inl rfl) (o8 a5n (v4 (j4 (K:=K)) (pv 4) i8 (λ_ _=>rfl)) i8))
   (d5 (b7a (o8 a1b (v4 (j4 (K:=K)) (a0u (huN hr 1) (pv 1) k0 (λ_ _=>rfl)) (pv 5) (λ_ _=>rfl)) (l7 (c7s (K:=K) rfl) (by rfl) T.z_sum PyProof.Rows.boot_sum (a7 (b7t (b7q (K:=K)) (pv 4) (c2x i8) c2y) d6))) (d0o (a0u (huN hr 1) (pv 1) k0 (λ_ _=>rfl)) (pv 5) b3t))
   (d5 (j9 (a0o (K:=K) (a0u (huN hr 1) (pv 1) k0 (λ_ _=>rfl)) (a7 (pv 3) d6)))
   (d5 (j9 (a0o (K:=K) (a0u (huN hr 1) (pv 1) k0 (λ_ _=>rfl)) (a7 (b7b (a7 (pv 3) (a7 (v4 (j4 (K:=K)) (a0u (huN hr 1) (pv 1) k0 (λ_ _=>rfl)) (pv 5) (λ_ _=>rfl)) d6))) d6)))
   (d9 (j1 a9s))))))))),?_⟩
  obtain⟨dx,la,lb,su,fi,ex⟩:=hU.hp.ob;have hj:=(List.getElem?_eq_some_iff.mp hw).1;ext;refine⟨hl,S,rfl,hU.hp.all,Nat.le_trans hB.l ↑6,λp H1 hp s1 ep=>?_⟩;ext;refine a0w ep (v:=.int n) (by rw[c1j i0,List.getElem?_map,hw];rfl) ?_
  have U1:=hU.same s1;have ex1:=s1 _ _ ex;ext;refine⟨rs X H1,a4d X H1,hl,S,i,rfl,U1.hp.hr,hB.l,hB.m,hB.f,λn' _ hw' H2 r ot=>?_,λz=>↑3⟩;rw[hw] at hw';have en:=Int.ofNat.inj (Option.some.inj hw');subst en;obtain⟨X',p2,b2,sp2,kx⟩:=U1.call ot r;generalize jn H2 (rs X H1) H1=H3 at *;ext;rw[show decide (V.int (n:Int)=V.int n)=true by simp]
  ext;refine a3f ?_;ext;refine⟨bk,.ref dn,rfl,a8h b2.d rfl,?_⟩;obtain⟨n0,en,hn,nf⟩:=b7n hw;have en:=Int.ofNat.inj en;subst en;refine⟨dn,_,rfl,.inl (SqL.of b2.n),rfl,b9s _,?_⟩;rw[show(if false=true then !inV (.int n) (S.fin.map V.int) else inV (.int n) (S.fin.map V.int))=false from by
   rw[if_neg ↑6];unfold inV;rw[List.any_eq_false];intro x hx;obtain⟨y,hy,rfl⟩:=List.mem_map.mp hx;simp[eqV];intro z;exact nf (z ▸ hy)]
  ext;refine a3f ?_;ext;refine⟨bk,.ref oa,rfl,a8h b2.d rfl,?_⟩;obtain⟨okL,okM,four⟩:=hU.hp.ok;have ho:S.L.os[n]?=some (S.L.bk[n]'hn):=by
   have e:S.L.bk[n]?=some (S.L.bk[n]'hn):=List.getElem?_eq_getElem hn;generalize S.L.bk[n]'hn=o at *;rw[okL.tk.bk,List.getElem?_take] at e;split at e <;> first|exact e|cases e
  have o1:1<=(S.L.bk[n]'hn).length:=d9x okL hn;have eo':S.L.bk.getD n []=S.L.bk[n]'hn:=by rw[List.getD_eq_getElem?_getD,List.getElem?_eq_getElem hn];rfl
  generalize S.L.bk[n]'hn=o at *;obtain⟨pn,hpn⟩:∃pn,ps[n]?=some pn:=⟨_,List.getElem?_eq_getElem (by rw[b2.ol];exact(List.getElem?_eq_some_iff.mp ho).1)⟩
  have eo:=b2.oe n pn o hpn ho;have h04:(0:Int)<=o.getD 0 0 % 4/\o.getD 0 0 % 4<4:=⟨Int.emod_nonneg _ ↑6,Int.emod_lt_of_pos _ ↑6⟩;ext;refine a0w b2.o (v:=.ref pn) (by rw[c1j (Int.natCast_nonneg n),List.getElem?_map,Int.toNat_natCast,hpn];rfl) ?_
  ext;refine a0w eo (b7d ↑3 ↑3) ?_;ext;refine a3f ?_;ext;refine⟨bk,.ref sh,rfl,a8h b2.d rfl,?_⟩;ext;refine a0w b2.s (b7d h04.1 (by rw[four];exact h04.2)) ?_
  ext;refine e7g ?_;ext;refine d5p ?_;ext;refine⟨1,rfl,?_⟩;refine c4h ?_;refine⟨pn,_,rfl,SqL.of eo,λc hc=>?_⟩;rw[show d3j (o.map V.int) (some 1) none=(o.drop 1).map V.int from by rw[show(some 1:Option Int)=some ((1:Nat):Int) from rfl,c7q (by rw[List.length_map];exact o1),List.map_drop]]
  generalize u4:upd H3 c _=H4;obtain⟨s4,e4⟩:=nwS u4 hc;have b4:=b2.same s4;have p4:=p2.same s4;ext;refine⟨c,o.drop 1,rfl,SqL.of e4,?_⟩;ext;refine a3f ?_;ext;refine⟨bk,.ref sh,rfl,a8h b4.d rfl,?_⟩;ext;have h60:6000<=sizeLine:=by decide
  refine d9q b4.s (d5h h04.1 (by rw[List.length_map,four];exact h04.2)) ?_
  rw[show(S.sm.map V.int).set (o.getD (Int.toNat 0) 0 % 4).toNat (.int (S.sm.getD (o.getD (Int.toNat 0) 0 % 4).toNat 0+(o.drop 1).sum))=(S.sm.set (a0f o) (a0i S o)).map V.int from by rw[List.map_set];rfl]
  have b5:=b4.setS (sm:=S.sm.set (a0f o) (a0i S o));have p5:=p4.but b4.s (λz=>sp2 _ z (.inr (.inl (by simp)))) (But.upd (o:=.lst ((S.sm.set (a0f o) (a0i S o)).map V.int)))
  generalize upd H4 sh _=H5 at *;ext;refine a3f ?_;ext;refine⟨bk,.ref dn,rfl,a8h b5.d rfl,?_⟩;have e5:H5 dn=some (.lst (S.fin.map V.int)):=b5.n;ext;refine c4k e5 (by rw[List.length_map];have:=hB.f;lia) ?_
  rw[show S.fin.map V.int++[.int n]=(S.fin++[(n:Int)]).map V.int from by rw[List.map_append];rfl]
  have b6:=b5.addN (n:=S.fin++[(n:Int)]);have p6:=p5.but e5 (λz=>sp2 _ z (.inr (.inl (by simp)))) (But.upd (o:=.lst ((S.fin++[(n:Int)]).map V.int)))
  generalize upd H5 dn _=H6 at *;ext;refine a3f ?_;ext;refine⟨bk,.ref td,rfl,a8h b6.d rfl,?_⟩;obtain⟨qs,et6,lq,rq⟩:=id b6.t;ext;refine a3f ?_;ext;refine⟨bk,.ref sh,rfl,a8h b6.d rfl,?_⟩;have l4:a0f o<S.sm.length:=by unfold a0f;lia
  ext;refine a0w b6.s (v:=.int (a0i S o)) ?_ ?_
  ·show atI ((S.sm.set (a0f o) (a0i S o)).map V.int) (o.getD 0 0 % 4)=_
   rw[c1j h04.1,List.getElem?_map];show((S.sm.set (a0f o) (a0i S o))[a0f o]?).map V.int=_;rw[List.getElem?_set_self l4];rfl
  ext;refine⟨(show 2<=sizeLine by decide),λt ht=>?_⟩
  generalize u7:upd H6 t _=H7;obtain⟨s7,e7⟩:=nwS u7 ht;have b7:=b6.same s7;have et7:=s7 _ _ et6;ext;have lq:qs.length=S.M.os.length:=lq;refine c4k et7 (by rw[List.length_map,lq];have:=hB.m;lia) ?_
  have b8:=b7.addT (o:=[(n:Int),a0i S o]) (M:=a3w S.M [(n:Int),a0i S o]) et7 e7 rfl lq λi q o a b=>s7 _ _ (rq i q o a b);have p8:=(p6.same s7).but et7 (λz=>sp2 _ z (.inr (.inl (by simp)))) (But.upd (o:=.lst (qs.map V.ref++[.ref t])))
  generalize upd H7 td _=H8 at *;ext;refine k H8 X' ⟨p8,?_,sp2⟩;unfold doH;rw[eo'];exact b8
end
structure HI(S:HSt):Prop where
 nd:S.fin.Nodup
 lt:∀x∈S.fin,∃n:Nat,x=n/\n<S.L.bk.length
theorem d3k(S:HSt):(a2l S).Pairwise (· < ·):=by
 unfold a2l;rw[List.pairwise_map];exact(List.pairwise_lt_range.filter _).imp λh=>by lia
theorem e0a(S:HSt):(a2l S).Pairwise (· <= ·):=(d3k S).imp λh=>Int.le_of_lt h
theorem e3p(n:Nat):((List.range n).map λ(k:Nat)=>(k:Int)).Pairwise (· <= ·):=by
 rw[List.pairwise_map];exact List.pairwise_lt_range.imp λh=>by lia
theorem c4q{S:HSt}(h:HI S):(a2l S++S.fin).Perm ((List.range S.L.bk.length).map λ(k:Nat)=>(k:Int)):=by
 have nw:(a2l S).Nodup:=(d3k S).imp λh=>Int.ne_of_lt h;have nr:((List.range S.L.bk.length).map λ(k:Nat)=>(k:Int)).Nodup:=by
  unfold List.Nodup;rw[List.pairwise_map];exact List.pairwise_lt_range.imp λh=>by lia
 have mw:∀x,x∈a2l S ↔ ∃n:Nat,x=n/\n<S.L.bk.length/\x ∉ S.fin:=λx=>by
  unfold a2l;rw[List.mem_map];constructor
  ·rintro⟨n,hn,rfl⟩
   obtain⟨a,b⟩:=List.mem_filter.mp hn;exact⟨n,rfl,List.mem_range.mp a,by simpa using b⟩
  ·rintro⟨n,rfl,a,b⟩
   exact⟨n,List.mem_filter.mpr ⟨List.mem_range.mpr a,by simpa using b⟩,rfl⟩
 rw[List.perm_ext_iff_of_nodup (List.nodup_append.mpr ⟨nw,h.nd,λa ha b hb e=>?_⟩) nr]
 ·intro a
  rw[List.mem_append,mw,List.mem_map];constructor
  ·rintro (⟨n,rfl,l,_⟩|h')
   ·exact⟨n,List.mem_range.mpr l,rfl⟩
   ·obtain⟨n,rfl,l⟩:=h.lt a h'
    exact⟨n,List.mem_range.mpr l,rfl⟩
  ·rintro⟨n,l,rfl⟩
   by_cases z:(n:Int)∈S.fin
   ·exact .inr z
   ·exact .inl ⟨n,rfl,List.mem_range.mp l,z⟩
 ·obtain⟨_,_,_,z⟩:=(mw a).mp ha
  exact z (e ▸ hb)
theorem c1k{S:HSt}(h:HI S):(a2l S).length+S.fin.length=S.L.bk.length:=by
 have:=(c4q h).length_eq;rw[List.length_append,List.length_map,List.length_range] at this;exact this
theorem d3t{a b:List Int}(p:a.Perm b)(ha:a.Pairwise (· <= ·))(hb:b.Pairwise (· <= ·)):a=b:=p.eq_of_pairwise (λ_ _ _ _ h1 h2=>Int.le_antisymm h1 h2) ha hb
theorem HI.dos{S:HSt}{n:Nat}{j:Nat}(h:HI S)(hw:(a2l S)[j]?=some (n:Int)):HI (doH S n):=by
 obtain⟨m,e,l,nf⟩:=b7n hw;have e:=Int.ofNat.inj e;subst e;refine⟨?_,λx hx=>?_⟩
 ·show(S.fin++[(n:Int)]).Nodup
  rw[List.nodup_append];exact⟨h.nd,by simp,λa ha b hb e=>nf (by rw[List.mem_singleton.mp hb] at e;exact e ▸ ha)⟩
 ·have hx:x∈S.fin++[(n:Int)]:=hx
  rcases List.mem_append.mp hx with hx|hx
  ·exact h.lt x hx
  ·exact⟨n,List.mem_singleton.mp hx,l⟩
section
variable{P:Program}{w:World}{K:Frag}{mg:Str->Option Value}{qb:Heap}{cl:Cl}
theorem c4m{H:Hp}{n:Nat}{p q:Addr}{xs ys:List V}(ne:p≠q)(hp:H p=some (.lst xs))(hq:H q=some (.lst ys))(hl:xs.length=ys.length)(h:∀(j:Nat) (x y:V),xs[j]?=some x->ys[j]?=some y->EqD K H n x y true):EqD K H (n+1) (.ref p) (.ref q) true:=by
 have z:=EqD.lst (K:=K) (e:=λ_=>true) ne (SqL.of hp) (SqL.of hq) hl h;rw[show(List.range xs.length).all (λ_=>true)=true by simp] at z
 exact z
theorem c4l{H:Hp}{n:Nat}{x:V}(f:a5p x=true)(e:eqV x x=true):EqD K H n x x true:=by
 have z:=EqD.flat (K:=K) (H:=H) (n:=n) f f;rw[e] at z;exact z
theorem c7o{H:Hp}{n:Nat}{p q:Addr}{xs:List V}(ne:p≠q)(hp:H p=some (.lst xs))(hq:H q=some (.lst xs))(h:∀x∈xs,a5p x=true/\eqV x x=true):EqD K H (n+1) (.ref p) (.ref q) true :=
 c4m ne hp hq rfl λj x y hx hy=>by
  rw[hx] at hy;cases hy;have:=h x (List.mem_of_getElem? hx);exact c4l this.1 this.2
theorem a3c{H:Hp}{n:Nat}{p q:Addr}{ns:List Int}(ne:p≠q)(hp:H p=some (.lst (ns.map V.int)))(hq:H q=some (.lst (ns.map V.int))):EqD K H (n+1) (.ref p) (.ref q) true :=
 c7o ne hp hq λx hx=>by
  obtain⟨i,_,rfl⟩:=List.mem_map.mp hx;exact⟨rfl,by simp[eqV]⟩
theorem d8x{H:Hp}{n:Nat}{p q:Addr}{ns:List Int}(hp:H p=some (.tup (ns.map V.int)))(hq:H q=some (.tup (ns.map V.int))):EqD K H (n+1) (.ref p) (.ref q) true:=by
 by_cases ne:p=q
 ·rw[ne];exact EqD.self (SqT.of hq)
 ·have h:=EqD.tup (K:=K) (n:=n) (e:=λ_=>true) ne (SqT.of hp) (SqT.of hq) (λj x y hx hy=>?_)
  ·rw[Nat.min_self] at h
   rw[show((List.range (ns.map V.int).length).all (λ_=>true) && (ns.map V.int).length == (ns.map V.int).length)=true by simp] at h
   exact h
  ·rw[hx] at hy
   cases hy;obtain⟨i,_,rfl⟩:=List.mem_map.mp (List.mem_of_getElem? hx);exact c4l rfl (by simp[eqV])
theorem d5w{H:Hp}{n:Nat}{p q:Addr}{os:List (List Int)}(ne:p≠q)(x:TRw H p os)(y:TRw H q os):EqD K H (n+2) (.ref p) (.ref q) true:=by
 obtain⟨ps,e,l,r⟩:=x;obtain⟨qs,e',l',r'⟩:=y;refine c4m ne e e' (by rw[List.length_map,List.length_map,l,l']) λj u v hu hv=>?_
 rw[List.getElem?_map] at hu hv;cases eu:ps[j]? with
 | none=>rw[eu] at hu;cases hu
 | some a=>
  cases ev:qs[j]? with
  | none=>rw[ev] at hv;cases hv
  | some b=>
   rw[eu] at hu;rw[ev] at hv;cases hu;cases hv;have hj:j<os.length:=by rw[<- l];exact(List.getElem?_eq_some_iff.mp eu).1
   exact d8x (r j a _ eu (List.getElem?_eq_getElem hj)) (r' j b _ ev (List.getElem?_eq_getElem hj))
section
variable{H:Hp}{hl bk oa dn td sh p:Addr}{ps:List Addr}{S:HSt}{tk hd:Nat}{X:Addr->Prop}
theorem UR.updL{xs:List V}{o:HO}(h:UR cl H hl bk S tk hd X oa dn td sh ps)(e:H p=some (.lst xs))(nx:¬ X p)(ny:¬ BY bk oa dn td sh ps p):UR cl (upd H p o) hl bk S tk hd X oa dn td sh ps:=by
 refine⟨h.hp.but e nx But.upd,h.b.keep (λx u e' n hx=>?_) rfl rfl rfl rfl,h.sp⟩;refine (c7 (λz=>?_)).trans e';rw[z] at hx e';rcases hx with hx|hx
 ·exact ny hx
 ·rw[e] at e';cases e';cases hx
theorem UR.setD{tk' hd':Nat}(h:UR cl H hl bk S tk hd X oa dn td sh ps):UR cl (upd H bk (bkO oa dn td sh tk' hd')) hl bk S tk' hd' X oa dn td sh ps:=by
 obtain⟨z1,z2,z3,z4,z5,z6,z7,z8,z9,z10⟩:=h.b.ne;have nb:∀{x:Addr}{ys:List V},H x=some (.lst ys)->x≠bk:=λe=>a7b e h.b.d λz=>nomatch z;obtain⟨qs,et,lq,rq⟩:=h.b.t;refine⟨⟨h.hp.hr.sm (c8p λx o e hc=>(c7 (λz=>?_)).trans e),λx hx=>?_⟩,⟨d7,(c7 (nb h.b.o)).trans h.b.o,h.b.ol,λi p x hp hx=>(c7 (nb (h.b.oe i p x hp hx))).trans (h.b.oe i p x hp hx),(c7 (nb h.b.n)).trans h.b.n,⟨qs,(c7 (nb et)).trans et,lq,λi q o a b=>(c7 (a7b (rq i q o a b) h.b.d λz=>nomatch z)).trans (rq i q o a b)⟩,(c7 (nb h.b.s)).trans h.b.s,h.b.nd,h.b.np⟩,h.sp⟩
 ·rw[z] at hc e
  rw[h.b.d] at e;cases e;rcases hc with hc|hc|⟨_,hc⟩
  ·exact h.sp bk hc (.inl rfl)
  ·cases hc
  ·cases hc
 ·obtain⟨o,e,f⟩:=h.hp.dom x hx
  exact⟨o,(c7 (λz=>h.sp x hx (.inl z))).trans e,f⟩
theorem UR.free(h:UR cl H hl bk S tk hd X oa dn td sh ps)(e:H p=none):¬ X p/\¬ BY bk oa dn td sh ps p:=by
 refine⟨h.hp.no e,λz=>?_⟩;obtain⟨o,e',_⟩:=h.b.at z;rw[e] at e';cases e'
end
theorem e2k{xs:List V}{j:Nat}(h:j<=xs.length):d3j xs none (some (j:Int))=xs.take j:=by
 unfold d3j;rw[HT.sIx_nat,HT.sIx_none,Nat.min_eq_left h]
 rfl
theorem TRw.cut{H:Hp}{p c:Addr}{m:Nat}{os:List (List Int)}{ts:List Addr}(lt:ts.length=os.length)(rt:∀(i:Nat) (q:Addr) (o:List Int),ts[i]?=some q->os[i]?=some o->H q=some (.tup (o.map V.int)))(e:H c=some (.lst ((ts.take m).map V.ref))):TRw H c (os.take m):=by
 refine⟨ts.take m,e,by rw[List.length_take,List.length_take,lt],λi q o a b=>?_⟩
 rw[List.getElem?_take] at a b;by_cases hi:i<m
 ·rw[if_pos hi] at a b
  exact rt i q o a b
 ·rw[if_neg hi] at a;cases a
def a3i(cl:Cl):Sp:=λvs H Q _=>∃(hl bk:Addr)(S:HSt)(tk hd:Nat)(X:Addr->Prop)(oa dn td sh:Addr)(ps:List Addr),vs=[.ref hl,.ref bk]/\UR cl H hl bk S tk hd X oa dn td sh ps/\HI S/\S.L.os.length<64/\S.M.os.length<=400/\tk<=S.L.bk.length/\hd<=S.M.bk.length/\∀H',UR cl H' hl bk S S.L.bk.length S.M.bk.length X oa dn td sh ps->Q (.bl true) H'
abbrev a4k:Stmt:=top 117
theorem a0d:g7 ["hall","books","waiting","done","many","heard","told"] ["hall","books"] (d8 a4k):=↑1
variable(P w K mg qb cl)in
abbrev qau:=MethT P w K mg qb cl.Hall "done" 1 ["self"] (λvs H Q _=>∃(hl:Addr) (S:HSt),vs=[.ref hl]/\HR cl H hl S/\∀p,H p=none->Q (.ref p) (upd H p (.lst (S.fin.map V.int))))
variable(P w K mg qb cl)in
abbrev qav:=MethT P w K mg qb cl.Hall "shelves" 1 ["self"] (λvs H Q _=>∃(hl:Addr) (S:HSt),vs=[.ref hl]/\HR cl H hl S/\∀p,H p=none->Q (.ref p) (upd H p (.lst (S.sm.map V.int))))
theorem b5y(D:DefT K mg "_law_hall_right" a4k ["hall","books"])(T:Txt K mg cl)(kl:kitOne K (.type "list") (.type "list")=some true)(kt:kitOne K (.type "tuple") (.type "tuple")=some true)(G_Hall_waiting:qat P w K mg qb cl)(G_Hall_done:qau P w K mg qb cl)(G_Hall_told:MethT P w K mg qb cl.Hall "told" 4 ["self"] (a2j cl true))(G_Hall_heard:MethT P w K mg qb cl.Hall "heard" 4 ["self"] (a2j cl false))(G_Hall_shelves:qav P w K mg qb cl):FnT P w K mg qb "_law_hall_right" 5 ["hall","books"] (a3i cl):=by
 refine D.fn a0d ↑5 ↑2
 ·fail "l"
 ·obtain⟨hl,bk,S,tk,hd,X,oa,dn,td,sh,ps,rfl,hU,hI,l6,m4,tk1,hd1,k⟩:=h
  refine⟨_,(d5 (n6 (i:=2) a0d.nd rfl (.inl rfl) (a0m (pv 0) T.k_Hall G_Hall_waiting hr ↑6 i4))
   (d5 (n6 (i:=3) a0d.nd rfl (.inl rfl) (a0m (pv 0) T.k_Hall G_Hall_done hr ↑6 i4))
   (d5 (a0s (PW.pt (b4h (c0y (a8c (l7 (b9u (K:=K)) (by rfl) T.z_isinstance PyProof.Rows.boot_isinstance (a7 (pv 2) (a7 (d4l T.z_list PyProof.Rows.boot_list rfl) d6))))) (b4h (k8 (b7c (K:=K) (n:=0) (huN hr 1)) (pv 3) (a0u (huN hr 1) (pv 1) k0 (λ_ _=>rfl)) (n9 _)) (a8b (k8 (b7c (K:=K) (n:=0) (huN hr 1)) (a0m (pv 0) T.k_Hall G_Hall_shelves hr ↑6 i4) (a0u (huN hr 1) (pv 1) k0 (λ_ _=>rfl)) (n9 _))))))
     (d9 (j1 a9s))
     v3)
   (d5 (n6 (i:=4) a0d.nd rfl (.inl rfl) (o8 a1b (l7 (n5 (K:=K)) (by rfl) T.z_len PySem.boot_len (a7 (pv 2) d6)) (l7 (n5 (K:=K)) (by rfl) T.z_len PySem.boot_len (a7 (pv 3) d6))))
   (d5 (a0s (PW.pt (b4h (k8 (b7c (K:=K) (n:=0) (huN hr 1)) (l7 (c1i (K:=K)) (by rfl) T.z_sorted PyProof.Rows.boot_sorted (a7 (o8 d0t (pv 2) (pv 3)) d6)) (a2y (c9x rfl) (by rfl) T.z_list PyProof.Rows.boot_list (a7 (a2y d6h (by rfl) T.z_range PyProof.Rows.boot_range (a7 (pv 4) d6)) d6)) (n9 _)) (a8b (k8 (b7c (K:=K) (n:=0) (huN hr 1)) (pv 2) (l7 (c1i (K:=K)) (by rfl) T.z_sorted PyProof.Rows.boot_sorted (a7 (pv 2) d6)) (n9 _)))))
     (d9 (j1 a9s))
     v3)
   (d5 (a0s (PW.pt (b4h (k8 b2w (pv 4) (a0u (huN hr 1) (pv 1) k0 (λ_ _=>rfl)) (n9 _)) (a8b (k8 c6b (pv 4) (l7 (n5 (K:=K)) (by rfl) T.z_len PySem.boot_len (a7 (a0u (huN hr 1) (pv 1) k0 (λ_ _=>rfl)) d6)) (n9 _)))))
     (d9 (j1 a9s))
     v3)
   (d5 (c8t (huN hr 1) (pv 1) k0 (pv 4) rfl)
   (d5 (n6 (i:=5) a0d.nd rfl (.inl rfl) (a0m (pv 0) T.k_Hall G_Hall_heard hr ↑6 i4))
   (d5 (a0s (PW.pt (b4h (k8 (b7c (K:=K) (n:=1) (huN hr 2)) (a0m (pv 0) T.k_Hall G_Hall_told hr ↑6 i4) (a0u (huN hr 1) (pv 1) k0 (λ_ _=>rfl)) (n9 _)) (b4h (c0y (a8c (l7 (b9u (K:=K)) (by rfl) T.z_isinstance PyProof.Rows.boot_isinstance (a7 (pv 5) (a7 (d4l T.z_list PyProof.Rows.boot_list rfl) d6))))) (a8b (k8 b2w (l7 (n5 (K:=K)) (by rfl) T.z_len PySem.boot_len (a7 (pv 5) d6)) (a0u (huN hr 1) (pv 1) k0 (λ_ _=>rfl)) (n9 _))))))
     (d9 (j1 a9s))
     v3)
   (d5 (c8t (huN hr 1) (pv 1) k0 (l7 (n5 (K:=K)) (by rfl) T.z_len PySem.boot_len (a7 (pv 5) d6)) rfl)
   (d5 (a0s (PW.pt (b4h (k8 (b7c (K:=K) (n:=1) (huN hr 2)) (pv 5) (b7t (b7q (K:=K)) (a0u (huN hr 1) (pv 1) k0 (λ_ _=>rfl)) c2y (c2x (l7 (n5 (K:=K)) (by rfl) T.z_len PySem.boot_len (a7 (pv 5) d6)))) (n9 _)) (a8b (c0y (a8c (l7 (d6k (K:=K) rfl) (by rfl) T.z_all PyProof.Rows.boot_all (a7 (b2v (N:=["pair"]) (nt:=1) (fr:=[]) rfl (b0q rfl rfl (by decide +kernel) (by decide +kernel) rfl rfl) (a1l (K:=K) (pv 5)) (a6p ↑6) (λ_ _ _ _ _=>y7 (i:=0) (show(["pair"]:List Str).Nodup by decide +kernel) rfl (Or.inl rfl) (Or.inr rfl)) (λ_ _ _ _ _=>(l7 (b9u (K:=K)) (by rfl) T.z_isinstance PyProof.Rows.boot_isinstance (a7 (pv 0) (a7 (d4l T.z_tuple PyProof.Rows.boot_tuple rfl) d6))))) d6)))))))
     (d9 (j1 a9s))
     v3)
   (d5 (b4i a3u rfl (a1l (K:=K) (t7 (a7 (pv 5) (a7 (pv 2) (a7 (pv 3) (a7 (a0m (pv 0) T.k_Hall G_Hall_shelves hr ↑6 i4) (a7 (a0m (pv 0) T.k_Hall G_Hall_told hr ↑6 i4) d6))))))) (y7 (i:=6) a0d.nd rfl (.inl rfl))
     (d9 (j9 (d4n (K:=K) (pv 6)))))
   (d9 (j1 (a3t a8a (l7 (n5 (K:=K)) (by rfl) T.z_len PySem.boot_len (a7 (a0m (pv 0) T.k_Hall G_Hall_heard hr ↑6 i4) d6)) (a0u (huN hr 1) (pv 1) k0 (λ_ _=>rfl)) (n9 _)))))))))))))))),?_⟩
  have h60:6000<=sizeLine:=by decide
  obtain⟨okL,okM,four⟩:=hU.hp.ok;have bl:S.L.bk.length<=S.L.os.length:=by rw[okL.tk.bk,List.length_take];exact Nat.min_le_right _ _
  have wl:=c1k hI;obtain⟨dx,la,lb,su,fi,ex⟩:=hU.hp.ob;ext;refine⟨hl,S,rfl,hU.hp.all,by lia,λp1 H1 hp1 s1 e1=>?_⟩
  have ex1:=s1 _ _ ex;have U1:=hU.same s1;ext;refine⟨hl,S,rfl,U1.hp.all,λp2 hp2=>?_⟩;generalize u2:upd H1 p2 _=H2;obtain⟨s2,e2⟩:=nwS u2 hp2;have U2:=U1.same s2;have ex2:=s2 _ _ ex1;have e12:=s2 _ _ e1;ext;refine e2e (.ty (.lst e12)) rfl kl ?_;ext;refine a3f ?_;ext;refine⟨bk,.ref dn,rfl,a8h U2.b.d rfl,?_⟩;refine c4i (a3c (Ne.symm (g9 U1.b.n hp2)) e2 U2.b.n) ?_;ext;refine⟨hl,S,rfl,U2.hp.all,λp3 hp3=>?_⟩;generalize u3:upd H2 p3 _=H3;obtain⟨s3,e3⟩:=nwS u3 hp3;have U3:=U2.same s3;have ex3:=s3 _ _ ex2;have e13:=s3 _ _ e12;have e23:=s3 _ _ e2;ext;refine a3f ?_;ext;refine⟨bk,.ref sh,rfl,a8h U3.b.d rfl,?_⟩;refine c4i (a3c (Ne.symm (g9 U2.b.s hp3)) e3 U3.b.s) ?_;ext;rw[show((List.map V.int (a2l S)).length:Int)+(List.map V.int S.fin).length=(S.L.bk.length:Int) from by rw[List.length_map,List.length_map];lia]
  refine d5s e13 e23 (by rw[List.length_map,List.length_map];lia) λp4 hp4=>?_
  rw[<- List.map_append];generalize u4:upd H3 p4 _=H4;obtain⟨s4,e4⟩:=nwS u4 hp4;ext;refine⟨p4,a2l S++S.fin,rfl,SqL.of e4,by rw[List.length_append];lia,λns' p5 pm pw hp5=>?_⟩
  have en:=d3t (pm.trans (c4q hI)) pw (e3p _);subst en;generalize u5:upd H4 p5 _=H5;obtain⟨s5,e5⟩:=nwS u5 hp5;ext;refine⟨_,rfl,λp6 hp6=>?_⟩;generalize u6:upd H5 p6 _=H6;obtain⟨s6,e6⟩:=nwS u6 hp6;ext;refine⟨p6,S.L.bk.length,rfl,e6,by lia,λp7 hp7=>?_⟩
  generalize u7:upd H6 p7 _=H7;obtain⟨s7,e7⟩:=nwS u7 hp7;have e56:=s6 _ _ e5;refine c4i (a3c (ns:=(List.range S.L.bk.length).map λ(k:Nat)=>(k:Int)) (g9 e56 hp7) (s7 _ _ e56) (by rw[List.map_map];exact e7)) ?_
  have s37:=((s4.trans s5).trans s6).trans s7;have U7:=U3.same s37;have e17:=s37 _ _ e13;have e27:=s37 _ _ e23;have ex7:=s37 _ _ ex3;clear u4 u5 u6 u7 s4 s5 s6 s7 e4 e5 e6 e7 e56 hp4 hp5 hp6 hp7 pm pw;ext;refine⟨p1,a2l S,rfl,SqL.of e17,by lia,λns2 p8 pm2 pw2 hp8=>?_⟩
  have en2:=d3t pm2 pw2 (e0a S);subst en2;generalize u8:upd H7 p8 _=H8;obtain⟨s8,e8⟩:=nwS u8 hp8;refine c4i (a3c (g9 e17 hp8) (s8 _ _ e17) e8) ?_;have U8:=U7.same s8;have e18:=s8 _ _ e17;have e28:=s8 _ _ e27;have ex8:=s8 _ _ ex7;ext;refine a3f ?_;ext;refine⟨bk,.int tk,rfl,a8h U8.b.d rfl,?_⟩;ext;refine a3b (λy=>absurd y ↑3) λ_=>?_;ext;refine a3f ?_;ext;refine⟨bk,.ref oa,rfl,a8h U8.b.d rfl,?_⟩;have eo8:=U8.b.o;ext;rw[List.length_map,U8.b.ol];refine a3b (λy=>absurd y ↑3) λ_=>?_;ext;refine d5r ?_;ext;refine⟨bk,_,rfl,DPut.k (k:=.inr "taken") U8.b.d (show 6<sizeLine by decide),?_⟩
  generalize u9:upd H8 bk _=H9;have U9:UR cl H9 hl bk S S.L.bk.length hd X oa dn td sh ps:=by rw[<- u9];exact U8.setD
  have k9:∀{x:Addr}{ys:List V},H8 x=some (.lst ys)->H9 x=some (.lst ys):=λe=>by rw[<- u9,c7 (a7b e U8.b.d λz=>nomatch z)];exact e
  have e19:=k9 e18;have e29:=k9 e28;have f1:=hU.free hp1;have f2:=hU.free (s1.free hp2);clear u9 k9 e18 e28 U8 ex8 u8 e8 s8 pm2 pw2 hp8 U7 e17 e27 ex7 s37 U3 ex3 e13 e23 u3 e3 s3 hp3 U2 e12 ex2;obtain⟨dx9,la9,lb9,su9,fi9,ex9⟩:=U9.hp.ob;ext;refine⟨hl,S,rfl,U9.hp.all,by lia,λhe acc6 G6 H10 s10a hhe tp10=>?_⟩
  have s10:Same H9 H10:=λx u e=>tp10.2.1 _ _ (s10a _ _ e);have tw10:TRw H10 he S.M.bk:=tp10.rw;have f10:=U9.free (v2 s10a hhe);have U10:=U9.same s10;have ex10:=s10 _ _ ex9;ext;refine⟨hl,S,rfl,U10.hp.all,by lia,λto acc7 G7 H11 s11a hto tp11=>?_⟩
  have s11:Same H10 H11:=λx u e=>tp11.2.1 _ _ (s11a _ _ e);have tw11:TRw H11 to S.M.os:=tp11.rw;have U11:=U10.same s11;have tw10:=tw10.sm s11;have e111:=s11 _ _ (s10 _ _ e19);have e211:=s11 _ _ (s10 _ _ e29);obtain⟨qs,eq,lq,rq⟩:=id tw10;obtain⟨q0,eq0,_⟩:=id U10.b.t;have nto:=Ne.symm (g9 (s11a _ _ eq0) hto);clear tp10 tp11 s10a s11a hto acc6 acc7;refine a3f ?_;ext;refine⟨bk,.ref td,rfl,a8h U11.b.d rfl,?_⟩;refine c4i (d5w nto tw11 U11.b.t) ?_;ext;refine e2e (.ty (.lst eq)) rfl kl ?_;ext;refine a3f ?_;ext;refine⟨bk,.int hd,rfl,a8h U11.b.d rfl,?_⟩;ext;rw[List.length_map,lq];refine a3b (λy=>absurd y ↑3) λ_=>?_;ext;refine d5r ?_;ext;rw[List.length_map,lq];refine⟨bk,_,rfl,DPut.k (k:=.inr "heard") U11.b.d (show 6<sizeLine by decide),?_⟩
  generalize u12:upd H11 bk _=H12;have U12:UR cl H12 hl bk S S.L.bk.length S.M.bk.length X oa dn td sh ps:=by rw[<- u12];exact U11.setD
  have k12:∀{x:Addr}{o:HO},H11 x=some o->(∀kvs,o≠.dK kvs)->H12 x=some o:=λe n=>by rw[<- u12,c7 (a7b e U11.b.d (n _))];exact e
  have e112:=k12 e111 λ_ z=>nomatch z;have e212:=k12 e211 λ_ z=>nomatch z;have eq12:=k12 eq λ_ z=>nomatch z;have rq12:=λi q o a b=>k12 (rq i q o a b) λ_ z=>nomatch z;ext;refine e7g ?_;refine a3f ?_;ext;refine⟨bk,.ref td,rfl,a8h U12.b.d rfl,?_⟩;refine c4h ?_;refine d5p ?_;ext;rw[List.length_map,lq];refine⟨_,rfl,?_⟩;obtain⟨ts,et,lt,rt⟩:=id U12.b.t;have bm:S.M.bk.length<=S.M.os.length:=by rw[okM.tk.bk,List.length_take];exact Nat.min_le_right _ _
  refine⟨td,_,rfl,SqL.of et,λc hc=>?_⟩;rw[e2k (by rw[List.length_map,lt];exact bm),<- List.map_take]
  generalize u13:upd H12 c _=H13;obtain⟨s13,e13⟩:=nwS u13 hc;have tc:TRw H13 c S.M.bk:=by
   have z:=TRw.cut (p:=c) lt (λi q o a b=>s13 _ _ (rt i q o a b)) e13;rw[<- okM.tk.bk] at z;exact z
  have tq:TRw H13 he S.M.bk:=⟨qs,s13 _ _ eq12,lq,λi q o a b=>s13 _ _ (rq12 i q o a b)⟩;refine c4i (d5w (g9 eq12 hc) tq tc) ?_;have U13:=U12.same s13;have eq13:=s13 _ _ eq12;ext;refine b9t (xs:=qs.map V.ref) (f:=λ_=>.bl true) (SqL.of eq13) (by rw[List.length_map,lq];lia) ⟨_,eq13⟩ ?_ (λD hD=>?_)
  ·intro i x H' kk hx sH q
   rw[List.getElem?_map] at hx;cases eqi:qs[i]? with
   | none=>rw[eqi] at hx;cases hx
   | some qi=>
    rw[eqi] at hx;cases hx;have hi:i<S.M.bk.length:=by rw[<- lq];exact(List.getElem?_eq_some_iff.mp eqi).1
    have ti:=s13 _ _ (rq12 i qi _ eqi (List.getElem?_eq_getElem hi));ext;exact e2e (.ty (.tup (sH _ _ ti))) rfl kt q
  generalize u14:upd H13 D _=H14;obtain⟨s14,e14⟩:=nwS u14 hD;ext;refine⟨D,(qs.map V.ref).map λ_=>true,rfl,SqL.of (by rw[List.map_map];exact e14),?_⟩
  rw[show((qs.map V.ref).map λ_=>true).all id=true by simp]
  have U14:=U13.same s14;have eq14:=s14 _ _ eq13;have e114:=s14 _ _ (s13 _ _ e112);have e214:=s14 _ _ (s13 _ _ e212);clear u14 e14 hD D tq tc u13 e13 s13 s14 eq13 U13 u12 k12 e112 e212 eq12 rq12 U12 e111 e211 tw10 tw11 U11 eq rq lt rt et hc eq0;obtain⟨dx14,la14,lb14,su14,fi14,ex14⟩:=U14.hp.ob;ext;refine⟨hl,S,rfl,U14.hp.all,λp15 hp15=>?_⟩;generalize u15:upd H14 p15 _=H15;obtain⟨s15,e15⟩:=nwS u15 hp15;have U15:=U14.same s15;have ex15:=s15 _ _ ex14;have f15:=U14.free hp15;ext;refine⟨hl,S,rfl,U15.hp.all,by lia,λp16 acc G8 H16 s16a h16 tp16=>?_⟩
  have s16:Same H15 H16:=λx u e=>tp16.2.1 _ _ (s16a _ _ e);have f16:=U15.free (v2 s16a h16);have e16:=tp16.1;have U16:=U15.same s16;ext;refine⟨(show 5<=sizeLine by decide),λp17 hp17=>?_⟩
  generalize u17:upd H16 p17 _=H17;obtain⟨s17,e17⟩:=nwS u17 hp17;have U17:=U16.same s17;have five:∀p∈[he,p1,p2,p15,p16],(¬ X p/\¬ BY bk oa dn td sh ps p)/\p≠p17/\∃ys,H17 p=some (.lst ys):=λp hp=>by
   have z:∀{p:Addr}{ys:List V},H16 p=some (.lst ys)->p≠p17/\∃ys,H17 p=some (.lst ys):=λe=>⟨g9 e hp17,_,s17 _ _ e⟩;simp only[List.mem_cons,List.not_mem_nil,or_false] at hp;rcases hp with rfl|rfl|rfl|rfl|rfl
   ·exact⟨f10,z (s16 _ _ (s15 _ _ eq14))⟩
   ·exact⟨f1,z (s16 _ _ (s15 _ _ e114))⟩
   ·exact⟨f2,z (s16 _ _ (s15 _ _ e214))⟩
   ·exact⟨f15,z (s16 _ _ e15)⟩
   ·exact⟨f16,z e16⟩
  ext;refine b7w (xs:=[.ref he,.ref p1,.ref p2,.ref p15,.ref p16]) (λi σ H'=>∃x6:Option V,σ=[some (.ref hl),some (.ref bk),some (.ref p1),some (.ref p2),some (.int S.L.bk.length),some (.ref he),x6]/\UR cl H' hl bk S S.L.bk.length S.M.bk.length X oa dn td sh ps/\H' p17=some (.lst [.ref he,.ref p1,.ref p2,.ref p15,.ref p16])/\∀p∈[he,p1,p2,p15,p16],∃ys,H' p=some (.lst ys)) ⟨_,rfl,U17,e17,λp hp=>(five p hp).2.2⟩ (λi σ H' _ h=>SqL.of h.choose_spec.2.2.1) ?_ ?_
  ·rintro i x σ Hc hx ⟨x6,rfl,Uc,ec,fc⟩
   obtain⟨q,hq,rfl⟩:∃q∈[he,p1,p2,p15,p16],x=.ref q:=by
    have hm:x∈[he,p1,p2,p15,p16].map V.ref:=List.mem_of_getElem? hx;obtain⟨q,a,b⟩:=List.mem_map.mp hm;exact⟨q,a,b.symm⟩
   obtain⟨ys,ey⟩:=fc q hq;obtain⟨⟨n1,n2⟩,n3,_⟩:=five q hq;ext;refine⟨_,rfl,Uc.updL ey n1 n2,(c7 (Ne.symm n3)).trans ec,λp hp=>?_⟩;by_cases z:p=q
   ·rw[z];exact⟨_,d7⟩
   ·obtain⟨zs,ez⟩:=fc p hp
    exact⟨zs,(c7 z).trans ez⟩
  ·rintro σ Hc ⟨x6,rfl,Uc,_,_⟩
   obtain⟨dx18,la18,lb18,su18,fi18,ex18⟩:=Uc.hp.ob;ext;refine⟨hl,S,rfl,Uc.hp.all,by lia,λp18 acc8 G9 H18 s18a h18 tp18=>?_⟩
   have s18:Same Hc H18:=λx u e=>tp18.2.1 _ _ (s18a _ _ e);have tw18:TRw H18 p18 S.M.bk:=tp18.rw;have U18:=Uc.same s18;obtain⟨q8,e8,l8,_⟩:=tw18;ext;rw[List.length_map,l8];refine a3f ?_;ext;refine⟨bk,.int S.M.bk.length,rfl,a8h U18.b.d rfl,?_⟩;ext;rw[show decide (V.int (S.M.bk.length:Int)=V.int S.M.bk.length)=true by simp]
   exact k _ U18
end
section
variable{cl:Cl}
theorem d7a(L:Ln):L.bk.length<=(tstep L).bk.length:=by
 unfold tstep b0z;cases L.ts <;> dsimp only <;> (repeat' split) <;> first|exact Nat.le_refl _|(rw[List.length_append];lia)
theorem b0a(b:Bool)(L:Ln):(b5b b L).n=L.n/\(b5b b L).os=L.os/\L.bk.length<=(b5b b L).bk.length:=by
 cases b
 ·exact⟨(a6r L).1,(a6r L).2.1,d7a L⟩
 ·exact⟨(a4y L).1,(a4y L).2.1,Nat.le_of_eq (congrArg List.length (a4y L).2.2.1).symm⟩
theorem b0p(b:Bool)(L:Ln):(c7n b L).n=L.n/\(c7n b L).os=L.os/\L.bk.length<=(c7n b L).bk.length:=by
 cases b <;> exact⟨rfl,rfl,Nat.le_refl _⟩
theorem d3o(b:Bool)(L:Ln)(tl:List Tr):(trB b L tl).length<=tl.length+1:=by
 unfold trB;split
 ·lia
 ·rw[List.length_append];exact Nat.le_refl _
structure HJ(S:HSt):Prop where
 hi:HI S
 ml:S.M.os.length=S.fin.length
 l:S.L.os.length<=40
structure HNx(S S':HSt):Prop where
 n:S'.L.n=S.L.n
 b:S.L.bk.length<=S'.L.bk.length
 m:S.M.bk.length<=S'.M.bk.length
 j:HJ S'
 tl:S'.tl.length<=S.tl.length+1
 tm:S'.tm.length<=S.tm.length+1
theorem HI.up{S S':HSt}(h:HI S)(e:S'.fin=S.fin)(l:S.L.bk.length<=S'.L.bk.length):HI S' :=
 ⟨by rw[e];exact h.nd,λx hx=>by
  rw[e] at hx;obtain⟨n,a,b⟩:=h.lt x hx;exact⟨n,a,Nat.lt_of_lt_of_le b l⟩⟩
theorem HNx.refl{S:HSt}(h:HJ S):HNx S S:=⟨rfl,Nat.le_refl _,Nat.le_refl _,h,Nat.le_succ _,Nat.le_succ _⟩
theorem HNx.step{S:HSt}(h:HJ S)(o b:Bool):HNx S (S.put o (b5b b (S.lane o)) (trB b (S.lane o) (S.trl o))):=by
 cases o
 ·obtain⟨k1,k2,k3⟩:=b0a b S.M
  exact⟨rfl,Nat.le_refl _,k3,⟨h.hi.up rfl (Nat.le_refl _),by show(b5b b S.M).os.length=_;rw[k2];exact h.ml,h.l⟩,Nat.le_succ _,d3o b S.M S.tm⟩
 ·obtain⟨k1,k2,k3⟩:=b0a b S.L
  exact⟨k1,k3,Nat.le_refl _,⟨h.hi.up rfl k3,h.ml,by show(b5b b S.L).os.length<=40;rw[k2];exact h.l⟩,d3o b S.L S.tl,Nat.le_succ _⟩
theorem HNx.fall{S:HSt}(h:HJ S)(b:Bool):HNx S (e5v b S):=by
 obtain⟨k1,k2,k3⟩:=b0p b S.L;obtain⟨m1,m2,m3⟩:=b0p (!b) S.M;exact⟨k1,k3,m3,⟨h.hi.up rfl k3,by show(c7n (!b) S.M).os.length=_;rw[m2];exact h.ml,by show(c7n b S.L).os.length<=40;rw[k2];exact h.l⟩,Nat.le_succ _,Nat.le_succ _⟩
theorem HNx.ask{S:HSt}{o:List Int}(h:HJ S)(l:S.L.os.length<40):HNx S (S.put true (a3w S.L o) S.tl) :=
 ⟨rfl,Nat.le_refl _,Nat.le_refl _,⟨h.hi.up rfl (Nat.le_refl _),h.ml,by show(S.L.os++[o]).length<=40;rw[List.length_append];exact l⟩,Nat.le_succ _,Nat.le_succ _⟩
theorem HNx.dos{S:HSt}{n j:Nat}(h:HJ S)(hw:(a2l S)[j]?=some (n:Int)):HNx S (doH S n) :=
 ⟨rfl,Nat.le_refl _,Nat.le_refl _,⟨h.hi.dos hw,by show(S.M.os++[_]).length=(S.fin++[_]).length;rw[List.length_append,List.length_append,h.ml];rfl,h.l⟩,Nat.le_succ _,Nat.le_succ _⟩
section
variable{H H1':Hp}{hl bk oa dn td sh p:Addr}{ps:List Addr}{S S':HSt}{tk hd:Nat}{X:Addr->Prop}
theorem BRel.re(h:BRel H bk oa dn td sh ps S tk hd)(e1:S'.L.os=S.L.os)(e2:S'.fin=S.fin)(e3:S'.M.os=S.M.os)(e4:S'.sm=S.sm):BRel H bk oa dn td sh ps S' tk hd:=h.keep (λ_ _ e _ _=>e) e1 e2 e3 e4
theorem c9q{F:Addr->Prop}{x:Addr}(h:b0n (rs F H) x):F x:=by
 obtain⟨o,e,f,n⟩:=h;have eH:=a7z e;by_cases z:F x
 ·exact z
 ·rw[a5l eH n (by rw[eH,f];exact λy=>y.elim z (λq=>by cases q))] at e
  cases e
def UZ(X:Addr->Prop)(bk oa dn td sh:Addr)(ps:List Addr)(x:Addr):Prop:=X x\/BY bk oa dn td sh ps x
theorem UR.part(W:Addr->Prop)(h:UR cl H hl bk S tk hd X oa dn td sh ps):∃X',UR cl (rs (λx=>UZ X bk oa dn td sh ps x\/W x) H) hl bk S tk hd X' oa dn td sh ps/\∀x,X' x->X x:=by
 obtain⟨X',d,hp⟩:=HP.of (H:=rs (λx=>UZ X bk oa dn td sh ps x\/W x) H) h.hp.hr (c2s λx hx=>.inl (.inl hx));have sub:∀x,X' x->X x:=λx hx=>c9q (d x hx);refine⟨X',⟨hp,h.b.keep (λx o e n hx=>a1v e (λa z=>by rw[z] at n;cases n) (hx.imp (λy=>.inl (.inr y)) λy=>by rw[e];exact y)) rfl rfl rfl rfl,λx hx=>h.sp x (sub x hx)⟩,sub⟩
theorem UR.left{Z:Addr->Prop}(r:UR cl H1' hl bk S tk hd X oa dn td sh ps)(ot:Out H1' (rs Z H) H){x:Addr}{o:HO}(e:H x=some o)(f:b0o (some o)=false)(n:∀a,o≠.own a)(nz:¬ Z x):jn H1' (rs Z H) H x=some o/\¬ UZ X bk oa dn td sh ps x:=by
 obtain⟨a,b⟩:=a0l ot e n f nz;exact⟨a,λz=>z.elim (λz=>b (r.hp.dom x z)) λz=>b (r.b.at z)⟩
end
end
section
variable{P:Program}{w:World}{K:Frag}{mg:Str->Option Value}{qb:Heap}{cl:Cl}
theorem e1o(x y:Int):decide (V.int x=V.int y)=decide (x=y):=by
 rw[decide_eq_decide];exact⟨V.int.inj,λz=>by rw[z]⟩
theorem UR.but{H H':Hp}{hl bk oa dn td sh wl:Addr}{ps:List Addr}{S:HSt}{tk hd:Nat}{X:Addr->Prop}(h:UR cl H hl bk S tk hd X oa dn td sh ps)(w1:Well H wl)(n:¬ UZ X bk oa dn td sh ps wl)(b:But wl H H'):UR cl H' hl bk S tk hd X oa dn td sh ps:=by
 obtain⟨_,_,_,e,_⟩:=w1;refine⟨h.hp.but e (λz=>n (.inl z)) b,h.b.keep (λx u e' _ hx=>b _ _ e' λz=>?_) rfl rfl rfl rfl,h.sp⟩;rw[z] at hx e';rcases hx with hx|hx
 ·exact n (.inr hx)
 ·rw[e] at e';cases e';cases hx
theorem BRel.addO{H:Hp}{bk oa dn td sh p:Addr}{ps:List Addr}{S:HSt}{tk hd:Nat}{o:List Int}(h:BRel H bk oa dn td sh ps S tk hd)(e:H p=some (.lst (o.map V.int)))(np:¬ BY bk oa dn td sh ps p):BRel (upd H oa (.lst (ps.map V.ref++[.ref p]))) bk oa dn td sh (ps++[p]) (S.put true (a3w S.L o) S.tl) tk hd:=by
 obtain⟨z1,z2,z3,z4,z5,z6,z7,z8,z9,z10⟩:=h.ne;have npo:p≠oa:=λz=>np (.inr (.inl (by rw[z];simp)))
 refine⟨(c7 z7).trans h.d,by rw[d7,List.map_append];rfl,?_,λi q x hq hx=>?_,(c7 (Ne.symm z1)).trans h.n,h.t.upd (Ne.symm z2) h.o,(c7 (Ne.symm z3)).trans h.s,h.nd,λx hx=>?_⟩
 ·show(ps++[p]).length=(S.L.os++[o]).length
  rw[List.length_append,List.length_append,h.ol];rfl
 ·have hx:(S.L.os++[o])[i]?=some x:=hx
  have hl:=h.ol;by_cases hi:i<ps.length
  ·rw[List.getElem?_append_left hi] at hq
   rw[List.getElem?_append_left ↑3] at hx;exact(c7 (h.nps hq).1).trans (h.oe i q x hq hx)
  ·rw[List.getElem?_append_right ↑3] at hq
   rw[List.getElem?_append_right ↑3] at hx;have h1:i-ps.length<1:=(List.getElem?_eq_some_iff.mp hq).1;rw[show i-ps.length=0 by lia] at hq
   rw[show i-S.L.os.length=0 by lia] at hx
   cases hq;cases hx;exact(c7 npo).trans e
 ·rcases List.mem_append.mp hx with hx|hx
  ·exact h.np x hx
  ·rw[List.mem_singleton.mp hx]
   exact λz=>np (.inr (.inl z))
theorem e2m{H H1':Hp}{hl bk oa dn td sh:Addr}{ps:List Addr}{S S':HSt}{tk hd:Nat}{X:Addr->Prop}(dom:∀x,X x->b0n H x)(h:BRel H bk oa dn td sh ps S tk hd)(sp:∀x,X x->¬ BY bk oa dn td sh ps x)(ot:Out H1' (rs X H) H)(r:HR cl H1' hl S'):∃X',HP cl (jn H1' (rs X H) H) X' hl S'/\BRel (jn H1' (rs X H) H) bk oa dn td sh ps S tk hd/\(∀x,X' x->¬ BY bk oa dn td sh ps x)/\KX X H X' (jn H1' (rs X H) H):=by
 obtain⟨X',p,kx⟩:=HP.call ot r;refine⟨X',p,h.keep (λx o e n hx=>?_) rfl rfl rfl rfl,λx hx y=>?_,kx⟩
 ·by_cases z:X x
  ·rcases hx with hx|hx
   ·exact absurd hx (sp x z)
   ·obtain⟨u,eu,f,_⟩:=dom x z
    rw[e] at eu;cases eu;rw[hx] at f;cases f
  ·exact(kx x o e n z).1
 ·obtain⟨o,e,f,nw⟩:=h.at y
  refine (kx x o e ?_ λz=>sp x z y).2 hx;cases o with
  | own a=>exact absurd rfl (nw a)
  | tbl ps=>cases f
  | _=>rfl
def b1l(cl:Cl):Sp:=λvs H Q _=>∃(hl bk:Addr)(S:HSt)(tk hd:Nat)(X:Addr->Prop)(oa dn td sh:Addr)(ps:List Addr)(mv:Int)(wl:Addr),vs=[.ref hl,.ref bk,.int mv,.ref wl,.int S.L.n]/\UR cl H hl bk S tk hd X oa dn td sh ps/\Well H wl/\¬ UZ X bk oa dn td sh ps wl/\HJ S/\0<=mv/\mv<=8/\S.L.n<=8/\S.tl.length<=4000/\S.tm.length<=4000/\∀H' S' X' ps',UR cl H' hl bk S' tk hd X' oa dn td sh ps'->Well H' wl->¬ UZ X' bk oa dn td sh ps' wl->HNx S S'->Q (.bl true) H'
abbrev b5p:Stmt:=top 118
theorem b8e:g7 ["hall","books","move","well","size","order"] ["hall","books","move","well","size"] (d8 b5p):=↑1
theorem c9a(D:DefT K mg "_law_move" b5p ["hall","books","move","well","size"])(T:Txt K mg cl)(G_law_hands:FnT P w K mg qb "_law_hands" 1 [] a8m)(G_law_take:qaf P w K mg qb)(G_law_order:FnT P w K mg qb "_law_order" 2 ["well","size"] b6p)(GS:MethT P w K mg qb cl.Hall "step" 11 ["self","hand"] (frS (b6w cl)))(GF:MethT P w K mg qb cl.Hall "fall" 7 ["self","side"] (frS (b6x cl)))(G_Hall_ask:MethT P w K mg qb cl.Hall "ask" 4 ["self","order"] (frS (b8b cl)))(G_Hall_waiting:qat P w K mg qb cl)(G_law_do:FnT P w K mg qb "_law_do" 6 ["hall","books","place"] (frS (c4x cl))):FnT P w K mg qb "_law_move" 12 ["hall","books","move","well","size"] (b1l cl):=by
 refine D.fn b8e ↑5 ↑2
 ·fail "l"
 ·obtain⟨hl,bk,S,tk,hd,X,oa,dn,td,sh,ps,mv,wl,rfl,hU,hw,nw,hJ,mv0,mv8,n8,t1,t2,k⟩:=h
  refine⟨_,(
        d5 (a0s (k8 b2w (pv 2) i8 (n9 _))
     (d9 (j9 (b8z (k:=11) (pv 0) hr ↑6 i4 (a7 (v4 (j4 (K:=K)) (d0q G_law_hands hr ↑6 rfl i4) (pv 2) (λ_ _=>rfl)) d6))))
     (d9 (a0s (k8 b2w (pv 2) i8 (n9 _))
      (d9 (j9 (b8z (k:=7) (pv 0) hr ↑6 i4 (a7 (v4 (j4 (K:=K)) (t7 (a7 k0 (a7 k0 d6))) (o8 b1g (pv 2) i8) (λ_ _=>rfl)) d6))))
      (d9 (a0s (PW.pt (d0n (k8 a8a (pv 2) i8 (n9 _)) (c2v (k8 b2w (l7 (n5 (K:=K)) (by rfl) T.z_len PySem.boot_len (a7 (a0u (huN hr 1) (pv 1) k0 (λ_ _=>rfl)) d6)) i8 (n9 _)))))
        (
        d5 (n6 (i:=5) b8e.nd rfl (.inl rfl) (k7 G_law_order hr ↑6 rfl i4 (a7 (pv 3) (a7 (pv 4) d6))))
        (d5 (j9 (a0o (K:=K) (a0u (huN hr 1) (pv 1) k0 (λ_ _=>rfl)) (a7 (pv 5) d6)))
        (d9 (j1 (a3t a8a (a1f (pv 0) T.k_Hall G_Hall_ask hr ↑6 i4 (a7 (a2y (a7e (K:=K)) (by rfl) T.z_list PyProof.Rows.boot_list (a7 (pv 5) d6)) d6)) (o8 b1g (l7 (n5 (K:=K)) (by rfl) T.z_len PySem.boot_len (a7 (a0u (huN hr 1) (pv 1) k0 (λ_ _=>rfl)) d6)) i8) (n9 _))))))
        (d9 (a0s (PW.pt (d0n (k8 c6b (pv 2) i8 (n9 _)) (c2v (k8 (b7c (K:=K) (n:=0) (huN hr 1)) (a0m (pv 0) T.k_Hall G_Hall_waiting hr ↑6 i4) (t7 d6) (n9 _)))))
         (d9 (j1 (k7 G_law_do hr ↑6 rfl i4 (a7 (pv 0) (a7 (pv 1) (a7 (k7 G_law_take hr ↑6 rfl i4 (a7 (pv 3) (a7 (l7 (n5 (K:=K)) (by rfl) T.z_len PySem.boot_len (a7 (a0m (pv 0) T.k_Hall G_Hall_waiting hr ↑6 i4) d6)) d6))) d6))))))
         v3)))))))
   (d9 (j1 a9s))),?_⟩
  have h60:6000<=sizeLine:=by decide
  obtain⟨okL,okM,four⟩:=hU.hp.ok;have wl':=c1k hJ.hi;have bl:S.L.bk.length<=S.L.os.length:=okL.tk.bl;have h40:=hJ.l;have hml:=hJ.ml;obtain⟨dx,la,lb,su,fi,ex⟩:=hU.hp.ob;have h45:∀o,(S.lane o).os.length<=400/\(S.trl o).length<=4000000:=λo=>by
   cases o
   ·show S.M.os.length<=400/\S.tm.length<=4000000
    lia
   ·show S.L.os.length<=400/\S.tl.length<=4000000
    lia
  have fin:∀{H1 H3:Hp}{X':Addr->Prop}{S':HSt},Same H H1->HP cl H3 X' hl S'->BRel H3 bk oa dn td sh ps S tk hd->(∀x,X' x->¬ BY bk oa dn td sh ps x)->KX X H1 X' H3->S'.L.os=S.L.os->S'.fin=S.fin->S'.M.os=S.M.os->S'.sm=S.sm->HNx S S'->Q (.bl true) H3:=λ{H1 H3 X' S'} s1 p2 b2 sp2 kx a1 a2 a3 a4 nx=>by
   obtain⟨x,y,z,ew,l1,l2⟩:=hw;obtain⟨e3,nx3⟩:=kx _ _ (s1 _ _ ew) rfl λz=>nw (.inl z);exact k H3 S' X' ps ⟨p2,b2.re a1 a2 a3 a4,sp2⟩ ⟨x,y,z,e3,l1,l2⟩ (λz=>z.elim nx3 λz=>nw (.inr z)) nx
  ext;refine a3b (λy=>?_) (λy1=>?_)
  ·ext
   refine c4j ?_;ext;refine⟨hl,cl.Hall,dx,_,_,_,rfl,ex,rfl,T.k_Hall,GS,?_⟩;ext;refine⟨rfl,λp hp=>?_⟩;generalize u1:upd H p _=H1;obtain⟨s1,e1⟩:=nwS u1 hp;have U1:=hU.same s1;ext;obtain⟨nm,o,b,hat,hz⟩:∃(nm:Str)(o b:Bool),atI [V.str "asker",V.str "doer",V.str "teller",V.str "hearer"] mv=some (V.str nm)/\HHn o b nm:=by
    have cr:mv=0\/mv=1\/mv=2\/mv=3:=by lia
    rcases cr with rfl|rfl|rfl|rfl
    ·exact⟨_,true,true,rfl,.inl ⟨rfl,rfl,rfl⟩⟩
    ·exact⟨_,true,false,rfl,.inr (.inl ⟨rfl,rfl,rfl⟩)⟩
    ·exact⟨_,false,true,rfl,.inr (.inr (.inl ⟨rfl,rfl,rfl⟩))⟩
    ·exact⟨_,false,false,rfl,.inr (.inr (.inr ⟨rfl,rfl,rfl⟩))⟩
   refine a0w e1 hat ?_;ext;refine⟨rs X H1,a4d X H1,hl,S,nm,rfl,U1.hp.hr,h45,λo' b' hz' H2 r ot=>?_,λz=>absurd hz (z _ _)⟩;obtain⟨rfl,rfl⟩:=hz.uq hz';obtain⟨X',p2,b2,sp2,kx⟩:=U1.call ot r;generalize jn H2 (rs X H1) H1=H3 at *;ext;have q:=HNx.step hJ o' b';cases o'
   ·exact fin s1 p2 b2 sp2 kx rfl rfl (b0a b' S.M).2.1 rfl q
   ·exact fin s1 p2 b2 sp2 kx (b0a b' S.L).2.1 rfl rfl rfl q
  ext;refine a3b (λy=>?_) (λy2=>?_)
  ·ext
   refine c4j ?_;ext;refine⟨hl,cl.Hall,dx,_,_,_,rfl,ex,rfl,T.k_Hall,GF,?_⟩;ext;refine⟨(show 2<=sizeLine by decide),λp hp=>?_⟩
   generalize u1:upd H p _=H1;obtain⟨s1,e1⟩:=nwS u1 hp;have U1:=hU.same s1;ext;obtain⟨nm,b,hat,hz⟩:∃(nm:Str)(b:Bool),atI [V.str "house",V.str "shop"] (mv-4)=some (V.str nm)/\SdN b nm:=by
    have cr:mv=4\/mv=5:=by lia
    rcases cr with rfl|rfl
    ·exact⟨_,true,rfl,.inl ⟨rfl,rfl⟩⟩
    ·exact⟨_,false,rfl,.inr ⟨rfl,rfl⟩⟩
   refine a0w e1 hat ?_;ext;refine⟨rs X H1,a4d X H1,hl,S,nm,rfl,U1.hp.hr,by lia,by lia,λb' hz' H2 r ot=>?_,λz=>absurd hz (z _)⟩
   obtain⟨X',p2,b2,sp2,kx⟩:=U1.call ot r;generalize jn H2 (rs X H1) H1=H3 at *;ext;exact fin s1 p2 b2 sp2 kx (b0p b' S.L).2.1 rfl (b0p (!b') S.M).2.1 rfl (HNx.fall hJ b')
  ext;rw[e1o];by_cases h6:mv=6
  ·subst h6
   refine a3b (λ_=>?_) (λz=>absurd rfl z);ext;refine a3f ?_;ext;refine⟨bk,.ref oa,rfl,a8h hU.b.d rfl,?_⟩;have eo:=hU.b.o;ext;rw[List.length_map,hU.b.ol];refine a3b (λy3=>?_) (λy3=>?_)
   ·ext
    refine⟨wl,S.L.n,rfl,hw,by have:=okL.core.n2;lia,by lia,λp H1 row hp ep l1 ln _ w1 b1=>?_⟩
    have U1:=hU.but hw nw b1;have fp:=hU.free hp;ext;refine a3f ?_;ext;refine⟨bk,.ref oa,rfl,a8h U1.b.d rfl,?_⟩;have eo1:=U1.b.o;ext;refine c4k eo1 (by rw[List.length_map,U1.b.ol];lia) ?_
    have b2:=U1.b.addO ep fp.2;have p2:=U1.hp.but eo1 (λz=>U1.sp _ z (.inr (.inl (by simp)))) (But.upd (o:=.lst (ps.map V.ref++[.ref p])))
    have npo:p≠oa:=λz=>fp.2 (.inr (.inl (by rw[z];simp)))
    have nwo:wl≠oa:=λz=>nw (.inr (.inr (.inl (by rw[z];simp))))
    have ep2:upd H1 oa (.lst (ps.map V.ref++[.ref p])) p=some (.lst (row.map V.int)):=(c7 npo).trans ep;obtain⟨x1,x2,x3,ew,lw⟩:=w1;have ew2:upd H1 oa (.lst (ps.map V.ref++[.ref p])) wl=some (.lst [.int x1,.int x2,.int x3]):=(c7 nwo).trans ew;have nwp:wl≠p:=Ne.symm (hw.ne hp);generalize upd H1 oa _=H2 at *;obtain⟨dx2,la2,lb2,su2,fi2,ex2⟩:=p2.ob;ext;intro c hc;generalize u3:upd H2 c _=H3;obtain⟨s3,e3⟩:=nwS u3 hc;have p3:=p2.same s3;have b3:=b2.same s3;have nXc:=p2.no hc;have nBc:¬ BY bk oa dn td sh (ps++[p]) c:=λz=>by
     obtain⟨o,e,_⟩:=b2.at z;rw[hc] at e;cases e
    have spX:∀x,X x->¬ BY bk oa dn td sh (ps++[p]) x:=λx hx y=>by
     rcases y with y|y|y
     ·exact U1.sp x hx (.inl y)
     ·exact U1.sp x hx (.inr (.inl y))
     ·rcases List.mem_append.mp y with y|y
      ·exact U1.sp x hx (.inr (.inr y))
      ·rw[List.mem_singleton.mp y] at hx;exact fp.1 hx
    ext;refine⟨rs (λz=>X z\/z=c) H3,a4d _ H3,hl,c,S,row,rs X H3,rfl,p3.hr,c2s λ_ z=>.inl z,a5l e3 (λ_ z=>nomatch z) (by rw[e3];exact λz=>z.elim nXc λq=>nomatch q),a1v e3 (λ_ z=>nomatch z) (.inl (.inr rfl)),l1,by lia,by lia,λH4 r ot=>?_⟩
    obtain⟨X',p4,b4,sp4,kx⟩:=e2m (λx hx=>hx.elim (p3.dom x) λz=>z ▸ ⟨_,e3,rfl,λ_ z=>nomatch z⟩) b3 (λx hx=>hx.elim (spX x) λz=>z ▸ nBc) ot r;have wc:wl≠c:=λz=>by rw[z,hc] at ew2;cases ew2
    obtain⟨ew4,nx4⟩:=kx _ _ (s3 _ _ ew2) rfl λz=>z.elim (λz=>nw (.inl z)) wc;generalize jn H4 _ H3=H5 at *;ext;refine a3f ?_;ext;refine⟨bk,.ref oa,rfl,a8h b4.d rfl,?_⟩;have eo4:=b4.o;ext;rw[show((List.map V.ref (ps++[p])).length:Int)-1=(S.L.os.length:Int) from by rw[List.length_map,List.length_append,hU.b.ol];show((S.L.os.length+1:Nat):Int)-1=_;lia,show decide (V.int (S.L.os.length:Int)=V.int S.L.os.length)=true by simp]
    refine k H5 _ X' (ps++[p]) ⟨p4,b4,sp4⟩ ⟨x1,x2,x3,ew4,lw⟩ (λz=>?_) (HNx.ask hJ ↑3);rcases z with z|z|z|z
    ·exact nx4 z
    ·exact nw (.inr (.inl z))
    ·exact nw (.inr (.inr (.inl z)))
    ·rcases List.mem_append.mp z with z|z
     ·exact nw (.inr (.inr (.inr z)))
     ·exact nwp (List.mem_singleton.mp z)
   ·ext
    refine a3b (λz=>absurd z ↑6) (λ_=>?_);ext;exact k H S X ps hU hw nw (HNx.refl hJ)
  refine a3b (λz=>absurd z h6) (λ_=>?_);ext;refine a3b (λ_=>?_) (λz=>absurd (show 6<mv by lia) z)
  ext;refine⟨hl,S,rfl,hU.hp.all,by lia,λp1 H1 hp1 s1 e1=>?_⟩
  ext;refine⟨Nat.zero_le _,λl hll=>?_⟩;have ne:=g9 e1 hll;generalize u2:upd H1 l _=H2;obtain⟨s2,el⟩:=nwS u2 hll;have e2:=s2 _ _ e1;have U2:=(hU.same s1).same s2;have w2:=(hw.same s1).same s2;have ex2:=s2 _ _ (s1 _ _ ex);cases hwl:a2l S with
  | nil=>
   rw[hwl] at e2;refine c4i (d5x (ns:=[]) ne e2 el) ?_;ext;exact k H2 S X ps U2 w2 nw (HNx.refl hJ)
  | cons y ys=>
   have hq:EqD K H2 1 (.ref p1) (.ref l) false:=by
    rw[hwl] at e2;exact EqD.lstN ne (SqL.of e2) (SqL.of el) (by simp)
   refine c4i hq ?_;have hl1:1<=(a2l S).length:=by rw[hwl];exact Nat.le_add_left 1 _
   ext;refine⟨hl,S,rfl,U2.hp.all,by lia,λp3 H3 hp3 s3 e3=>?_⟩
   have U3:=U2.same s3;ext;rw[List.length_map];refine⟨wl,((a2l S).length:Int),rfl,w2.same s3,by lia,by lia,λr H4 r0 r1 w4 b4=>?_⟩
   have U4:=U3.but (w2.same s3) nw b4;obtain⟨nn,enn⟩:∃nn:Nat,(a2l S)[r.toNat]?=some (nn:Int):=by
    have z:(a2l S)[r.toNat]?=some _:=List.getElem?_eq_getElem ↑3;obtain⟨nn,e,_⟩:=b7n z;exact⟨nn,by rw[z,e]⟩
   ext;obtain⟨X4,V4,_⟩:=U4.part λ_=>False;refine⟨rs (λx=>UZ X bk oa dn td sh ps x\/False) H4,a4d _ H4,hl,bk,S,tk,hd,X4,oa,dn,td,sh,ps,r,nn,rfl,V4,⟨by lia,by lia,by lia⟩,r0,enn,λH5 X5 U5 ot=>?_⟩
   obtain⟨x1,x2,x3,ew,lw⟩:=w4;obtain⟨ew5,nw5⟩:=U5.left ot ew rfl (λ_ z=>nomatch z) λz=>z.elim nw id;exact k _ _ X5 ps (U5.same λ_ _ e=>a0p e) ⟨x1,x2,x3,ew5,lw⟩ nw5 (HNx.dos hJ enn)
end
end
section
variable{P:Program}{w:World}{K:Frag}{mg:Str->Option Value}{qb:Heap}{cl:Cl}
theorem e6u{α:Type}{ns:List α}{Pr:α->Prop}(h:∀v∈ns,Pr v){r:Int}(h0:0<=r)(h1:r<ns.length):∃v,atI ns r=some v/\Pr v:=by
 have hr:r.toNat<ns.length:=by lia
 refine⟨ns[r.toNat],?_,h _ (List.getElem_mem hr)⟩;unfold atI;have e:=e4o hr;rw[show((r.toNat:Nat):Int)=r by lia] at e
 rw[e];exact List.getElem?_eq_getElem hr
theorem e3x{ps:List Addr}{Pr:Addr->Prop}(h:∀v∈ps,Pr v){r:Int}(h0:0<=r)(h1:r<ps.length):∃v,atI (ps.map V.ref) r=some (.ref v)/\v∈ps/\Pr v:=by
 obtain⟨v,e,x,hx,rfl⟩:=e6u (ns:=ps.map V.ref) (Pr:=λv=>∃x,x∈ps/\V.ref x=v) (λv hv=>List.mem_map.mp hv) h0 (by rw[List.length_map];exact h1)
 exact⟨x,e,hx,h x hx⟩
theorem c9v{lo:Int}{n:Nat}{nt:Nat}{fr:List Nat}{g:TG}{te:TE}{σ:St}{H:Hp}{Q:Addr->Hp->Prop}(hz:n<sizeLine)(Pv:Addr->Nat->List V->Hp->Prop)(h0:∀D,H D=none->Pv D 0 [] (upd H D (.lst [])))(hk:∀D i acc H',Pv D i acc H'->H' D=some (.lst acc)/\acc.length=i)(hs:∀D i acc H',H D=none->i<n->Pv D i acc H'->g (.int (lo+(i:Int))) (a1h nt fr σ) H' λσ2 H2=>te σ2 H2 λy H3=>H3 D=some (.lst acc)/\Pv D (i+1) (acc++[y]) (upd H3 D (.lst (acc++[y]))))(hd:∀D acc H',H D=none->Pv D n acc H'->Q D H'):
  ∀D,H D=none->∃(m:Nat)(W:Nat->List V->Hp->Prop),W 0 [] (upd H D (.lst []))/\∀i acc H',W i acc H'->H' D=some (.lst acc)/\acc.length<sizeLine /\
   (((Itr lo n).stop i H'/\Q D H')\/(i<m/\(Itr lo n).go i H'/\∀x H2,(Itr lo n).yld i H' x H2->g x (a1h nt fr σ) H2 λσ2 H3=>te σ2 H3 λy H4=>H4 D=some (.lst acc)/\W (i+1) (acc++[y]) (upd H4 D (.lst (acc++[y]))))):=by
 intro D hD;refine⟨n,λi acc H'=>i<=n/\Pv D i acc H',⟨Nat.zero_le _,h0 D hD⟩,?_⟩;rintro i acc H' ⟨hi,p⟩;obtain⟨k1,k2⟩:=hk D i acc H' p;refine⟨k1,by lia,?_⟩
 by_cases h:i<n
 ·refine .inr ⟨h,h,?_⟩
  rintro x H2 ⟨rfl,rfl⟩;have key:=hs D i acc _ hD h p;have e:(λ(σ2:St) (H2:Hp)=>te σ2 H2 λy H3=>H3 D=some (.lst acc)/\Pv D (i+1) (acc++[y]) (upd H3 D (.lst (acc++[y]))))=(λ(σ2:St) (H3:Hp)=>te σ2 H3 λy H4=>H4 D=some (.lst acc)/\i+1<=n/\Pv D (i+1) (acc++[y]) (upd H4 D (.lst (acc++[y])))):=by
   funext σ2 H3;have:(λ(y:V) (H3:Hp)=>H3 D=some (.lst acc)/\Pv D (i+1) (acc++[y]) (upd H3 D (.lst (acc++[y]))))=(λ(y:V) (H4:Hp)=>H4 D=some (.lst acc)/\i+1<=n/\Pv D (i+1) (acc++[y]) (upd H4 D (.lst (acc++[y])))):=by
    funext y H4;have h1:i+1<=n:=h;simp[h1]
   rw[this]
  rw[e] at key;exact key
 ·have e:i=n:=by lia
  subst e;exact .inl ⟨Nat.le_refl _,hd D acc H' hD p⟩
structure Wells(H0 H:Hp)(wl:Addr)(ws:List Addr):Prop where
 at':H wl=some (.lst (ws.map V.ref))
 same:Same H0 H
 new:H0 wl=none
 each:∀w∈ws,H0 w=none/\w≠wl/\Well H w
theorem Wells.take{H0 H H':Hp}{wl w:Addr}{ws:List Addr}(h:Wells H0 H wl ws)(hw:w∈ws)(w':Well H' w)(b:But w H H'):Wells H0 H' wl ws:=by
 obtain⟨n0,n1,_⟩:=h.each w hw;refine⟨b _ _ h.at' n1.symm,d7p h.same n0 b,h.new,λv hv=>?_⟩;obtain⟨m0,m1,m2⟩:=h.each v hv;refine⟨m0,m1,?_⟩;by_cases z:v=w
 ·subst z;exact w'
 ·obtain⟨a,c,p,e,r⟩:=m2
  exact⟨a,c,p,b _ _ e z,r⟩
theorem Wells.nw{H0 H:Hp}{wl p:Addr}{ws:List Addr}{o:HO}(h:Wells H0 H wl ws)(n:H p=none):Wells H0 (upd H p o) wl ws :=
 ⟨i9 n _ _ h.at',h.same.trans (i9 n),h.new,λv hv=>⟨(h.each v hv).1,(h.each v hv).2.1,(h.each v hv).2.2.same (i9 n)⟩⟩
theorem Wells.set{H0 H:Hp}{wl p:Addr}{ws:List Addr}{o:HO}(h:Wells H0 H wl ws)(n0:H0 p=none)(n:p≠wl)(ne:∀w∈ws,p≠w):Wells H0 (upd H p o) wl ws:=by
 refine⟨(c7 n.symm).trans h.at',h.same.set n0,h.new,λv hv=>⟨(h.each v hv).1,(h.each v hv).2.1,?_⟩⟩;obtain⟨a,c,q,e,r⟩:=(h.each v hv).2.2;exact⟨a,c,q,(c7 (ne v hv).symm).trans e,r⟩
theorem Wells.away{H0 H:Hp}{wl p:Addr}{ws:List Addr}(h:Wells H0 H wl ws)(n:H p=none):H0 p=none/\p≠wl/\∀w∈ws,p≠w:=by
 refine⟨h.same.free n,(g9 h.at' n).symm,λw hw=>(h.each w hw).2.2.ne n⟩
def b6q(K:Frag):Sp:=λvs H Q _=>∃(c:Addr)(ns:List Int)(first most:Nat),vs=[.ref c,.int (first:Int),.int (most:Int)]/\SqL K H c (ns.map V.int)/\ns.length<=63/\first<=10/\most<=1000 /\
 ∀(p:Addr)(H':Hp)(row:List Int),H p=none->H' p=some (.lst (row.map V.int))->Same H H'->row.length<=most->(∀x∈row,0<=x/\x<=8)->Q (.ref p) H'
theorem e9e{f a:Nat}(ha:a<=63)(hf:f<=10):∃m:Nat,1<=m/\m<=63/\(if (if (a:Int)<63 then (a:Int) else 63) > (f:Int)+1 then (if (a:Int)<63 then (a:Int) else 63) else (f:Int)+1)=f+m:=by
 by_cases h:(a:Int)<63
 ·rw[if_pos h]
  by_cases g:(a:Int) > f+1
  ·exact⟨a-f,by lia,by lia,by rw[if_pos g];lia⟩
  ·exact⟨1,by lia,by lia,by rw[if_neg g];lia⟩
 ·rw[if_neg h]
  by_cases g:(63:Int) > f+1
  ·exact⟨63-f,by lia,by lia,by rw[if_pos g];lia⟩
  ·exact⟨1,by lia,by lia,by rw[if_neg g];lia⟩
abbrev b2b:Stmt:=top 114
theorem t8:g7 ["script","first","most","wells","own","lean","rare","many","moves","stretch","who","k","well","way"] ["script","first","most"] (d8 b2b):=↑1
theorem c6k(D:DefT K mg "_law_moves" b2b ["script","first","most"])(T:Txt K mg cl)(G_law_take:qaf P w K mg qb)(G_law_well:FnT P w K mg qb "_law_well" 1 ["script","k"] (b1k K)):FnT P w K mg qb "_law_moves" 2 ["script","first","most"] (b6q K):=by
 refine D.fn t8 ↑5 ↑8
 ·fail "l"
 ·obtain⟨c,ns,first,most,rfl,hc,hn,f10,m1000,k⟩:=h
  refine⟨_,(
        d5 (c0z (ix:=3) (N:=["k","script"]) (nt:=1) (fr:=[0]) rfl (b7x (i:=0) rfl rfl (by decide +kernel) (by decide +kernel) rfl rfl rfl rfl rfl rfl rfl) (d4i rfl T.z_range (a7 (pv 1) (a7 (l7 (d6j rfl) (by rfl) T.z_max PyProof.Rows.boot_max (a7 (o8 a1b (pv 1) i8) (a7 (l7 (d6i rfl) (by rfl) T.z_min PyProof.Rows.boot_min (a7 i8 (a7 (l7 (n5 (K:=K)) (by rfl) T.z_len PySem.boot_len (a7 (pv 0) d6)) d6))) d6))) d6))) (a6p ↑6) (λ_ _ _ _ _=>y7 (i:=0) (show(["k","script"]:List Str).Nodup by decide +kernel) rfl (Or.inl rfl) (Or.inr rfl)) (λ_ _ _ _ _=>(k7 G_law_well hr ↑6 rfl d2h (a7 (pv 1) (a7 (pv 0) d6)))) t8.nd rfl rfl)
   (d5 (n6 (i:=4) t8.nd rfl (.inl rfl) (v4 (j4 (K:=K)) (pv 3) i8 (λ_ _=>rfl)))
   (d5 (n6 (i:=5) t8.nd rfl (.inl rfl) (k7 G_law_take hr ↑6 rfl i4 (a7 (pv 4) (a7 i8 d6))))
   (d5 (n6 (i:=6) t8.nd rfl (.inl rfl) (v4 (j4 (K:=K)) (t7 (a7 i8 (a7 i8 (a7 i8 d6)))) (k7 G_law_take hr ↑6 rfl i4 (a7 (pv 4) (a7 i8 d6))) (λ_ _=>rfl)))
   (d5 (n6 (i:=7) t8.nd rfl (.inl rfl) (v4 (j4 (K:=K)) (t7 (a7 (k7 G_law_take hr ↑6 rfl i4 (a7 (pv 4) (a7 (o8 a1b (pv 2) i8) d6))) (a7 (pv 2) d6))) (k7 G_law_take hr ↑6 rfl i4 (a7 (pv 4) (a7 i8 d6))) (λ_ _=>rfl)))
   (d5 (n6 (i:=8) t8.nd rfl (.inl rfl) (t7 d6))
   (d5 (n6 (i:=9) t8.nd rfl (.inl rfl) i8)
   (d5 (n6 (i:=10) t8.nd rfl (.inl rfl) i8)
   (d5 (
         b4i a3u rfl (b4j rfl T.z_range (a7 (pv 7) d6)) (y7 (i:=11) t8.nd rfl (.inl rfl))
     (
     d5 (n6 (i:=12) t8.nd rfl (.inl rfl) (v4 (j4 (K:=K)) (pv 3) (o8 a5n (pv 11) (l7 (n5 (K:=K)) (by rfl) T.z_len PySem.boot_len (a7 (pv 3) d6))) (λ_ _=>rfl)))
     (d5 (n6 (i:=13) t8.nd rfl (.inl rfl) (k7 G_law_take hr ↑6 rfl i4 (a7 (pv 12) (a7 (pv 6) d6))))
     (d9 (a0s (k8 b2w (pv 13) i8 (n9 _))
      (d9 (j9 (a0o (K:=K) (pv 8) (a7 (o8 a1b i8 (pv 13)) d6))))
      (
       d5 (a0s (k8 a8a (pv 9) i8 (n9 _))
        (
         d5 (n6 (i:=10) t8.nd rfl (.inl rfl) (k7 G_law_take hr ↑6 rfl i4 (a7 (pv 12) (a7 i8 d6))))
         (d9 (n6 (i:=9) t8.nd rfl (.inl rfl) (o8 a1b i8 (k7 G_law_take hr ↑6 rfl i4 (a7 (pv 12) (a7 (v4 (j4 (K:=K)) (t7 (a7 i8 (a7 i8 (a7 i8 (a7 i8 d6))))) (pv 5) (λ_ _=>rfl)) d6)))))))
        v3)
       (d5 (n6 (i:=9) t8.nd rfl (.inl rfl) (o8 b1g (pv 9) i8))
       (d9 (j9 (a0o (K:=K) (pv 8) (a7 (pv 10) d6)))))))))))
   (d9 (j1 (pv 8)))))))))))),?_⟩
  have h20:2000<=sizeLine:=by decide
  ext;refine⟨c,_,rfl,.inl hc,?_⟩;ext;refine⟨_,_,rfl,?_⟩;ext;refine⟨_,_,rfl,?_⟩;ext;obtain⟨m,m1,m63,em⟩:=e9e (f:=first) (a:=(ns.map V.int).length) (by rw[List.length_map];exact hn) f10
  rw[em];refine⟨(first:Int),_,rfl,⟨by lia,by lia,by lia,by lia⟩,?_⟩
  rw[show((first:Int)+m-first).toNat=m by lia]
  refine c9v (lo:=(first:Int)) (n:=m) ↑3 (λD i acc H'=>∃ws:List Addr,acc=ws.map V.ref/\ws.length=i/\H D=none/\Wells H H' D ws) (λD hD=>⟨[],rfl,rfl,hD,d7,i9 hD,hD,by simp⟩) ?_ ?_ ?_
  ·rintro D i acc H' ⟨ws,rfl,hl,hD,hw⟩
   exact⟨hw.at',by rw[List.length_map];exact hl⟩
  ·rintro D i acc H' _ hi ⟨ws,rfl,hl,hD,hw⟩
   ext;refine⟨c,ns,first+i,by simp,hw.same.seq hc,by lia,λw1 H2 n1 s2 ww=>?_⟩
   have av:=hw.away n1;refine⟨s2 _ _ hw.at',ws++[w1],by rw[List.map_append];rfl,by rw[List.length_append];show ws.length+1=_;lia,hD,?_⟩
   refine⟨by rw[d7,List.map_append];rfl,(hw.same.trans s2).set hD,hD,λv hv=>?_⟩
   have key:∀v,v≠D->Well H2 v->Well (upd H2 D (.lst (ws.map V.ref++[V.ref w1]))) v:=by
    rintro v nv ⟨a,b,pr,e,r⟩;exact⟨a,b,pr,(c7 nv).trans e,r⟩
   rcases List.mem_append.mp hv with h|h
   ·obtain⟨e1,e2,e3⟩:=hw.each v h
    exact⟨e1,e2,key v e2 (e3.same s2)⟩
   ·rw[List.mem_singleton.mp h]
    exact⟨av.1,av.2.1,key w1 av.2.1 ww⟩
  ·rintro wl acc H1 hD ⟨ws,rfl,hl,_,hw⟩
   have hpos:0<ws.length:=by lia
   obtain⟨own,howA,how,_⟩:=e3x (ps:=ws) (Pr:=λ_=>True) (λ_ _=>trivial) (r:=0) ↑3 ↑3;ext;refine a0w hw.at' howA ?_;ext;refine⟨own,4,rfl,(hw.each own how).2.2,by decide,by decide,λlean H2 a2 c2 w2 b2=>?_⟩
   have W2:=hw.take how w2 b2;ext;refine⟨by show 3<=sizeLine;lia,λp hp=>?_⟩
   have W2':=W2.nw (o:=.lst [.int 12,.int 30,.int 90]) hp;have ap:=W2.away hp;ext;refine⟨own,3,rfl,(W2'.each own how).2.2,by decide,by decide,λr3 H3 a3 c3 w3 b3=>?_⟩
   have W3:=W2'.take how w3 b3;have e3:H3 p=_:=b3 p _ d7 (ap.2.2 own how);obtain⟨rare,hrare,q1,q2⟩:=d4h (ns:=[12,30,90]) (Pr:=λv=>12<=v/\v<=90) (by intro v hv;simp only[List.mem_cons,List.not_mem_nil,or_false] at hv;lia) a3 c3
   refine a0w e3 hrare ?_;ext;refine⟨own,_,rfl,(W3.each own how).2.2,by lia,by lia,λr4 H4 a4 c4 w4 b4=>?_⟩
   have W4:=W3.take how w4 b4;ext;refine⟨by show 2<=sizeLine;lia,λp4 hp4=>?_⟩
   have W4':=W4.nw (o:=.lst [.int r4,.int most]) hp4;have ap4:=W4.away hp4;ext;refine⟨own,2,rfl,(W4'.each own how).2.2,by decide,by decide,λr5 H5 a5 c5 w5 b5=>?_⟩
   have W5:=W4'.take how w5 b5;have e5:H5 p4=_:=b5 p4 _ d7 (ap4.2.2 own how);obtain⟨many,hmany,y1,y2⟩:=d4h (ns:=[r4,(most:Int)]) (Pr:=λv=>0<=v/\v<=most) (by intro v hv;simp only[List.mem_cons,List.not_mem_nil,or_false] at hv;lia) a5 c5
   refine a0w e5 hmany ?_;ext;refine⟨Nat.zero_le _,λmv hmv=>?_⟩;have W6:=W5.nw (o:=.lst []) hmv;have av:=W5.away hmv;have e6:upd H5 mv (.lst []) mv=some (.lst (([]:List Int).map V.int)):=d7
   revert W6 e6
   generalize upd H5 mv (.lst [])=H6;intro W6 e6;ext;refine b6k (n:=many.toNat) (λi σ H'=>∃x11 x12 x13 st who row,σ=[some (.ref c),some (.int first),some (.int most),some (.ref wl),some (.ref own),some (.int lean),some (.int rare),some (.int many),some (.ref mv),some (.int st),some (.int who),x11,x12,x13]/\Wells H H' wl ws/\H' mv=some (.lst ((row:List Int).map V.int))/\row.length=i/\(∀x∈row,0<=x/\x<=8)/\0<=who/\who<=3) ⟨_,_,_,_,_,[],rfl,W6,e6,rfl,by simp,by decide,by decide⟩ ?_ ?_
   ·rintro i σ H7 hi ⟨x11,x12,x13,st,who,row,rfl,W7,e7,hlen,hrow,who0,who1⟩
    ext;refine e5j W7.at' ?_;refine g_I (show(0:Int)<((ws.map V.ref).length:Int) by rw[List.length_map];lia) ?_
    rw[List.length_map];obtain⟨w7,hwA,hw7,_⟩:=e3x (ps:=ws) (Pr:=λ_=>True) (λ_ _=>trivial) (r:=(0+(i:Int)) % (ws.length:Int)) (Int.emod_nonneg _ ↑3) (Int.emod_lt_of_pos _ ↑3);refine a0w W7.at' hwA ?_;have nmv:=av.2.2 w7 hw7;ext;refine⟨w7,rare,rfl,(W7.each w7 hw7).2.2,by lia,by lia,λway H8 a8 c8 w8 b8=>?_⟩
    have W8:=W7.take hw7 w8 b8;have e8:H8 mv=_:=b8 mv _ e7 nmv;ext;refine a3b (λz=>?_) (λz=>?_)
    ·ext
     refine c4k e8 (by rw[List.length_map];lia) ?_
     ext;refine⟨_,_,_,st,who,row++[4+way],rfl,W8.set av.1 av.2.1 av.2.2,by rw[d7,List.map_append];rfl,by rw[List.length_append];show row.length+1=_;lia,?_,who0,who1⟩
     intro x hx;rcases List.mem_append.mp hx with h|h
     ·exact hrow x h
     ·rw[List.mem_singleton.mp h];lia
    ·refine d7n (λσ' H'=>∃st who,σ'=[some (.ref c),some (.int first),some (.int most),some (.ref wl),some (.ref own),some (.int lean),some (.int rare),some (.int many),some (.ref mv),some (.int st),some (.int who),some (.int (0+(i:Int))),some (.ref w7),some (.int way)]/\Wells H H' wl ws/\H' mv=some (.lst (row.map V.int))/\0<=who/\who<=3) ?_ ?_
     ·rintro σ' H9 ⟨st,who,rfl,W9,e9,o0,o1⟩
      ext;refine c4k e9 (by rw[List.length_map];lia) ?_
      ext;refine⟨_,_,_,_,who,row++[who],rfl,W9.set av.1 av.2.1 av.2.2,by rw[d7,List.map_append];rfl,by rw[List.length_append];show row.length+1=_;lia,?_,o0,o1⟩
      intro x hx;rcases List.mem_append.mp hx with h|h
      ·exact hrow x h
      ·rw[List.mem_singleton.mp h];lia
     ·intro R hR
      ext;refine a3b (λz=>?_) (λz=>?_)
      ·ext
       refine⟨w7,4,rfl,(W8.each w7 hw7).2.2,by decide,by decide,λwho' H9 a9 c9 w9 b9=>?_⟩
       have W9:=W8.take hw7 w9 b9;have e9:H9 mv=_:=b9 mv _ e8 nmv;ext;refine⟨by show 4<=sizeLine;lia,λp9 hp9=>?_⟩
       have W9':=W9.nw (o:=.lst [.int 1,.int 3,.int 9,.int 40]) hp9;have e9':upd H9 p9 (.lst [.int 1,.int 3,.int 9,.int 40]) mv=_:=i9 hp9 _ _ e9;obtain⟨far,hfar,f0,f1⟩:=d4h (ns:=[1,3,9,40]) (Pr:=λv=>1<=v/\v<=40) (by intro v hv;simp only[List.mem_cons,List.not_mem_nil,or_false] at hv;lia) a2 c2
       ext;refine a0w d7 hfar ?_;ext;refine⟨w7,far,rfl,(W9'.each w7 hw7).2.2,by lia,by lia,λr10 H10 a10 c10 w10 b10=>?_⟩
       ext;exact hR _ _ ⟨_,_,rfl,W9'.take hw7 w10 b10,b10 mv _ e9' nmv,a9,by lia⟩
      ·ext
       exact hR _ _ ⟨_,_,rfl,W8,e8,who0,who1⟩
   ·rintro σ H7 ⟨x11,x12,x13,st,who,row,rfl,W7,e7,hlen,hrow,who0,who1⟩
    ext;exact k mv H7 row av.1 e7 W7.same ↑3 hrow
end
section
open PySem PySem.Spec L2 Pr
section
variable{P:Program}{w:World}{K:Frag}{mg:Str->Option Value}{qb:Heap}{cl:Cl}
def e2s(S:HSt):List V:=[.str (b0s (c8c true S.L)),.str (b0s (c8c false S.L)),.str (b0s (c8c true S.M)),.str (b0s (c8c false S.M))]
structure HSm(H':Hp)(S:HSt)(t oc bc st:Addr):Prop where
 t:H' t=some (.tup [.ref oc,.ref bc,.ref st,.bl (b8y S)])
 oc:H' oc=some (.lst ((c0d S.L.n S.L.c).map V.int))
 bc:H' bc=some (.lst ((c0d S.M.n S.M.c).map V.int))
 st:H' st=some (.lst (e2s S))
structure HFm(H:Hp)(t oc bc st:Addr):Prop where
 t:H t=none
 oc:H oc=none
 bc:H bc=none
 st:H st=none
theorem HSm.sm{H H':Hp}{S:HSt}{t oc bc st:Addr}(x:HSm H S t oc bc st)(s:Same H H'):HSm H' S t oc bc st:=⟨s _ _ x.t,s _ _ x.oc,s _ _ x.bc,s _ _ x.st⟩
theorem d9n{H2 H:Hp}{S:HSt}{t oc bc st t' oc' bc' st':Addr}(x:HSm H2 S t oc bc st)(f:HFm H2 t' oc' bc' st')(s:Same H2 H)(y:HSm H S t' oc' bc' st'):EqD K H 2 (.ref t') (.ref t) true:=by
 have x3:=x.sm s;have nn:∀{p q:Addr}{o:HO},H2 p=none->H2 q=some o->p≠q:=λhp hq z=>by rw[z,hq] at hp;cases hp
 have h:=EqD.tup (K:=K) (n:=1) (e:=λ_=>true) (nn f.t x.t) (SqT.of y.t) (SqT.of x3.t) (λj a b ha hb=>?_)
 ·exact h
 ·match j,ha,hb with
  | 0,ha,hb=>cases ha;cases hb;exact a3c (nn f.oc x.oc) y.oc x3.oc
  | 1,ha,hb=>cases ha;cases hb;exact a3c (nn f.bc x.bc) y.bc x3.bc
  | 2,ha,hb=>
   cases ha;cases hb;refine c7o (nn f.st x.st) y.st x3.st λz hz=>?_;unfold e2s at hz;simp only[List.mem_cons,List.not_mem_nil,or_false] at hz;rcases hz with rfl|rfl|rfl|rfl <;> exact⟨rfl,by simp[eqV]⟩
  | 3,ha,hb=>cases ha;cases hb;exact c4l rfl (by simp[eqV])
def b5c(cl:Cl):Sp:=λvs H Q _=>∃(hl:Addr)(S:HSt),vs=[.ref hl]/\HR cl H hl S/\S.L.os.length<=1000/\∀t oc bc st H',Same H H'->HFm H t oc bc st->HSm H' S t oc bc st->Q (.ref t) H'
abbrev b8m:Stmt:=top 119
theorem d1w:g7 ["hall"] ["hall"] (d8 b8m):=↑1
theorem d2k(D:DefT K mg "_law_all" b8m ["hall"])(T:Txt K mg cl)(G_law_hands:FnT P w K mg qb "_law_hands" 1 [] a8m)(GS:MethT P w K mg qb cl.Hall "stage" 4 ["self","hand"] (b3p cl))(G_Hall_out_cells:MethT P w K mg qb cl.Hall "out_cells" 3 ["self"] (a4v cl true))(G_Hall_back_cells:MethT P w K mg qb cl.Hall "back_cells" 3 ["self"] (a4v cl false))(GQ:MethT P w K mg qb cl.Hall "quiet" 9 ["self"] (b3q cl)):FnT P w K mg qb "_law_all" 10 ["hall"] (b5c cl):=by
 refine D.fn d1w ↑5 ↑2
 ·fail "l"
 ·obtain⟨hl,S,rfl,hR,h1,k⟩:=h
  refine⟨_,(d9 (j1 (b7b (a7 (a0m (pv 0) T.k_Hall G_Hall_out_cells hr ↑6 i4) (a7 (a0m (pv 0) T.k_Hall G_Hall_back_cells hr ↑6 i4) (a7 (b2v (N:=["name","hall"]) (nt:=1) (fr:=[0]) rfl (b7x (i:=0) rfl rfl (by decide +kernel) (by decide +kernel) rfl rfl rfl rfl rfl rfl rfl) (a1l (K:=K) (d0q G_law_hands hr ↑6 rfl i4)) (a6p ↑6) (λ_ _ _ _ _=>y7 (i:=0) (show(["name","hall"]:List Str).Nodup by decide +kernel) rfl (Or.inl rfl) (Or.inr rfl)) (λ_ _ _ _ _=>(a1f (pv 1) T.k_Hall GS hr ↑6 d2h (a7 (pv 0) d6)))) (a7 (a0m (pv 0) T.k_Hall GQ hr ↑6 i4) d6))))))),?_⟩
  obtain⟨la,lb,su,fi,F,G,A,B,hr0⟩:=id hR;obtain⟨dx,ex⟩:=hr0.ob;ext;refine⟨hl,S,rfl,hR,λoc hoc=>?_⟩;generalize u1:upd H oc _=H1;obtain⟨s1,e1⟩:=nwS u1 hoc;have ex1:=s1 _ _ ex;ext;refine⟨hl,S,rfl,hR.sm s1,λbc hbc=>?_⟩;generalize u2:upd H1 bc _=H2;obtain⟨s2,e2⟩:=nwS u2 hbc;have s02:=s1.trans s2;have ex2:=s02 _ _ ex;ext;refine⟨rfl,λp hp=>⟨p,rfl,⟨_,SqL.of d7⟩,?_⟩⟩;generalize u3:upd H2 p _=H3;obtain⟨s3,ep⟩:=nwS u3 hp;have s03:=s02.trans s3;refine a7d (xs:=[.str "asker",.str "doer",.str "teller",.str "hearer"]) (show 4<sizeLine by decide) (λD i acc H'=>H' D=some (.lst acc)/\Same H3 H'/\acc=(e2s S).take i/\acc.length=i) (λD hD=>⟨d7,i9 hD,rfl,rfl⟩) ?_ ?_ ?_
  ·rintro D i acc H' ⟨e,s',rfl,hl'⟩
   exact⟨e,hl',SqL.of (s' _ _ ep)⟩
  ·rintro D i x acc H' hD hx ⟨e',s',rfl,hl'⟩
   have s0:=s03.trans s';have ex':=s0 _ _ ex;have hi:i<4:=(List.getElem?_eq_some_iff.mp hx).1;obtain⟨o,b,nm,rfl,hz,hs⟩:∃(o b:Bool)(nm:Str),x=.str nm/\HHn o b nm/\(e2s S).take i++[.str (b0s (c8c b (S.lane o)))]=(e2s S).take (i+1):=by
    rcases (show i=0\/i=1\/i=2\/i=3 by lia) with rfl|rfl|rfl|rfl
    ·cases hx;exact⟨true,true,_,rfl,.inl ⟨rfl,rfl,rfl⟩,rfl⟩
    ·cases hx;exact⟨true,false,_,rfl,.inr (.inl ⟨rfl,rfl,rfl⟩),rfl⟩
    ·cases hx;exact⟨false,true,_,rfl,.inr (.inr (.inl ⟨rfl,rfl,rfl⟩)),rfl⟩
    ·cases hx;exact⟨false,false,_,rfl,.inr (.inr (.inr ⟨rfl,rfl,rfl⟩)),rfl⟩
   ext;refine⟨hl,S,nm,rfl,hR.sm s0,λo' b' hz' H5 s5=>?_,λz=>absurd hz (z _ _)⟩;obtain⟨rfl,rfl⟩:=hz.uq hz';refine⟨s5 _ _ e',d7,λx u eu=>?_,hs,by rw[List.length_append,hl'];rfl⟩
   rw[c7 (g9 eu hD)];exact s5 _ _ (s' _ _ eu)
  ·rintro D acc H' hD ⟨e',s',rfl,hl'⟩
   have s04:=s03.trans s';have ex4:=s04 _ _ ex;ext;refine⟨hl,S,rfl,hR.sm s04,h1,λH5 s5=>?_⟩;ext;refine⟨(show 4<=sizeLine by decide),λt ht=>?_⟩
   have s6:=i9 (o:=.tup [.ref oc,.ref bc,.ref D,.bl (b8y S)]) ht;have s05:=s04.trans s5;have c3:=(s'.trans s5).trans s6;exact k t oc bc D _ (s05.trans s6) ⟨s05.free ht,hoc,s1.free hbc,s03.free hD⟩ ⟨d7,c3 _ _ (s3 _ _ (s2 _ _ e1)),c3 _ _ (s3 _ _ e2),s6 _ _ (s5 _ _ e')⟩
end
section
variable{K:Frag}{cl:Cl}
theorem d5u{H:Hp}{x:Addr}{o:HO}(e:H x=some o)(f:b0n H x):nc o=true:=by
 obtain⟨u,e',f1,f2⟩:=f;rw[e] at e';cases e';cases o with
 | own a=>exact absurd rfl (f2 a)
 | tbl ps=>cases f1
 | frz a b=>cases f1
 | _=>rfl
theorem LP.cutN{H1 H:Hp}{F X:Addr->Prop}{la:Addr}{A:Ad}{L:Ln}{tl:List Tr}(h:LP cl H1 F la A L tl)(s:∀x o,H1 x=some o->nc o=true->H x=some o)(hX:∀x,F x->X x):LP cl (rs X H) F la A L tl:=by
 refine⟨(h.ln.ow h.nf).same λx o e=>?_,λx hx=>?_,h.nf⟩
 ·have e1:=c0f e
  have e2:=a7z e1.1;have n:=a8e e1.2;have e2':=s _ _ e2 e1.2;have hc:F x\/b0o (some o)=true:=by
   by_cases hx:F x
   ·exact .inl hx
   ·right
    cases q:b0o (some o) with
    | true=>rfl
    | false=>
     have:=a5l (F:=F) e2 n (by rw[e2,q];exact λz=>z.elim hx (λq=>by cases q))
     rw[this] at e1;cases e1.1
  have e3:=a1v (F:=X) e2' n (hc.imp (hX x) λz=>by rw[e2'];exact z)
  exact a1v e3 n (hc.imp id λz=>by rw[e3];exact z)
 ·obtain⟨o,e,z1,z2⟩:=h.dom x hx
  exact⟨o,a1v (s _ _ e (d5u e ⟨o,e,z1,z2⟩)) z2 (.inl (hX x hx)),z1,z2⟩
theorem HP.ofN{H1 H:Hp}{hl:Addr}{S:HSt}(h:HR cl H1 hl S)(s:∀x o,H1 x=some o->nc o=true->H x=some o):∃X,(∀x,X x->b0n H1 x)/\HP cl H X hl S:=by
 obtain⟨la,lb,su,fi,F,G,A,B,⟨dx,e⟩,e2,e3,e4,lo,lk,dj,nF,nG⟩:=h;have ft:∀x,(F x\/G x\/x=hl\/x=su\/x=fi)->b0n H1 x:=λx hx=>by
  rcases hx with z|z|rfl|rfl|rfl
  ·exact lo.dom x z
  ·exact lk.dom x z
  ·exact⟨_,e,rfl,λ_ z=>nomatch z⟩
  ·exact⟨_,e2,rfl,λ_ z=>nomatch z⟩
  ·exact⟨_,e4,rfl,λ_ z=>nomatch z⟩
 refine⟨λx=>F x\/G x\/x=hl\/x=su\/x=fi,ft,⟨la,lb,su,fi,F,G,A,B,⟨dx,a1v (s _ _ e rfl) (λ_ z=>nomatch z) (.inl (by simp))⟩,a1v (s _ _ e2 rfl) (λ_ z=>nomatch z) (.inl (by simp)),e3,a1v (s _ _ e4 rfl) (λ_ z=>nomatch z) (.inl (by simp)),lo.cutN s λ_ z=>.inl z,lk.cutN s λ_ z=>.inr (.inl z),dj,nF,nG⟩,λx hx=>?_⟩
 obtain⟨o,q,z⟩:=ft x hx;exact⟨o,s _ _ q (d5u q ⟨o,q,z⟩),z⟩
theorem UR.rest{H H1':Hp}{Z X:Addr->Prop}{hl bk oa dn td sh:Addr}{ps:List Addr}{S:HSt}{tk hd:Nat}(h:UR cl H hl bk S tk hd X oa dn td sh ps)(dj:∀x,UZ X bk oa dn td sh ps x->¬ Z x)(ot:Out H1' (rs Z H) H):∃X',UR cl (jn H1' (rs Z H) H) hl bk S tk hd X' oa dn td sh ps/\(∀x,X' x->X x)/\∀x,UZ X' bk oa dn td sh ps x->¬ b0n H1' x:=by
 have st:∀x o,H x=some o->nt o=true->(UZ X bk oa dn td sh ps x\/b0o (some o)=true)->jn H1' (rs Z H) H x=some o:=λx o e n hx=>by
  cases q:b0o (some o) with
  | true=>
   cases o with
   | tup xs=>exact a0p (ot.tup _ _ e)
   | frz a b=>exact a0p (ot.frz _ _ _ e)
   | tbl ps=>cases n
   | _=>cases q
  | false=>
   rcases hx with hx|hx
   ·exact(a0l ot e (λa z=>by rw[z] at n;cases n) q (dj x hx)).1
   ·rw[hx] at q;cases q
 have nf:∀x,UZ X bk oa dn td sh ps x->¬ b0n H1' x:=λx hx=>by
  have fx:b0n H x:=hx.elim (h.hp.dom x) h.b.at;obtain⟨o,e,f,n⟩:=fx;exact(a0l ot e n f (dj x hx)).2
 obtain⟨X',d,hp⟩:=HP.ofN (H:=jn H1' (rs Z H) H) h.hp.hr λx o e n=>by
  have eH:=a7z e;refine st x o eH ?_ ?_
  ·cases o with
   | own a=>cases n
   | tbl ps=>cases n
   | _=>rfl
  ·by_cases hx:X x
   ·exact .inl (.inl hx)
   ·right
    cases q:b0o (some o) with
    | true=>rfl
    | false=>
     have:=a5l (F:=X) eH (a8e n) (by rw[eH,q];exact λz=>z.elim hx (λq=>by cases q))
     rw[this] at e;cases e
 have sub:∀x,X' x->X x:=λx hx=>c9q (d x hx);exact⟨X',⟨hp,h.b.keep (λx o e n hx=>st x o e n (hx.imp .inr id)) rfl rfl rfl rfl,λx hx=>h.sp x (sub x hx)⟩,sub,λx hx=>nf x (hx.imp (sub x) id)⟩
def AX(K:Frag)(Y:Addr->Prop)(H:Hp)(a:Addr)(xs:List V):Prop:=(∃o,H a=some o/\nt o=true/\¬ Y a/\∀H',H' a=some o->SqL K H' a xs) \/ ∀H',SqL K H' a xs
theorem AX.sq{Y:Addr->Prop}{H:Hp}{a:Addr}{xs:List V}(h:AX K Y H a xs):SqL K H a xs:=by
 rcases h with ⟨o,e,_,_,f⟩|f
 ·exact f H e
 ·exact f H
theorem AX.of{Y:Addr->Prop}{H H':Hp}{a:Addr}{xs:List V}(h:SqL K H a xs)(k:∀o,H a=some o->nt o=true->H' a=some o/\¬ Y a):AX K Y H' a xs:=by
 rcases h with (h|⟨o,h⟩)|h
 ·exact .inl ⟨_,(k _ h rfl).1,rfl,(k _ h rfl).2,λH' e=>SqL.of e⟩
 ·exact .inl ⟨_,(k _ h rfl).1,rfl,(k _ h rfl).2,λH' e=>.inl (.inr ⟨o,e⟩)⟩
 ·exact .inr λH'=>.inr h
theorem AX.to{Y Y':Addr->Prop}{H H':Hp}{a:Addr}{xs:List V}(h:AX K Y H a xs)(k:∀o,H a=some o->nt o=true->¬ Y a->H' a=some o/\¬ Y' a):AX K Y' H' a xs:=by
 rcases h with ⟨o,e,n,y,f⟩|f
 ·exact .inl ⟨o,(k o e n y).1,n,(k o e n y).2,f⟩
 ·exact .inr f
theorem d0s{H H1':Hp}{Z:Addr->Prop}(ot:Out H1' (rs Z H) H){x:Addr}{o:HO}(e:H x=some o)(n:nt o=true)(nz:¬ Z x):jn H1' (rs Z H) H x=some o/\¬ b0n H1' x:=by
 have fx:b0o (some o)=true->H1' x=some o->jn H1' (rs Z H) H x=some o/\¬ b0n H1' x:=λf e1=>⟨a0p e1,λz=>by
  obtain⟨u,e2,f2,_⟩:=z;rw[e1] at e2;cases e2;rw[f] at f2;cases f2⟩
 cases o with
 | own a=>cases n
 | tbl ps=>cases n
 | tup xs=>exact fx rfl (ot.tup _ _ e)
 | frz a b=>exact fx rfl (ot.frz _ _ _ e)
 | _=>exact a0l ot e (λ_ z=>nomatch z) rfl nz
structure Un where
 hl:Addr
 bk:Addr
 oa:Addr
 dn:Addr
 td:Addr
 sh:Addr
 ps:List Addr
 S:HSt
 tk:Nat
 hd:Nat
 X:Addr->Prop
def Un.Z(u:Un):Addr->Prop:=UZ u.X u.bk u.oa u.dn u.td u.sh u.ps
def Un.re(u:Un)(X:Addr->Prop):Un:=⟨u.hl,u.bk,u.oa,u.dn,u.td,u.sh,u.ps,u.S,u.tk,u.hd,X⟩
def Un.ok(cl:Cl)(H:Hp)(u:Un):Prop:=UR cl H u.hl u.bk u.S u.tk u.hd u.X u.oa u.dn u.td u.sh u.ps
structure Un.gd(u:Un)(n j:Nat):Prop where
 hj:HJ u.S
 n:u.S.L.n=n
 tk:u.tk<=u.S.L.bk.length
 hd:u.hd<=u.S.M.bk.length
 tl:u.S.tl.length<=j
 tm:u.S.tm.length<=j
def Y2(U:Bool->Un)(wl x:Addr):Prop:=(∃b,(U b).Z x)\/x=wl
structure L2I(cl:Cl)(wl:Addr)(nn:Bool->Nat)(H:Hp)(U:Bool->Un)(j:Nat):Prop where
 ok:∀b,(U b).ok cl H
 ap:∀b x,(U b).Z x->¬ (U (!b)).Z x
 we:Well H wl
 nw:∀b,¬ (U b).Z wl
 gd:∀b,(U b).gd (nn b) j
section
variable{wl:Addr}{nn:Bool->Nat}{H H':Hp}{U:Bool->Un}{j:Nat}
theorem Un.ft{u:Un}(h:u.ok cl H){x:Addr}(hx:u.Z x):b0n H x:=by
 rcases hx with hx|hx
 ·exact(UR.hp h).dom x hx
 ·exact(UR.b h).at hx
theorem L2I.same(i:L2I cl wl nn H U j)(s:Same H H'):L2I cl wl nn H' U j:=⟨λb=>UR.same (i.ok b) s,i.ap,i.we.same s,i.nw,i.gd⟩
theorem L2I.but(i:L2I cl wl nn H U j)(b:But wl H H')(w':Well H' wl):L2I cl wl nn H' U j:=⟨λc=>UR.but (i.ok c) i.we (i.nw c) b,i.ap,w',i.nw,i.gd⟩
theorem L2I.call(i:L2I cl wl nn H U j)(b:Bool){Z:Addr->Prop}(hZ:∀x,Z x->(U b).Z x\/x=wl){H1':Hp}(ot:Out H1' (rs Z H) H)(u':Un)(hu:u'.ok cl H1')(eh:u'.hl=(U b).hl)(eb:u'.bk=(U b).bk){j':Nat}(g:u'.gd (nn b) j')(jj:j<=j')(w':Well (jn H1' (rs Z H) H) wl)(nw':¬ u'.Z wl):
  ∃U',(∀c,(U' c).hl=(U c).hl/\(U' c).bk=(U c).bk)/\(U' (!b)).S=(U (!b)).S/\U' b=u'/\L2I cl wl nn (jn H1' (rs Z H) H) U' j'/\KX (Y2 U wl) H (Y2 U' wl) (jn H1' (rs Z H) H):=by
 obtain⟨X',hr,sub,nf⟩:=UR.rest (i.ok (!b)) (λx hx z=>by
  rcases hZ x z with z|z
  ·exact i.ap b x z hx
  ·exact i.nw (!b) (z ▸ hx)) ot
 have oz:∀x,((U (!b)).re X').Z x->(U (!b)).Z x/\¬ b0n H1' x:=λx hx=>⟨hx.imp (sub x) id,nf x hx⟩;refine⟨λc=>if c=b then u' else (U (!b)).re X',λc=>?_,?_,if_pos rfl,⟨λc=>?_,λc x=>?_,w',λc=>?_,λc=>?_⟩,λx o e n nz=>?_⟩
 ·show(if c=b then u' else (U (!b)).re X').hl=(U c).hl/\(if c=b then u' else (U (!b)).re X').bk=(U c).bk
  by_cases h:c=b
  ·rw[if_pos h,h];exact⟨eh,eb⟩
  ·rw[if_neg h,show c = !b by cases c <;> cases b <;> simp_all];exact⟨rfl,rfl⟩
 ·show(if (!b)=b then u' else (U (!b)).re X').S=_
  rw[if_neg (by cases b <;> decide)];rfl
 ·show Un.ok cl _ (if c=b then u' else (U (!b)).re X')
  by_cases h:c=b
  ·rw[if_pos h];exact UR.same hu λ_ _ e=>a0p e
  ·rw[if_neg h];exact hr
 ·show Un.Z (if c=b then u' else (U (!b)).re X') x->¬ Un.Z (if (!c)=b then u' else (U (!b)).re X') x
  by_cases h:c=b
  ·rw[if_pos h,if_neg (by rw[h];cases b <;> decide)]
   exact λz y=>(oz x y).2 (Un.ft hu z)
  ·rw[if_neg h,if_pos (by cases c <;> cases b <;> simp_all)]
   exact λy z=>(oz x y).2 (Un.ft hu z)
 ·show ¬ Un.Z (if c=b then u' else (U (!b)).re X') wl
  by_cases h:c=b
  ·rw[if_pos h];exact nw'
  ·rw[if_neg h];exact λz=>i.nw (!b) (oz wl z).1
 ·show Un.gd (if c=b then u' else (U (!b)).re X') (nn c) j'
  by_cases h:c=b
  ·rw[if_pos h,h];exact g
  ·rw[if_neg h,show c = !b by cases c <;> cases b <;> simp_all]
   obtain⟨g1,g2,g3,g4,g5,g6⟩:=i.gd (!b);exact⟨g1,g2,g3,g4,Nat.le_trans g5 jj,Nat.le_trans g6 jj⟩
 ·obtain⟨e1,f1⟩:=d0s ot e n λz=>nz ((hZ x z).imp (λz=>⟨b,z⟩) id)
  refine⟨e1,λz=>?_⟩;rcases z with ⟨c,z⟩|z
  ·have z:Un.Z (if c=b then u' else (U (!b)).re X') x:=z
   by_cases h:c=b
   ·rw[if_pos h] at z;exact f1 (Un.ft hu z)
   ·rw[if_neg h] at z;exact nz (.inl ⟨!b,(oz x z).1⟩)
  ·exact nz (.inr z)
end
end
theorem _root_.L2.for_listH{K:Frag}{a:Addr}{xs:List V}{g:TG}{tb:TS}{nx:St->Hp->Prop}{rt:VK}{σ:St}{H:Hp}(Pv:Nat->St->Hp->Prop)(h0:Pv 0 σ H)(hl:∀i σ H,i<=xs.length->Pv i σ H->SqL K H a xs)(hs:∀i x σ H,xs[i]?=some x->Pv i σ H->e8c (Pv (i+1)) λN=>g x σ H λσ2 H2=>tb ⟨N,rt,nx,N⟩ σ2 H2)(hd:∀σ H,Pv xs.length σ H->nx σ H):
  ∃W:Nat->Nat->St->Hp->Prop,(∃m,W 0 m σ H)/\∀i m σ H,W i m σ H->((Itl K a).stop i H/\nx σ H)\/((Itl K a).go i H/\∃N:St->Hp->Prop,(∀σ' H',N σ' H'->∃m',m'<m/\W (i+1) m' σ' H')/\∀x H',(Itl K a).yld i H x H'->g x σ H' λσ2 H2=>tb ⟨N,rt,nx,N⟩ σ2 H2) :=
 b7w (D:=⟨nx,rt,λ_ _=>False,λ_ _=>False⟩) Pv h0 hl (λi x σ H hx p=>hs i x σ H hx p _ rfl) hd
theorem _root_.L2.pa_consL{X:Cx}{es0 es:List Expr}{pos:Pos}{te:TE}{t:TA}(ha:PE X (.List es0 pos) te)(hr:PA X es t):PA X (.List es0 pos::es) (d7m te t):=a7 ha hr rfl
section
variable{K:Frag}{cl:Cl}
theorem HP.rest{H H1':Hp}{Z X:Addr->Prop}{hl:Addr}{S:HSt}(h:HP cl H X hl S)(dj:∀x,X x->¬ Z x)(ot:Out H1' (rs Z H) H):∃X',HP cl (jn H1' (rs Z H) H) X' hl S/\∀x,X' x->X x:=by
 obtain⟨X',d,hp⟩:=HP.ofN (H:=jn H1' (rs Z H) H) h.hr λx o e n=>by
  have eH:=a7z e;by_cases hx:X x
  ·obtain⟨u,e',f,n'⟩:=h.dom x hx
   rw[eH] at e';cases e';exact(a0l ot eH n' f (dj x hx)).1
  ·cases q:b0o (some o) with
   | false=>
    have:=a5l (F:=X) eH (a8e n) (by rw[eH,q];exact λz=>z.elim hx (λq=>by cases q))
    rw[this] at e;cases e
   | true=>
    cases o with
    | tup xs=>exact a0p (ot.tup _ _ eH)
    | frz a b=>cases n
    | tbl ps=>cases n
    | _=>cases q
 exact⟨X',hp,λx hx=>c9q (d x hx)⟩
theorem d0w{H:Hp}{x dx:Addr}{u o:HO}(hx:H x=none)(hd:H dx=none):Same H (upd (upd H dx u) x o):=λb v e=>by
 rw[c7 (g9 e hx),c7 (g9 e hd)];exact e
theorem e2h{H:Hp}{x:Addr}(h:b0n H x):∃o,H x=some o/\nt o=true:=by
 obtain⟨o,e,f,n⟩:=h;refine⟨o,e,?_⟩;cases o with
 | own a=>exact absurd rfl (n a)
 | tbl ps=>cases f
 | _=>rfl
theorem c9j{H:Hp}{hl dx:Addr}{n m:Nat}(eh:H hl=some (.ins cl.Hall dx []))(n2:2<=n)(n8:n<=8)(m2:2<=m)(m8:m<=8){Q:V->Hp->Prop}{E:XK}(k:∀X0 H',HP cl H' X0 hl (a1t n m)->KX (λy=>y=hl) H X0 H'->(∀X h S,HP cl H X h S->¬ X hl->∃X',HP cl H' X' h S/\(∀x,X' x->X x)/\∀x,X' x->¬ X0 x)->Q .non H'):frS (a8o cl) [.ref hl,.int n,.int m] H Q E:=by
 refine⟨rs (λy=>y=hl) H,a4d _ H,hl,dx,n,m,rfl,a1v eh (λ_ z=>nomatch z) (.inl rfl),n2,n8,m2,m8,λJ hJ ot=>?_⟩;obtain⟨X0,P0,kx⟩:=HP.call ot hJ;refine k X0 _ P0 kx λX h S hp hn=>?_;obtain⟨X',a,b⟩:=HP.rest hp (λx hx (z:x=hl)=>hn (z ▸ hx)) ot;refine⟨X',a,b,λx hx=>?_⟩;obtain⟨o,e,n⟩:=e2h (hp.dom x (b x hx));exact(kx x o e n λ(z:x=hl)=>hn (z ▸ b x hx)).2
def Kr(Y:Addr->Prop)(H:Hp)(ps:List (Addr×HO)):Prop:=∀p∈ps,H p.1=some p.2/\nt p.2=true/\¬ Y p.1
section
variable{Y Y':Addr->Prop}{H H':Hp}{ps qs:List (Addr×HO)}{a wl:Addr}{o:HO}
theorem Kr.kx(h:Kr Y H ps)(k:KX Y H Y' H'):Kr Y' H' ps:=λp hp=>by
 obtain⟨e,n,y⟩:=h p hp;obtain⟨e',y'⟩:=k _ _ e n y;exact⟨e',n,y'⟩
theorem Kr.add(h:Kr Y H ps)(e:H a=some o)(n:nt o=true)(y:¬ Y a):Kr Y H ((a,o)::ps):=λp hp=>by
 rcases List.mem_cons.mp hp with rfl|hp
 ·exact⟨e,n,y⟩
 ·exact h p hp
theorem Kr.at(h:Kr Y H ps)(i:Nat)(e:ps[i]?=some (a,o)):H a=some o:=(h _ (List.mem_of_getElem? e)).1
theorem KX.sm(s:Same H H'):KX Y H Y H':=λ_ _ e _ y=>⟨s _ _ e,y⟩
theorem KX.bt(h:Y wl)(b:But wl H H'):KX Y H Y H':=λx _ e _ y=>⟨b _ _ e λz=>y (z ▸ h),y⟩
end
section
variable{wl:Addr}{nn:Bool->Nat}{H H':Hp}{U:Bool->Un}{j:Nat}{Q:V->Hp->Prop}{E:XK}
def UK(U U':Bool->Un):Prop:=∀c,(U' c).hl=(U c).hl/\(U' c).bk=(U c).bk
theorem L2I.bd(i:L2I cl wl nn H U j)(b:Bool):(U b).S.L.os.length<=40/\(U b).S.M.os.length<=40:=by
 have g:=(i.gd b).hj;have w:=c1k g.hi;have h1:=(UR.hp (i.ok b)).ok.1.tk.bl;have h2:=g.l;have h3:=g.ml;exact⟨h2,by lia⟩
theorem L2I.fy(i:L2I cl wl nn H U j){x:Addr}(hx:H x=none):¬ Y2 U wl x:=λz=>by
 rcases z with ⟨b,z⟩|z
 ·obtain⟨o,e,_⟩:=Un.ft (i.ok b) z
  rw[hx] at e;cases e
 ·obtain⟨o,e⟩:=i.we.at
  rw[z,e] at hx;cases hx
theorem L2I.mv(i:L2I cl wl nn H U j)(b:Bool){h q:Addr}(eh:(U b).hl=h)(eq:(U b).bk=q){mv:Int}(m0:0<=mv)(m8:mv<=8)(n8:nn b<=8)(hj:j<=4000)(k:∀U' H',UK U U'->(U' (!b)).S=(U (!b)).S->L2I cl wl nn H' U' (j+1)->KX (Y2 U wl) H (Y2 U' wl) H'->Q (.bl true) H'):frS (b1l cl) [.ref h,.ref q,.int mv,.ref wl,.int (nn b)] H Q E:=by
 subst eh eq;obtain⟨X1,u1,sub⟩:=UR.part (λx=>x=wl) (i.ok b);obtain⟨g1,g2,g3,g4,g5,g6⟩:=i.gd b;have w1:Well (rs (λx=>UZ (U b).X (U b).bk (U b).oa (U b).dn (U b).td (U b).sh (U b).ps x\/x=wl) H) wl:=by
  obtain⟨x,y,z,e,l⟩:=i.we;exact⟨x,y,z,a1v e (λ_ z=>nomatch z) (.inl (.inr rfl)),l⟩
 refine⟨_,a4d _ H,(U b).hl,(U b).bk,(U b).S,(U b).tk,(U b).hd,X1,(U b).oa,(U b).dn,(U b).td,(U b).sh,(U b).ps,mv,wl,by rw[g2],u1,w1,λz=>i.nw b (z.imp (sub _) id),g1,m0,m8,by rw[g2];exact n8,Nat.le_trans g5 hj,Nat.le_trans g6 hj,λH1' S' X' ps' ur w' nw' nx ot=>?_⟩
 obtain⟨U',a1,a2,a3,a4,a5⟩:=i.call b (λx hx=>hx) ot ⟨(U b).hl,(U b).bk,(U b).oa,(U b).dn,(U b).td,(U b).sh,ps',S',(U b).tk,(U b).hd,X'⟩ ur rfl rfl ⟨nx.j,nx.n.trans g2,Nat.le_trans g3 nx.b,Nat.le_trans g4 nx.m,Nat.le_trans nx.tl (Nat.succ_le_succ g5),Nat.le_trans nx.tm (Nat.succ_le_succ g6)⟩ (Nat.le_succ _) (w'.same λ_ _ e=>a0p e) nw';exact k U' _ a1 a2 a4 a5
theorem L2I.rt(i:L2I cl wl nn H U j)(b:Bool){h q:Addr}(eh:(U b).hl=h)(eq:(U b).bk=q)(k:∀U' H',UK U U'->(∀c,(U' c).S=(U c).S)->L2I cl wl nn H' U' j->KX (Y2 U wl) H (Y2 U' wl) H'->Q (.bl true) H'):frS (a3i cl) [.ref h,.ref q] H Q E:=by
 subst eh eq;obtain⟨X1,u1,sub⟩:=UR.part (λ_=>False) (i.ok b);obtain⟨g1,g2,g3,g4,g5,g6⟩:=i.gd b;obtain⟨d1,d2⟩:=i.bd b;refine⟨_,a4d _ H,(U b).hl,(U b).bk,(U b).S,(U b).tk,(U b).hd,X1,(U b).oa,(U b).dn,(U b).td,(U b).sh,(U b).ps,rfl,u1,g1.hi,by lia,by lia,g3,g4,λH1' ur ot=>?_⟩
 have nz:¬ (λx=>UZ (U b).X (U b).bk (U b).oa (U b).dn (U b).td (U b).sh (U b).ps x\/False) wl:=λz=>z.elim (i.nw b) id;obtain⟨U',a1,a2,a3,a4,a5⟩:=i.call b (λx hx=>.inl (hx.elim id False.elim)) ot ⟨(U b).hl,(U b).bk,(U b).oa,(U b).dn,(U b).td,(U b).sh,(U b).ps,(U b).S,(U b).S.L.bk.length,(U b).S.M.bk.length,X1⟩ ur rfl rfl ⟨g1,g2,Nat.le_refl _,Nat.le_refl _,g5,g6⟩ (Nat.le_refl _) (by
  obtain⟨x,y,z,e,l⟩:=i.we;exact⟨x,y,z,(d0s ot e rfl nz).1,l⟩) (λz=>i.nw b (z.imp (sub _) id))
 refine k U' _ a1 (λc=>?_) a4 a5;by_cases h:c=b
 ·rw[h,a3]
 ·rw[show c = !b by cases c <;> cases b <;> simp_all];exact a2
theorem L2I.al(i:L2I cl wl nn H U j)(b:Bool){h:Addr}(eh:(U b).hl=h)(k:∀t oc bc st H',Same H H'->HFm H t oc bc st->HSm H' (U b).S t oc bc st->Q (.ref t) H'):b5c cl [.ref h] H Q E :=
 eh ▸ ⟨(U b).hl,(U b).S,rfl,HP.all (UR.hp (i.ok b)),by have:=(i.bd b).1;lia,k⟩
end
theorem e4u{n m:Nat}:HJ (a1t n m):=⟨⟨List.nodup_nil,λx hx=>(by cases hx)⟩,rfl,Nat.zero_le _⟩
def unN(hl bk oa dn td sh:Addr)(n m:Nat)(X:Addr->Prop):Un:=⟨hl,bk,oa,dn,td,sh,[],a1t n m,0,0,X⟩
theorem L2I.mk'{H:Hp}{wl h0 bk0 oa0 dn0 td0 sh0 h1 bk1 oa1 dn1 td1 sh1:Addr}{n m n1 m1:Nat}{X0 X1:Addr->Prop}(p0:HP cl H X0 h0 (a1t n m))(p1:HP cl H X1 h1 (a1t n1 m1))(d:∀x,X0 x->¬ X1 x)(b0:BRel H bk0 oa0 dn0 td0 sh0 [] (a1t n m) 0 0)(b1:BRel H bk1 oa1 dn1 td1 sh1 [] (a1t n1 m1) 0 0)(e0:∀x,BY bk0 oa0 dn0 td0 sh0 [] x->¬ X0 x/\¬ X1 x/\x≠wl)(e1:∀x,BY bk1 oa1 dn1 td1 sh1 [] x->¬ X0 x/\¬ X1 x/\x≠wl/\¬ BY bk0 oa0 dn0 td0 sh0 [] x)(we:Well H wl)(nw0:¬ X0 wl)(nw1:¬ X1 wl):L2I cl wl (λb=>bif b then n1 else n) H (λb=>bif b then unN h1 bk1 oa1 dn1 td1 sh1 n1 m1 X1 else unN h0 bk0 oa0 dn0 td0 sh0 n m X0) 0:=by
 refine⟨λb=>?_,λb x=>?_,we,λb=>?_,λb=>?_⟩
 ·cases b
  ·exact⟨p0,b0,λx hx y=>(e0 x y).1 hx⟩
  ·exact⟨p1,b1,λx hx y=>(e1 x y).2.1 hx⟩
 ·have q:UZ X0 bk0 oa0 dn0 td0 sh0 [] x->¬ UZ X1 bk1 oa1 dn1 td1 sh1 [] x:=λz y=>by
   rcases z with z|z <;> rcases y with y|y
   ·exact d x z y
   ·exact(e1 x y).1 z
   ·exact(e0 x z).2.1 y
   ·exact(e1 x y).2.2.2 z
  cases b
  ·exact q
  ·exact λy z=>q z y
 ·cases b
  ·exact λz=>z.elim nw0 λz=>(e0 _ z).2.2 rfl
  ·exact λz=>z.elim nw1 λz=>(e1 _ z).2.2.1 rfl
 ·cases b <;> exact⟨e4u,rfl,Nat.zero_le _,Nat.zero_le _,Nat.zero_le _,Nat.zero_le _⟩
structure Bf(H1 H:Hp)(D:Addr)(S:HSt)(t oc bc st:Addr):Prop where
 f:HFm H1 t oc bc st
 m:HSm H S t oc bc st
 n:t≠D/\oc≠D/\bc≠D/\st≠D
theorem HSm.upd{H:Hp}{D:Addr}{S:HSt}{t oc bc st:Addr}{o:HO}(m:HSm H S t oc bc st)(n:t≠D/\oc≠D/\bc≠D/\st≠D):HSm (upd H D o) S t oc bc st:=⟨(c7 n.1).trans m.t,(c7 n.2.1).trans m.oc,(c7 n.2.2.1).trans m.bc,(c7 n.2.2.2).trans m.st⟩
def tw(S:HSt)(t oc bc st:Addr):List (Addr×HO):=[(t,.tup [.ref oc,.ref bc,.ref st,.bl (b8y S)]),(oc,.lst ((c0d S.L.n S.L.c).map V.int)),(bc,.lst ((c0d S.M.n S.M.c).map V.int)),(st,.lst (e2s S))]
theorem Kr.bf{Y:Addr->Prop}{H1 H:Hp}{D:Addr}{S:HSt}{t oc bc st:Addr}{R:List (Addr×HO)}(h:Kr Y H R)(x:Bf H1 H D S t oc bc st)(y:∀x,H1 x=none->¬ Y x):Kr Y H (tw S t oc bc st++R) :=
 (((h.add x.m.st rfl (y _ x.f.st)).add x.m.bc rfl (y _ x.f.bc)).add x.m.oc rfl (y _ x.f.oc)).add x.m.t rfl (y _ x.f.t)
theorem L2I.le{wl:Addr}{nn:Bool->Nat}{H:Hp}{U:Bool->Un}{j j':Nat}(i:L2I cl wl nn H U j)(h:j<=j'):L2I cl wl nn H U j':=⟨i.ok,i.ap,i.we,i.nw,λb=>by
 obtain⟨g1,g2,g3,g4,g5,g6⟩:=i.gd b;exact⟨g1,g2,g3,g4,Nat.le_trans g5 h,Nat.le_trans g6 h⟩⟩
def bI(b:Bool):Int:=bif b then 1 else 0
def bN(b:Bool):Nat:=bif b then 1 else 0
def pk(x y:Addr)(b:Bool):Addr:=bif b then y else x
def UA(hf bf:Bool->Addr)(U:Bool->Un):Prop:=∀c,(U c).hl=hf c/\(U c).bk=bf c
theorem UA.to{hf bf:Bool->Addr}{U U':Bool->Un}(h:UA hf bf U)(k:UK U U'):UA hf bf U':=λc=>⟨(k c).1.trans (h c).1,(k c).2.trans (h c).2⟩
theorem at2{x y:Addr}(b:Bool):atI [V.ref x,V.ref y] (bI b)=some (.ref (pk x y b)):=by cases b <;> rfl
theorem e2n{b c:Bool}(h:c≠b):c = !b:=by cases b <;> cases c <;> simp_all
theorem d1c(x:Int)(xs:List Int):inV (.int x) (xs.map V.int)=decide (x∈xs):=by
 unfold inV;rw[Bool.eq_iff_iff,List.any_eq_true,decide_eq_true_iff];constructor
 ·rintro⟨y,hy,e⟩
  obtain⟨z,hz,rfl⟩:=List.mem_map.mp hy;simp[eqV] at e
  first|exact e ▸ hz|exact e.symm ▸ hz
 ·exact λh=>⟨.int x,List.mem_map.mpr ⟨x,h,rfl⟩,by simp[eqV]⟩
theorem TRw.nil{H:Hp}{p:Addr}(h:TRw H p []):H p=some (.lst []):=by
 obtain⟨ps,e,l,_⟩:=h;rw[List.length_eq_zero_iff.mp l] at e;exact e
theorem d8z{H:Hp}{p q x1 x2 x3 x4 x5 y1 y2 y3 y4 y5:Addr}(ne:p≠q)(hp:H p=some (.lst [.ref x1,.ref x2,.ref x3,.ref x4,.ref x5]))(hq:H q=some (.lst [.ref y1,.ref y2,.ref y3,.ref y4,.ref y5]))(e1:EqD K H 1 (.ref x1) (.ref y1) true)(e2:EqD K H 1 (.ref x2) (.ref y2) true)(e3:EqD K H 1 (.ref x3) (.ref y3) true)(e4:EqD K H 1 (.ref x4) (.ref y4) true)(e5:EqD K H 1 (.ref x5) (.ref y5) true):EqD K H 2 (.ref p) (.ref q) true :=
 c4m ne hp hq rfl λj u v hu hv=>by
  have hj:j<5:=(List.getElem?_eq_some_iff.mp hu).1;rcases (show j=0\/j=1\/j=2\/j=3\/j=4 by lia) with rfl|rfl|rfl|rfl|rfl <;> cases hu <;> cases hv <;> assumption
end
section
variable{P:Program}{w:World}{K:Frag}{mg:Str->Option Value}{qb:Heap}{cl:Cl}
theorem Kr.new{Y:Addr->Prop}{H H':Hp}{ps:List (Addr×HO)}{x:Addr}(h:Kr Y H ps)(hx:H x=none)(s:Same H H'):Kr (λy=>y=x) H' ps:=λp hp=>by
 obtain⟨e,n,y⟩:=h p hp;exact⟨s _ _ e,n,g9 e hx⟩
theorem Kr.less{Y Y':Addr->Prop}{H:Hp}{ps:List (Addr×HO)}(h:Kr Y H ps)(s:∀x,Y' x->Y x):Kr Y' H ps:=λp hp=>⟨(h p hp).1,(h p hp).2.1,λz=>(h p hp).2.2 (s _ z)⟩
theorem Kr.nil{Y:Addr->Prop}{H:Hp}:Kr Y H []:=λp hp=>(by cases hp)
theorem Kr.or{Y Y':Addr->Prop}{H H':Hp}{ps:List (Addr×HO)}(h:Kr Y H ps)(g:Kr Y' H' ps):Kr (λx=>Y x\/Y' x) H' ps:=λp hp=>⟨(g p hp).1,(g p hp).2.1,λz=>z.elim (h p hp).2.2 (g p hp).2.2⟩
theorem Kr.ny{Y:Addr->Prop}{H:Hp}{ps:List (Addr×HO)}{a:Addr}{o:HO}(h:Kr Y H ps)(i:Nat)(e:ps[i]?=some (a,o)):¬ Y a:=(h _ (List.mem_of_getElem? e)).2.2
abbrev c2q:Stmt:=top 120
theorem a6v:g7 ["script","well","sizes","others","halls","books","firsts","move","some","before","k","fresh"] ["script"] (d8 c2q):=↑1
theorem e4i{
        fa:Addr}{fd:FuncData}(D:Fun K "law" "law" c2q fa fd)(T:Txt K mg cl)(G_law_take:qaf P w K mg qb)(G_law_well:FnT P w K mg qb "_law_well" 1 ["script","k"] (b1k K))(G_law_books:FnT P w K mg qb "_law_books" 1 [] b6r)(G_law_moves:FnT P w K mg qb "_law_moves" 2 ["script","first","most"] (b6q K))(G_Hall:MakeT P w K mg qb "Hall" cl.Hall 8 ["self","out_size","back_size"] (frS (a8o cl)))(G_law_all:FnT P w K mg qb "_law_all" 10 ["hall"] (b5c cl))(G_law_move:FnT P w K mg qb "_law_move" 12 ["hall","books","move","well","size"] (frS (b1l cl)))(G_law_hall_right:FnT P w K mg qb "_law_hall_right" 5 ["hall","books"] (frS (a3i cl)))(G_Hall_waiting:qat P w K mg qb cl)(G_Hall_done:qau P w K mg qb cl)(G_Hall_told:MethT P w K mg qb cl.Hall "told" 4 ["self"] (a2j cl true))(G_Hall_heard:MethT P w K mg qb cl.Hall "heard" 4 ["self"] (a2j cl false))(G_Hall_shelves:qav P w K mg qb cl):
  FnOk P w K mg qb (CXK P w) 13 fa fd ["script"] (d0i K):=by
 refine D.okX a6v ↑5 (λcdv A' outer s H vs Q E hr h=>?_)
 ·fail "l"
 ·obtain⟨a,ns,rfl,hS,hlen,k⟩:=h
  refine⟨_,(
        d5 (n6 (i:=1) a6v.nd rfl (.inl rfl) (k7 G_law_well hr ↑6 rfl i4 (a7 (pv 0) (a7 i8 d6))))
   (d5 (n6 (i:=2) a6v.nd rfl (.inl rfl) (@t7 _ _ _ _ (a7 (o8 a1b i8 (k7 G_law_take hr ↑6 rfl i4 (a7 (pv 1) (a7 i8 d6)))) (a7 (o8 a1b i8 (k7 G_law_take hr ↑6 rfl i4 (a7 (pv 1) (a7 i8 d6)))) d6))))
   (d5 (n6 (i:=3) a6v.nd rfl (.inl rfl) (@v4 _ _ _ _ _ _ _ (j4 (K:=K)) (@t7 _ _ _ _ (a7 (pv 2) (@pa_consL _ _ _ _ _ _ (@t7 _ _ _ _ (a7 (o8 a1b i8 (k7 G_law_take hr ↑6 rfl i4 (a7 (pv 1) (a7 i8 d6)))) (a7 (o8 a1b i8 (k7 G_law_take hr ↑6 rfl i4 (a7 (pv 1) (a7 i8 d6)))) d6))) d6))) (k7 G_law_take hr ↑6 rfl i4 (a7 (pv 1) (a7 i8 d6))) (λ_ _=>rfl)))
   (d5 (n6 (i:=4) a6v.nd rfl (.inl rfl) (@t7 _ _ _ _ (a7 (c5y G_Hall hr ↑6 rfl i4 (a7 (v4 (j4 (K:=K)) (pv 2) i8 (λ_ _=>rfl)) (a7 (v4 (j4 (K:=K)) (pv 2) i8 (λ_ _=>rfl)) d6))) (a7 (c5y G_Hall hr ↑6 rfl i4 (a7 (v4 (j4 (K:=K)) (pv 3) i8 (λ_ _=>rfl)) (a7 (v4 (j4 (K:=K)) (pv 3) i8 (λ_ _=>rfl)) d6))) d6))))
   (d5 (n6 (i:=5) a6v.nd rfl (.inl rfl) (@t7 _ _ _ _ (a7 (d0q G_law_books hr ↑6 rfl i4) (a7 (d0q G_law_books hr ↑6 rfl i4) d6))))
   (d5 (n6 (i:=6) a6v.nd rfl (.inl rfl) (@t7 _ _ _ _ (a7 (v4 (j4 (K:=K)) (pv 2) i8 (λ_ _=>rfl)) (a7 (v4 (j4 (K:=K)) (pv 3) i8 (λ_ _=>rfl)) d6))))
   (d5 (b4i a3u rfl (a1l (K:=K) (o8 d0t (@t7 _ _ _ _ (a7 i8 (a7 i8 d6))) (k7 G_law_moves hr ↑6 rfl i4 (a7 (pv 0) (a7 i8 (a7 i8 d6)))))) (y7 (i:=7) a6v.nd rfl (.inl rfl))
     (
     @d5 _ _ _ _ _ (@n6 _ _ 8 _ _ _ _ a6v.nd rfl (.inl rfl) (@v4 _ _ _ _ _ _ _ (j4 (K:=K)) (@t7 _ _ _ _ (@pa_consL _ _ _ _ _ _ (@t7 _ _ _ _ (a7 i8 d6)) (@pa_consL _ _ _ _ _ _ (@t7 _ _ _ _ (a7 i8 d6)) (@pa_consL _ _ _ _ _ _ (@t7 _ _ _ _ (a7 i8 d6)) (@pa_consL _ _ _ _ _ _ (@t7 _ _ _ _ (a7 i8 d6)) (@pa_consL _ _ _ _ _ _ (@t7 _ _ _ _ (a7 i8 (a7 i8 d6))) d6)))))) (k7 G_law_take hr ↑6 rfl i4 (a7 (pv 1) (a7 i8 d6))) (λ_ _=>rfl)) (by rfl) (by first|exact .inl rfl|exact .inr rfl))
     (d5 (c0z (ix:=9) (N:=["hall"]) (nt:=1) (fr:=[]) rfl (b0q rfl rfl (by decide +kernel) (by decide +kernel) rfl rfl) (a1l (K:=K) (pv 4)) (a6p ↑6) (λ_ _ _ _ _=>y7 (i:=0) (show(["hall"]:List Str).Nodup by decide +kernel) rfl (Or.inl rfl) (Or.inr rfl)) (λ_ _ _ _ _=>(k7 G_law_all hr ↑6 rfl d2h (a7 (pv 0) d6))) a6v.nd rfl rfl)
     (d5 (b4i a3u rfl (a1l (K:=K) (pv 8)) (y7 (i:=10) a6v.nd rfl (.inl rfl))
       (d9 (a0s (c0y (a8c (k7 G_law_move hr ↑6 rfl i4 (a7 (v4 (j4 (K:=K)) (pv 4) (pv 10) (λ_ _=>rfl)) (a7 (v4 (j4 (K:=K)) (pv 5) (pv 10) (λ_ _=>rfl)) (a7 (pv 7) (a7 (pv 1) (a7 (v4 (j4 (K:=K)) (pv 6) (pv 10) (λ_ _=>rfl)) d6))))))))
        (d9 (j1 a9s))
        v3)))
     (d9 (b4i a3u rfl (b4j rfl T.z_range (a7 i8 d6)) (y7 (i:=10) a6v.nd rfl (.inl rfl))
      (
       d5 (a0s (c0y (a8c (k7 G_law_hall_right hr ↑6 rfl i4 (a7 (v4 (j4 (K:=K)) (pv 4) (pv 10) (λ_ _=>rfl)) (a7 (v4 (j4 (K:=K)) (pv 5) (pv 10) (λ_ _=>rfl)) d6)))))
        (d9 (j1 a9s))
        v3)
       (d9 (a0s (PW.pt (d0n (k8 (c6a (K:=K)) (pv 10) (pv 8) (by with_unfolding_all rfl)) (c2v (k8 (b7c (K:=K) (n:=1) (huN hr 2)) (k7 G_law_all hr ↑6 rfl i4 (a7 (v4 (j4 (K:=K)) (pv 4) (pv 10) (λ_ _=>rfl)) d6)) (v4 (j4 (K:=K)) (pv 9) (pv 10) (λ_ _=>rfl)) (n9 _)))))
        (d9 (j1 a9s))
        v3)))))))))
   (d5 (n6 (i:=11) a6v.nd rfl (.inl rfl) (c5y G_Hall hr ↑6 rfl i4 (a7 (v4 (j4 (K:=K)) (pv 2) i8 (λ_ _=>rfl)) (a7 (v4 (j4 (K:=K)) (pv 2) i8 (λ_ _=>rfl)) d6))))
   (d9 (j1 (a3t (e4g (K:=K) (n:=1) (huN hr 2)) (@t7 _ _ _ _ (a7 (a0m (pv 11) T.k_Hall G_Hall_waiting hr ↑6 i4) (a7 (a0m (pv 11) T.k_Hall G_Hall_done hr ↑6 i4) (a7 (a0m (pv 11) T.k_Hall G_Hall_told hr ↑6 i4) (a7 (a0m (pv 11) T.k_Hall G_Hall_heard hr ↑6 i4) (a7 (a0m (pv 11) T.k_Hall G_Hall_shelves hr ↑6 i4) d6)))))) (@t7 _ _ _ _ (@pa_consL _ _ _ _ _ _ (@t7 _ _ _ _ d6) (@pa_consL _ _ _ _ _ _ (@t7 _ _ _ _ d6) (@pa_consL _ _ _ _ _ _ (@t7 _ _ _ _ d6) (@pa_consL _ _ _ _ _ _ (@t7 _ _ _ _ d6) (a7 (o8 d4r (@t7 _ _ _ _ (a7 i8 d6)) i8) d6)))))) (n9 _)))))))))))),?_⟩
  have h60:6000<=sizeLine:=by decide
  ext;refine⟨a,ns,0,rfl,hS,by lia,λwl H1 nwl s1 w1=>?_⟩
  ext;refine⟨wl,7,rfl,w1,by decide,by decide,λr2 H2 a2 c2 w2 b2=>?_⟩
  ext;refine⟨wl,7,rfl,w2,by decide,by decide,λr3 H3 a3 c3 w3 b3=>?_⟩
  obtain⟨n,en⟩:∃n:Nat,(n:Int)=2+r2:=⟨(2+r2).toNat,by lia⟩
  obtain⟨m,em⟩:∃m:Nat,(m:Int)=2+r3:=⟨(2+r3).toNat,by lia⟩
  have B3:=(But.of s1).trans (b2.trans b3);ext;rw[<- en,<- em];refine⟨(show 2<=sizeLine by decide),λsz hsz=>?_⟩
  generalize u4:upd H3 sz _=H4;obtain⟨s4,e4⟩:=nwS u4 hsz;have nsz:=w3.ne hsz;ext;refine⟨wl,7,rfl,w3.same s4,by decide,by decide,λr5 H5 a5 c5 w5 b5=>?_⟩
  ext;refine⟨wl,7,rfl,w5,by decide,by decide,λr6 H6 a6 c6 w6 b6=>?_⟩
  obtain⟨n',en'⟩:∃n:Nat,(n:Int)=2+r5:=⟨(2+r5).toNat,by lia⟩
  obtain⟨m',em'⟩:∃m:Nat,(m:Int)=2+r6:=⟨(2+r6).toNat,by lia⟩
  ext;rw[<- en',<- em'];refine⟨(show 2<=sizeLine by decide),λs2 hs2=>?_⟩
  generalize u7:upd H6 s2 _=H7;obtain⟨s7,e7⟩:=nwS u7 hs2;have ns2:=w6.ne hs2;ext;refine⟨(show 2<=sizeLine by decide),λol hol=>?_⟩
  generalize u8:upd H7 ol _=H8;obtain⟨s8,e8⟩:=nwS u8 hol;have nol:=(w6.same s7).ne hol;ext;refine⟨wl,2,rfl,(w6.same s7).same s8,by decide,by decide,λr9 H9 a9 c9 w9 b9=>?_⟩
  have e49:H9 sz=some (.lst [.int n,.int m]):=b9 _ _ (s8 _ _ (s7 _ _ (b6 _ _ (b5 _ _ e4 nsz) nsz))) nsz;have e79:=b9 _ _ (s8 _ _ e7) ns2;have e89:=b9 _ _ e8 nol;obtain⟨ot,n1,m1,hat,eot,nb1,nb2,nb3,nb4⟩:∃(ot:Addr)(n1 m1:Nat),atI [V.ref sz,V.ref s2] r9=some (V.ref ot)/\H9 ot=some (.lst [.int n1,.int m1])/\(2<=n1/\n1<=8/\2<=m1/\m1<=8):=by
   have cr:r9=0\/r9=1:=by lia
   rcases cr with rfl|rfl
   ·exact⟨_,n,m,rfl,e49,by lia⟩
   ·exact⟨_,n',m',rfl,e79,by lia⟩
  refine a0w e89 hat ?_;have B9:But wl H H9:=(((B3.trans (But.of s4)).trans (b5.trans b6)).trans (But.of (s7.trans s8))).trans b9;have s09:Same H H9:=λx o e=>B9 _ _ e λz=>by rw[z,nwl] at e;cases e
  obtain⟨nb5,nb6,nb7,nb8⟩:2<=n/\n<=8/\2<=m/\m<=8:=by lia
  obtain⟨wx,wy,wz,ew9,wb⟩:=w9;have K9:Kr (λ_=>False) H9 [(wl,.lst [.int wx,.int wy,.int wz]),(ot,.lst [.int n1,.int m1]),(sz,.lst [.int n,.int m])]:=((Kr.nil.add e49 rfl id).add eot rfl id).add ew9 rfl id;clear b2 b3 b5 b6 b9 B3 B9 w2 w3 w5 w6 u4 u7 u8 s4 s7 s8 e4 e7 e8 e79 e89 hsz hs2 hol hat s1 w1 ns2 nol;ext;intro h0 dx0 hh0 hd0 _;have sm0:=d0w (u:=.own h0) (o:=.ins cl.Hall dx0 []) hh0 hd0;have eh0:upd (upd H9 dx0 (.own h0)) h0 (.ins cl.Hall dx0 []) h0=some (.ins cl.Hall dx0 []):=d7;generalize upd (upd H9 dx0 _) h0 _=H10 at *;refine c9j eh0 nb5 nb6 nb7 nb8 λX0 H11 P0 kx0 _=>⟨rfl,?_⟩;have K11:=(K9.new hh0 sm0).kx kx0;have ax:AX K X0 H11 a (ns.map V.int):=AX.of hS λo e n=>kx0 _ _ (sm0 _ _ (s09 _ _ e)) n (g9 (s09 _ _ e) hh0);have e11:=K11.at 1 rfl;clear K9 kx0 eh0 sm0 hd0 hh0 s09 e49 eot ew9;ext;intro h1 dx1 hh1 hd1 _;have sm1:=d0w (u:=.own h1) (o:=.ins cl.Hall dx1 []) hh1 hd1;have eh1:upd (upd H11 dx1 (.own h1)) h1 (.ins cl.Hall dx1 []) h1=some (.ins cl.Hall dx1 []):=d7;generalize upd (upd H11 dx1 _) h1 _=H12 at *;refine c9j eh1 nb1 nb2 nb3 nb4 λX1 H13 P1 kx1 rest=>⟨rfl,?_⟩;obtain⟨X,PX,sub,dj⟩:=rest X0 h0 _ (P0.same sm1) (P0.no hh1);have K13:=(K11.less sub).or ((K11.new hh1 sm1).kx kx1);have ax:=ax.to λo e n _=>kx1 _ _ (sm1 _ _ e) n (g9 e hh1);clear rest P0 K11 kx1 eh1 sm1 hd1 hh1 e11;ext;refine⟨(show 2<=sizeLine by decide),λhs hhs=>?_⟩
  generalize u14:upd H13 hs _=H14;obtain⟨s14,e14⟩:=nwS u14 hhs;have K14:=(K13.kx (KX.sm s14)).add e14 rfl λz=>z.elim (PX.no hhs) (P1.no hhs);have PX:=PX.same s14;have P1:=P1.same s14;have ax:=ax.to λo e _ y=>⟨s14 _ _ e,y⟩;have nhs:wl≠hs:=g9 (K13.at 0 rfl) hhs;clear u14 K13 s14 e14 hhs;ext;refine⟨rfl,λbk0 oa0 dn0 td0 sh0 H15 nb0 s15 br0=>?_⟩;ext;refine⟨rfl,λbk1 oa1 dn1 td1 sh1 H16 nb1' s16 br1=>?_⟩;have s46:=s15.trans s16;have L16:=L2I.mk' (wl:=wl) (PX.same s46) (P1.same s46) dj ((br0 n m).same s16) (br1 n1 m1) (λx hx=>⟨PX.no (nb0 x hx),P1.no (nb0 x hx),λz=>g9 (K14.at 1 rfl) (nb0 x hx) z.symm⟩)
   (λx hx=>⟨PX.no (s15.free (nb1' x hx)),P1.no (s15.free (nb1' x hx)),λz=>g9 (K14.at 1 rfl) (s15.free (nb1' x hx)) z.symm,λz=>by
    obtain⟨o,e,_⟩:=(br0 n m).at z;rw[nb1' x hx] at e;cases e⟩) ⟨wx,wy,wz,s46 _ _ (K14.at 1 rfl),wb⟩ (λz=>(K14 _ (List.mem_cons_of_mem _ (List.mem_cons_self ..))).2.2 (.inl z)) (λz=>(K14 _ (List.mem_cons_of_mem _ (List.mem_cons_self ..))).2.2 (.inr z))
  have y2:∀{x:Addr}{o:HO},H14 x=some o->¬ (X x\/X1 x)->x≠wl->¬ Y2 (λb=>bif b then unN h1 bk1 oa1 dn1 td1 sh1 n1 m1 X1 else unN h0 bk0 oa0 dn0 td0 sh0 n m X) wl x:=λ{x o} e ny nw z=>by
   rcases z with ⟨b,z⟩|z
   ·cases b
    ·have z:UZ X bk0 oa0 dn0 td0 sh0 [] x:=z
     rcases z with z|z
     ·exact ny (.inl z)
     ·rw[nb0 x z] at e;cases e
    ·have z:UZ X1 bk1 oa1 dn1 td1 sh1 [] x:=z
     rcases z with z|z
     ·exact ny (.inr z)
     ·have:=s15 _ _ e
      rw[nb1' x z] at this;cases this
   ·exact nw z
  have R16:=(Kr.nil.add (s46 _ _ (K14.at 3 rfl)) rfl (y2 (K14.at 3 rfl) (K14.ny 3 rfl) nsz)).add (s46 _ _ (K14.at 0 rfl)) rfl (y2 (K14.at 0 rfl) (K14.ny 0 rfl) nhs.symm);have ua:UA (pk h0 h1) (pk bk0 bk1) (λb=>bif b then unN h1 bk1 oa1 dn1 td1 sh1 n1 m1 X1 else unN h0 bk0 oa0 dn0 td0 sh0 n m X):=λb=>by cases b <;> exact⟨rfl,rfl⟩
  have o16:=s46 _ _ (K14.at 2 rfl);have ax16:=ax.to λo e _ y=>⟨s46 _ _ e,y⟩;clear y2 K14 PX P1 dj ax nb0 nb1' br0 br1 s15 s16 s46 nhs sub;generalize (λb=>bif b then unN h1 bk1 oa1 dn1 td1 sh1 n1 m1 X1 else unN h0 bk0 oa0 dn0 td0 sh0 n m X)=U0 at *;ext;refine⟨(show 2<=sizeLine by decide),λbs hbs=>?_⟩
  generalize u17:upd H16 bs _=H17;obtain⟨s17,e17⟩:=nwS u17 hbs;have R17:=(R16.kx (KX.sm s17)).add e17 rfl (L16.fy hbs);have z17:=R17.at 2 rfl;have o17:=s17 _ _ o16;ext;refine⟨(show 2<=sizeLine by decide),λfs hfs=>?_⟩
  generalize u18:upd H17 fs _=H18;obtain⟨s18,e18⟩:=nwS u18 hfs;have L17:=L16.same s17;have R18:=(R17.kx (KX.sm s18)).add e18 rfl (L17.fy hfs);have L18:=L17.same s18;ext;refine⟨(show 2<=sizeLine by decide),λp6 hp6=>?_⟩
  generalize u19:upd H18 p6 _=H19;obtain⟨s19,e19⟩:=nwS u19 hp6;have s69:=(s17.trans s18).trans s19;ext;refine⟨a,ns,1,300,rfl,(ax16.to λo e _ y=>⟨s69 _ _ e,y⟩).sq,hlen,by decide,by decide,λml H20 row hml eml s20 lrow hrow=>?_⟩
  refine d5s (s20 _ _ e19) eml (by rw[List.length_map];show 2+row.length<=sizeLine;lia) λmv hmv=>?_
  rw[show([.int 6,.int 6]:List V)++row.map V.int=((6::6::row):List Int).map V.int from rfl];generalize u21:upd H20 mv _=H21;obtain⟨s21,e21⟩:=nwS u21 hmv;have L20:=(L18.same s19).same s20;have R21:=(((R18.kx (KX.sm s19)).kx (KX.sm s20)).kx (KX.sm s21)).add e21 rfl (L20.fy hmv);have L21:=L20.same s21;have hrow:∀x∈((6::6::row):List Int),0<=x/\x<=8:=λx hx=>by
   simp only[List.mem_cons] at hx;rcases hx with rfl|rfl|hx
   ·decide
   ·decide
   ·exact hrow x hx
  have lrow:((6::6::row):List Int).length<=302:=by show row.length+2<=302;lia
  generalize ((6::6::row):List Int)=ms at *;clear u17 u18 u19 u21 L16 L17 L18 L20 R16 R17 R18 e17 e18 e19 e21 eml hml hmv hbs hfs hp6 s17 s18 s19 s20 s21 s69 z17 o17 o16 ax16 hS;ext;refine⟨mv,rfl,⟨_,SqL.of (R21.at 0 rfl)⟩,for_listH (xs:=ms.map V.int) (λi σ H'=>∃(U:Bool->Un)(x7 x8 x9 x10:Option V),σ=[some (.ref a),some (.ref wl),some (.ref sz),some (.ref ot),some (.ref hs),some (.ref bs),some (.ref fs),x7,x8,x9,x10,none]/\L2I cl wl (λb=>bif b then n1 else n) H' U (2*i)/\UA (pk h0 h1) (pk bk0 bk1) U/\Kr (Y2 U wl) H' [(mv,.lst (ms.map V.int)),(fs,.lst [.int n,.int n1]),(bs,.lst [.ref bk0,.ref bk1]),(hs,.lst [.ref h0,.ref h1]),(sz,.lst [.int n,.int m])]) ⟨U0,_,_,_,_,rfl,L21,ua,R21⟩ ?_ ?_ ?_⟩
  ·rintro i σ H' _ ⟨U,_,_,_,_,_,_,_,R⟩
   exact SqL.of (R.at 0 rfl)
  ·rintro i x σ H22 hx ⟨U,x7,x8,x9,x10,rfl,L22,ua,R22⟩
   obtain⟨v,v0,v8,hi,rfl⟩:∃v:Int,0<=v/\v<=8/\i<302/\x=.int v:=by
    have hi:=(List.getElem?_eq_some_iff.mp hx).1;rw[List.length_map] at hi;rw[List.getElem?_map,List.getElem?_eq_getElem hi] at hx;cases hx;obtain⟨p,q⟩:=hrow _ (List.getElem_mem hi);exact⟨_,p,q,by lia,rfl⟩
   clear L21 R21 hx hrow lrow;ext;refine⟨(show 1<=sizeLine by decide),λq1 hq1=>?_⟩
   generalize u1:upd H22 q1 _=J1;obtain⟨t1,f1⟩:=nwS u1 hq1;have y1:=L22.fy hq1;have L1:=L22.same t1;ext;refine⟨(show 1<=sizeLine by decide),λq2 hq2=>?_⟩
   generalize u2:upd J1 q2 _=J2;obtain⟨t2,f2⟩:=nwS u2 hq2;have y2:=L1.fy hq2;have L2:=L1.same t2;ext;refine⟨(show 1<=sizeLine by decide),λq3 hq3=>?_⟩
   generalize u3:upd J2 q3 _=J3;obtain⟨t3,f3⟩:=nwS u3 hq3;have y3:=L2.fy hq3;have L3:=L2.same t3;ext;refine⟨(show 1<=sizeLine by decide),λq4 hq4=>?_⟩
   generalize u4:upd J3 q4 _=J4;obtain⟨t4,f4⟩:=nwS u4 hq4;have y4:=L3.fy hq4;have L4:=L3.same t4;ext;refine⟨(show 2<=sizeLine by decide),λq5 hq5=>?_⟩
   generalize u5:upd J4 q5 _=J5;obtain⟨t5,f5⟩:=nwS u5 hq5;have y5:=L4.fy hq5;have L5:=L4.same t5;ext;refine⟨(show 5<=sizeLine by decide),λq6 hq6=>?_⟩
   generalize u6:upd J5 q6 _=J6;obtain⟨t6,f6⟩:=nwS u6 hq6;have y6:=L5.fy hq6;have L6:=L5.same t6;ext;refine⟨wl,5,rfl,L6.we,by decide,by decide,λr J7 ra rc w7 b7=>?_⟩
   have R7:=(R22.kx (KX.sm (((((t1.trans t2).trans t3).trans t4).trans t5).trans t6))).kx (KX.bt (.inr rfl) b7);obtain⟨sl,xs,hat,esl,nsl,hxs⟩:∃(sl:Addr)(xs:List Int),atI [V.ref q1,V.ref q2,V.ref q3,V.ref q4,V.ref q5] r=some (V.ref sl)/\J7 sl=some (.lst (xs.map V.int))/\¬ Y2 U wl sl/\(xs=[0]\/xs=[1]\/xs=[0,1]):=by
    have cr:r=0\/r=1\/r=2\/r=3\/r=4:=by lia
    rcases cr with rfl|rfl|rfl|rfl|rfl
    ·exact⟨_,[0],rfl,b7 _ _ (t6 _ _ (t5 _ _ (t4 _ _ (t3 _ _ (t2 _ _ f1))))) λz=>y1 (.inr z),y1,.inl rfl⟩
    ·exact⟨_,[1],rfl,b7 _ _ (t6 _ _ (t5 _ _ (t4 _ _ (t3 _ _ f2)))) λz=>y2 (.inr z),y2,.inr (.inl rfl)⟩
    ·exact⟨_,[0],rfl,b7 _ _ (t6 _ _ (t5 _ _ (t4 _ _ f3))) λz=>y3 (.inr z),y3,.inl rfl⟩
    ·exact⟨_,[1],rfl,b7 _ _ (t6 _ _ (t5 _ _ f4)) λz=>y4 (.inr z),y4,.inr (.inl rfl)⟩
    ·exact⟨_,[0,1],rfl,b7 _ _ (t6 _ _ f5) λz=>y5 (.inr z),y5,.inr (.inr rfl)⟩
   refine a0w (b7 _ _ f6 λz=>y6 (.inr z)) hat ?_;have L7:=L6.but b7 w7;have R7:=R7.add esl rfl nsl;have eh7:=R7.at 4 rfl;clear u1 u2 u3 u4 u5 u6 t1 t2 t3 t4 t5 t6 f1 f2 f3 f4 f5 f6 y1 y2 y3 y4 y5 y6 L22 R22 L1 L2 L3 L4 L5 L6 hq1 hq2 hq3 hq4 hq5 hq6 w7 b7 hat esl nsl;ext;refine a7d (xs:=[.ref h0,.ref h1]) (show 2<sizeLine by decide) (λD i acc H'=>H' D=some (.lst acc)/\Same J7 H'/\acc.length=i/\∀b,bN b<i->∃t oc bc st,acc[bN b]?=some (V.ref t)/\Bf J7 H' D (U b).S t oc bc st) (λD hD=>⟨d7,i9 hD,rfl,λb hb=>absurd hb (Nat.not_lt_zero _)⟩) ?_ ?_ ?_
   ·rintro D i acc H' ⟨e',s',hl',_⟩
    exact⟨e',hl',SqL.of (s' _ _ eh7)⟩
   ·rintro D i x acc H' hD hx ⟨e',s',hl',hb⟩
    obtain⟨b,rfl,rfl⟩:∃b,i=bN b/\x=.ref (pk h0 h1 b):=by
     have hi:i<2:=(List.getElem?_eq_some_iff.mp hx).1;rcases (show i=0\/i=1 by lia) with rfl|rfl
     ·cases hx;exact⟨false,rfl,rfl⟩
     ·cases hx;exact⟨true,rfl,rfl⟩
    ext;refine (L7.same s').al b (ua b).1 λt oc bc st H5 s5 f m=>?_;refine⟨s5 _ _ e',d7,λx u eu=>?_,by rw[List.length_append,hl'];rfl,λc hc=>?_⟩
    ·rw[c7 (g9 eu hD)]
     exact s5 _ _ (s' _ _ eu)
    ·by_cases cb:c=b
     ·subst cb
      have nn:t≠D/\oc≠D/\bc≠D/\st≠D:=⟨(g9 e' f.t).symm,(g9 e' f.oc).symm,(g9 e' f.bc).symm,(g9 e' f.st).symm⟩;exact⟨t,oc,bc,st,by rw[List.getElem?_append_right (Nat.le_of_eq hl'),hl',Nat.sub_self];rfl,⟨s'.free f.t,s'.free f.oc,s'.free f.bc,s'.free f.st⟩,m.upd nn,nn⟩
     ·have hc:bN c<bN b:=by
       cases b <;> cases c <;> first|exact absurd rfl cb|(revert hc;decide)
      obtain⟨t',oc',bc',st',g,B⟩:=hb c hc;exact⟨t',oc',bc',st',by rw[List.getElem?_append_left (by rw[hl'];exact hc)];exact g,B.f,(B.m.sm s5).upd B.n,B.n⟩
   rintro D acc H8 hD ⟨e8,s8,hl8,hb8⟩;obtain⟨t0,oc0,bc0,st0,g0,B0⟩:=hb8 false (show 0<2 by decide)
   obtain⟨t1,oc1,bc1,st1,g1,B1⟩:=hb8 true (show 1<2 by decide)
   have ea:acc=[.ref t0,.ref t1]:=List.ext_getElem? λj=>by
    by_cases hj:j<2
    ·rcases (show j=0\/j=1 by lia) with rfl|rfl
     ·exact g0
     ·exact g1
    ·rw[List.getElem?_eq_none (by rw[hl8];show 2<=j;lia),List.getElem?_eq_none (by show 2<=j;lia)]
   subst ea;have R8:=(((R7.kx (KX.sm s8)).bf B1 λx hx=>L7.fy hx).bf B0 λx hx=>L7.fy hx).add e8 rfl (L7.fy hD);have L8:=L7.same s8;have esl:=R8.at 9 rfl;clear hb8 B0 B1 g0 g1 e8 s8 hl8 hD R7 L7 eh7;ext;refine for_listH (xs:=xs.map V.int) (λq σ H'=>∃(U':Bool->Un)(x10:Option V),σ=[some (.ref a),some (.ref wl),some (.ref sz),some (.ref ot),some (.ref hs),some (.ref bs),some (.ref fs),some (.int v),some (.ref sl),some (.ref D),x10,none]/\L2I cl wl (λb=>bif b then n1 else n) H' U' (2*i+q)/\UA (pk h0 h1) (pk bk0 bk1) U'/\Kr (Y2 U' wl) H' ((D,.lst [.ref t0,.ref t1])::(tw (U false).S t0 oc0 bc0 st0++(tw (U true).S t1 oc1 bc1 st1++[(sl,.lst (xs.map V.int)),(mv,.lst (ms.map V.int)),(fs,.lst [.int n,.int n1]),(bs,.lst [.ref bk0,.ref bk1]),(hs,.lst [.ref h0,.ref h1]),(sz,.lst [.int n,.int m])])))/\∀b,bI b ∉ xs->(U' b).S=(U b).S) ⟨U,_,rfl,L8,ua,R8,λ_ _=>rfl⟩ ?_ ?_ ?_
   ·rintro q σ H' _ ⟨U',_,_,_,_,R,_⟩
    exact SqL.of (R.at 9 rfl)
   ·rintro q x σ H9 hx ⟨U',x10,rfl,L9,ua9,R9,sm⟩
    obtain⟨b,hb,hq,rfl⟩:∃b,bI b∈xs/\q<2/\x=.int (bI b):=by
     have hq:=(List.getElem?_eq_some_iff.mp hx).1;rw[List.length_map] at hq;rw[List.getElem?_map,List.getElem?_eq_getElem hq] at hx;cases hx;have hm:=List.getElem_mem hq;rcases hxs with rfl|rfl|rfl
     ·exact⟨false,by decide,Nat.lt_succ_of_lt hq,by rw[List.mem_singleton.mp hm];rfl⟩
     ·exact⟨true,by decide,Nat.lt_succ_of_lt hq,by rw[List.mem_singleton.mp hm];rfl⟩
     ·rcases List.mem_cons.mp hm with z|z
      ·exact⟨false,by decide,hq,by rw[z];rfl⟩
      ·exact⟨true,by decide,hq,by rw[List.mem_singleton.mp z];rfl⟩
    ext;refine a0w (R9.at 13 rfl) (at2 b) ?_;ext;refine a0w (R9.at 12 rfl) (at2 b) ?_;ext;refine a0w (v:=.int ((bif b then n1 else n:Nat):Int)) (R9.at 11 rfl) (by cases b <;> rfl) ?_
    ext;refine L9.mv b (ua9 b).1 (ua9 b).2 v0 v8 (by cases b <;> assumption) ↑3 λU2 H10 uk sS L10 kx=>?_
    ext;refine⟨U2,_,rfl,L10,ua9.to uk,R9.kx kx,λc hc=>?_⟩;have cb:=e2n (b:=b) (c:=c) λz=>hc (z ▸ hb);rw[cb,sS,<- cb];exact sm c hc
   rintro σ H9 ⟨U',x10,rfl,L9,ua9,R9,sm⟩;have hx2:(xs.map V.int).length<=2:=by rcases hxs with rfl|rfl|rfl <;> decide
   have L9:=L9.le (Nat.add_le_add_left hx2 (2*i));clear L8 R8 esl ua hx2;ext;refine b6k (λq σ H'=>∃(U':Bool->Un)(x10:Option V),σ=[some (.ref a),some (.ref wl),some (.ref sz),some (.ref ot),some (.ref hs),some (.ref bs),some (.ref fs),some (.int v),some (.ref sl),some (.ref D),x10,none]/\L2I cl wl (λb=>bif b then n1 else n) H' U' (2*i+2)/\UA (pk h0 h1) (pk bk0 bk1) U'/\Kr (Y2 U' wl) H' ((D,.lst [.ref t0,.ref t1])::(tw (U false).S t0 oc0 bc0 st0++(tw (U true).S t1 oc1 bc1 st1++[(sl,.lst (xs.map V.int)),(mv,.lst (ms.map V.int)),(fs,.lst [.int n,.int n1]),(bs,.lst [.ref bk0,.ref bk1]),(hs,.lst [.ref h0,.ref h1]),(sz,.lst [.int n,.int m])])))/\∀b,bI b ∉ xs->(U' b).S=(U b).S) ⟨U',_,rfl,L9,ua9,R9,sm⟩ ?_ ?_
   ·clear L9 R9 ua9 sm
    rintro q σ H9 hq ⟨U',x10',rfl,L9,ua9,R9,sm⟩;obtain⟨b,eb⟩:∃b,(0+(q:Int))=bI b:=by
     rcases (show q=0\/q=1 by lia) with rfl|rfl
     ·exact⟨false,rfl⟩
     ·exact⟨true,rfl⟩
    rw[eb];ext;refine a0w (R9.at 13 rfl) (at2 b) ?_;ext;refine a0w (R9.at 12 rfl) (at2 b) ?_;ext;refine L9.rt b (ua9 b).1 (ua9 b).2 λU2 H10 uk sS L10 kx=>?_;have R10:=R9.kx kx;have ua10:=ua9.to uk;have sm10:∀b,bI b ∉ xs->(U2 b).S=(U b).S:=λc hc=>(sS c).trans (sm c hc);clear L9 R9 ua9 kx uk sS sm;ext;refine⟨sl,_,rfl,.inl (SqL.of (R10.at 9 rfl)),rfl,b9s _,?_⟩;by_cases hm:bI b∈xs
    ·rw[show(if true=true then !inV (.int (bI b)) (xs.map V.int) else inV (.int (bI b)) (xs.map V.int))=false from by rw[if_pos rfl,d1c,decide_eq_true hm];rfl]
     ext;exact⟨U2,_,rfl,L10,ua10,R10,sm10⟩
    ·rw[show(if true=true then !inV (.int (bI b)) (xs.map V.int) else inV (.int (bI b)) (xs.map V.int))=true from by rw[if_pos rfl,d1c,decide_eq_false hm];rfl]
     ext;refine a0w (R10.at 13 rfl) (at2 b) ?_;ext;refine L10.al b (ua10 b).1 λt oc bc st H11 s11 f m=>?_;rw[sm10 b hm] at m;have R11:=R10.kx (KX.sm s11);ext;refine a0w (R11.at 0 rfl) (at2 b) ?_;refine c4i (b:=true) ?_ ?_
     ·cases b
      ·exact d9n (t:=t0) (oc:=oc0) (bc:=bc0) (st:=st0) ⟨R10.at 1 rfl,R10.at 2 rfl,R10.at 3 rfl,R10.at 4 rfl⟩ f s11 m
      ·exact d9n (t:=t1) (oc:=oc1) (bc:=bc1) (st:=st1) ⟨R10.at 5 rfl,R10.at 6 rfl,R10.at 7 rfl,R10.at 8 rfl⟩ f s11 m
     ext;exact⟨U2,_,rfl,L10.same s11,ua10,R11,sm10⟩
   rintro σ H10 ⟨U2,x10',rfl,L10,ua10,R10,_⟩;ext;exact⟨U2,_,_,_,_,rfl,L10,ua10,λp hp=>R10 p (List.mem_cons_of_mem _ (List.mem_append_right _ (List.mem_append_right _ (List.mem_cons_of_mem _ hp))))⟩
  ·rintro σ H30 ⟨U,x7,x8,x9,x10,rfl,_,_,R30⟩
   have z30:=R30.at 4 rfl;clear L21 R21 R30 hrow lrow ua;ext;intro h2 dx2 hh2 hd2 _;have eh2:upd (upd H30 dx2 (.own h2)) h2 (.ins cl.Hall dx2 []) h2=some (.ins cl.Hall dx2 []):=d7;generalize upd (upd H30 dx2 _) h2 _=H31 at *;refine c9j eh2 nb5 nb6 nb7 nb8 λX2 H32 P2 _ _=>⟨rfl,?_⟩;obtain⟨dx,la,lb,su,fi,ex⟩:=P2.ob;ext;refine⟨h2,a1t n m,rfl,P2.all,Nat.zero_le _,λp1 G1 _ s1 f1=>?_⟩;have ex1:=s1 _ _ ex;ext;refine⟨h2,a1t n m,rfl,(P2.same s1).all,λp2 hp2=>?_⟩;generalize u2:upd G1 p2 _=G2;obtain⟨s2,f2⟩:=nwS u2 hp2;have s2':=s1.trans s2;have ex2:=s2' _ _ ex;ext;refine⟨h2,a1t n m,rfl,(P2.same s2').all,Nat.zero_le _,λp3 acc3 G3' G3 s3' _ tp3=>?_⟩;have f3:=tp3.rw.nil;have s3:=s3'.trans tp3.2.1;have s3x:=s2'.trans s3;have ex3:=s3x _ _ ex;ext;refine⟨h2,a1t n m,rfl,(P2.same s3x).all,Nat.zero_le _,λp4 acc4 G4' G4 s4' _ tp4=>?_⟩;have f4:=tp4.rw.nil;have s4:=s4'.trans tp4.2.1;have s4x:=s3x.trans s4;have ex4:=s4x _ _ ex;ext;refine⟨h2,a1t n m,rfl,(P2.same s4x).all,λp5 hp5=>?_⟩;generalize u5:upd G4 p5 _=G5;obtain⟨s5,f5⟩:=nwS u5 hp5;ext;refine⟨(show 5<=sizeLine by decide),λpl hpl=>?_⟩
   generalize u6:upd G5 pl _=G6;obtain⟨s6,f6⟩:=nwS u6 hpl;ext;refine⟨Nat.zero_le _,λq1 hq1=>?_⟩;generalize u7:upd G6 q1 _=G7;obtain⟨s7,f7⟩:=nwS u7 hq1;ext;refine⟨Nat.zero_le _,λq2 hq2=>?_⟩;generalize u8:upd G7 q2 _=G8;obtain⟨s8,f8⟩:=nwS u8 hq2;ext;refine⟨Nat.zero_le _,λq3 hq3=>?_⟩;generalize u9:upd G8 q3 _=G9;obtain⟨s9,f9⟩:=nwS u9 hq3;ext;refine⟨Nat.zero_le _,λq4 hq4=>?_⟩;generalize u10:upd G9 q4 _=G10;obtain⟨s10,f10⟩:=nwS u10 hq4;ext;refine⟨(show 1<=sizeLine by decide),λq0 hq0=>?_⟩
   generalize u11:upd G10 q0 _=G11;obtain⟨s11,f11⟩:=nwS u11 hq0;ext;refine⟨q0,4,_,rfl,rfl,f11,by decide,by decide,(show 1*4<=sizeLine by decide),λq5 hq5=>?_⟩
   rw[show(List.replicate (4:Int).toNat [V.int 0]).flatten=(a1t n m).sm.map V.int from rfl];generalize u12:upd G11 q5 _=G12;obtain⟨s12,f12⟩:=nwS u12 hq5;ext;refine⟨(show 5<=sizeLine by decide),λpr hpr=>?_⟩
   generalize u13:upd G12 pr _=G13;obtain⟨s13,f13⟩:=nwS u13 hpr;have sa:=((((s6.trans s7).trans s8).trans s9).trans s10).trans (s11.trans (s12.trans s13));have sb:=s8.trans (s9.trans (s10.trans (s11.trans (s12.trans s13))));have sc:=s5.trans sa;have sd:=s4.trans sc;have se:=s3.trans sd;have sf:=s2.trans se;have g6:=s7.trans sb;refine e7q (b:=true) (d8z (g9 (s12 _ _ (s11 _ _ (s10 _ _ (s9 _ _ (s8 _ _ (s7 _ _ f6)))))) hpr) (g6 _ _ f6) f13
    (a3c (ns:=[]) (g9 (s6 _ _ (s5 _ _ (s4 _ _ (s3 _ _ (s2 _ _ f1))))) hq1) (sf _ _ f1) (sb _ _ f7))
    (a3c (ns:=[]) (g9 (s7 _ _ (s6 _ _ (s5 _ _ (s4 _ _ (s3 _ _ f2))))) hq2) (se _ _ f2) (s9.trans (s10.trans (s11.trans (s12.trans s13))) _ _ f8))
    (a3c (ns:=[]) (g9 (s8 _ _ (s7 _ _ (s6 _ _ (s5 _ _ (s4 _ _ f3))))) hq3) (sd _ _ f3) (s10.trans (s11.trans (s12.trans s13)) _ _ f9))
    (a3c (ns:=[]) (g9 (s9 _ _ (s8 _ _ (s7 _ _ (s6 _ _ (s5 _ _ f4))))) hq4) (sc _ _ f4) (s11.trans (s12.trans s13) _ _ f10))
    (a3c (ns:=(a1t n m).sm) (g9 (s11 _ _ (s10 _ _ (s9 _ _ (s8 _ _ (s7 _ _ (s6 _ _ f5)))))) hq5) (sa _ _ f5) (s13 _ _ f12))) ?_
   exact k _
end
end
section
open PySem PySem.Spec L2
section
variable{P:Program}{w:World}{K:Frag}{mg:Str->Option Value}{qb:Heap}{cl:Cl}
theorem DefV.mk'{x:Str}{st:Stmt}{ps:List Str}{f:Addr}{oc:Value}{od an:Option Addr}{osl:Array (Option Value)}{kV doc pm cdv ct:Value}(l:K.lookup f=some ⟨oc,od,.func (PySem.W.fnOf x x (a1u st) (a0q st) (d8 st) .none kV doc pm an cdv ct),osl⟩)(c:codeIn K cdv x=true)(k:keepIn K (.ref f)=true)(hb:∀(kV doc pm:Value) (an:Option Addr) (cdv ct:Value) (us:List Value),us.length=ps.length->bindArgs (PySem.W.fnOf x x (a1u st) (a0q st) (d8 st) .none kV doc pm an cdv ct) ⟨us,[]⟩=pure (ps.zip us)):DefV K f x st ps :=
 have F:=d1f (st:=st) (x:=x) (qual:=x) l c k
 ⟨_,F,F.binds hb⟩
inductive DTs(P:Program)(w:World)(K:Frag)(mg:Str->Option Value)(qb:Heap)(k:Nat):List (Str×Tok×Value)->List (Str×Sp)->Prop where
 | nil:DTs P w K mg qb k [] []
 | cons {x:Str} {tk:Tok} {f:Addr} {pn:List Str} {sp:Sp} {ps:List (Str×Tok×Value)} {sl:List (Str×Sp)} (F:FnV P w K mg qb f k pn sp) (r:DTs P w K mg qb k ps sl):DTs P w K mg qb k ((x,tk,.ref f)::ps) ((x,sp)::sl)
theorem DTs.keys{k:Nat}{ps:List (Str×Tok×Value)}{sl:List (Str×Sp)}(h:DTs P w K mg qb k ps sl):ps.map (·.1)=sl.map (·.1):=by
 induction h with
 | nil=>rfl
 | cons F r ih=>simp only[List.map_cons,ih]
theorem DTs.at{k:Nat}{ps:List (Str×Tok×Value)}{sl:List (Str×Sp)}(h:DTs P w K mg qb k ps sl){x:Str}{sp:Sp}(hx:(x,sp)∈sl):∃(i:Nat)(tk:Tok)(f:Addr)(pn:List Str),ps[i]?=some (x,tk,.ref f)/\FnV P w K mg qb f k pn sp:=by
 induction h with
 | nil=>cases hx
 | cons F r ih=>
  rcases List.mem_cons.mp hx with e|e
  ·cases e
   exact⟨0,_,_,_,rfl,F⟩
  ·obtain⟨i,tk,f,pn,a,b⟩:=ih e
   exact⟨i+1,tk,f,pn,a,b⟩
theorem c4r{kvs:List (Str×Value)}{x:Str}(h:x ∉ kvs.map (·.1)):valueAt kvs x=none:=by
 unfold valueAt;rw[List.find?_eq_none.mpr]
 ·rfl
 ·intro kv hkv z
  exact h (List.mem_map.mpr ⟨kv,hkv,of_decide_eq_true z⟩)
theorem DT.mk'{d:Addr}{k:Nat}{ps:List (Str×Tok×Value)}{sl:List (Str×Sp)}{ep:Nat}(hd:(d == sysModules)=false)(l:K.lookup d=some ⟨.type "dict",none,.dict (d9a w ps).toArray ep,#[]⟩)(h:DTs P w K mg qb k ps sl)(nd:(sl.map (·.1)).Nodup):DT P w K mg qb d k sl:=by
 have kd:=KDict.mk' (P:=P) hd l (by rw[h.keys];exact nd)
 have ke:(ps.map λp=>(p.1,p.2.2)).map (·.1)=sl.map (·.1):=by rw[List.map_map,<- h.keys];rfl
 refine⟨_,kd,λx sp hx=>?_,λx hx=>c4r (by rw[ke];exact hx)⟩
 obtain⟨i,tk,f,pn,a,b⟩:=h.at hx;exact⟨f,pn,valueAt_of_get (by rw[ke];exact nd) (i:=i) (by rw[List.getElem?_map,a];rfl),b⟩
end
section
variable{K:Frag}{mg:Str->Option Value}
inductive AtF(K:Frag)(f:Addr)(x q:Str)(st:Stmt):Prop
 | of {oc:Value} {od:Option Addr} {kV dc pm cd ct:Value} {an:Option Addr} {sl:Array (Option Value)} (l:K.lookup f=some ⟨oc,od,.func (PySem.W.fnOf x q (a1u st) (a0q st) (d8 st) .none kV dc pm an cd ct),sl⟩) (c:codeIn K cd q=true) (k:keepIn K (.ref f)=true):AtF K f x q st
abbrev BA(x q:Str)(st:Stmt)(ps:List Str):Prop:=∀(kV doc pm:Value)(an:Option Addr)(cdv ct:Value)(us:List Value),us.length=ps.length->bindArgs (PySem.W.fnOf x q (a1u st) (a0q st) (d8 st) .none kV doc pm an cdv ct) ⟨us,[]⟩=pure (ps.zip us)
theorem ba0{β:Type}{F G:List Value->β}(h:F []=G [])(us:List Value)(e:us.length=0):F us=G us:=by
 cases us with
 | nil=>exact h
 | cons=>cases e
theorem ba1{β:Type}{F G:List Value->β}(h:∀a,F [a]=G [a])(us:List Value)(e:us.length=1):F us=G us:=by
 cases us with
 | nil=>cases e
 | cons a t=>exact ba0 (F:=λt=>F (a::t)) (G:=λt=>G (a::t)) (h a) t (Nat.succ.inj e)
theorem ba2{β:Type}{F G:List Value->β}(h:∀a b,F [a,b]=G [a,b])(us:List Value)(e:us.length=2):F us=G us:=by
 cases us with
 | nil=>cases e
 | cons a t=>exact ba1 (F:=λt=>F (a::t)) (G:=λt=>G (a::t)) (h a) t (Nat.succ.inj e)
theorem ba3{β:Type}{F G:List Value->β}(h:∀a b c,F [a,b,c]=G [a,b,c])(us:List Value)(e:us.length=3):F us=G us:=by
 cases us with
 | nil=>cases e
 | cons a t=>exact ba2 (F:=λt=>F (a::t)) (G:=λt=>G (a::t)) (h a) t (Nat.succ.inj e)
theorem ba4{β:Type}{F G:List Value->β}(h:∀a b c d,F [a,b,c,d]=G [a,b,c,d])(us:List Value)(e:us.length=4):F us=G us:=by
 cases us with
 | nil=>cases e
 | cons a t=>exact ba3 (F:=λt=>F (a::t)) (G:=λt=>G (a::t)) (h a) t (Nat.succ.inj e)
theorem ba5{β:Type}{F G:List Value->β}(h:∀a b c d e,F [a,b,c,d,e]=G [a,b,c,d,e])(us:List Value)(e:us.length=5):F us=G us:=by
 cases us with
 | nil=>cases e
 | cons a t=>exact ba4 (F:=λt=>F (a::t)) (G:=λt=>G (a::t)) (h a) t (Nat.succ.inj e)
theorem AtF.t{h:Heap}{x:Str}{st:Stmt}{ps:List Str}{f:Addr}(X:K.In h)(G:h.Ns mainGlobals mg)(a:nsIn K mainGlobals x=some (some (.ref f)))(l:AtF K f x x st)(hb:BA x x st ps):DefT K mg x st ps :=
 by cases l with|of l c k=>exact .mk' X G a l c k hb
theorem AtF.v{x:Str}{st:Stmt}{ps:List Str}{f:Addr}(l:AtF K f x x st)(hb:BA x x st ps):DefV K f x st ps :=
 by cases l with|of l c k=>exact .mk' l c k hb
theorem AtF.m{C:Addr}{m q:Str}{st:Stmt}{ps:List Str}{f:Addr}(a:findIn K (.ref C) m=some (some (.ref f)))(i:isFn K (.ref f)=true)(l:AtF K f m q st)(hb:BA m q st ps):DefM K C m q st ps :=
 by cases l with|of l c k=>exact .mk' a i l c k hb
theorem AtF.k{f:Addr}{x q:Str}{st:Stmt}(l:AtF K f x q st):keepIn K (.ref f)=true:=by cases l with|of l c k=>exact k
inductive AtG(K:Frag)(x:Str)(st:Stmt):Prop
 | mk {f:Addr} (d:nsIn K mainGlobals x=some (some (.ref f))) (l:AtF K f x x st):AtG K x st
theorem AtG.of{x:Str}{st:Stmt}{f:Addr}{oc:Value}{od:Option Addr}{kV dc pm cd ct:Value}{an:Option Addr}{sl:Array (Option Value)}(d:nsIn K mainGlobals x=some (some (.ref f)))(l:K.lookup f=some ⟨oc,od,.func (PySem.W.fnOf x x (a1u st) (a0q st) (d8 st) .none kV dc pm an cd ct),sl⟩)(c:codeIn K cd x=true)(k:keepIn K (.ref f)=true):AtG K x st:=⟨d,.of l c k⟩
theorem AtG.t{h:Heap}{x:Str}{st:Stmt}{ps:List Str}(l:AtG K x st)(X:K.In h)(G:h.Ns mainGlobals mg)(hb:BA x x st ps):DefT K mg x st ps:=by cases l with|mk d l=>exact AtF.t X G d l hb
inductive AtM(K:Frag)(C:Addr)(m q:Str)(st:Stmt):Prop
 | mk {f:Addr} (d:findIn K (.ref C) m=some (some (.ref f))) (i:isFn K (.ref f)=true) (l:AtF K f m q st):AtM K C m q st
theorem AtM.of{C:Addr}{m q:Str}{st:Stmt}{f:Addr}{oc:Value}{od:Option Addr}{kV dc pm cd ct:Value}{an:Option Addr}{sl:Array (Option Value)}(d:findIn K (.ref C) m=some (some (.ref f)))(i:isFn K (.ref f)=true)(l:K.lookup f=some ⟨oc,od,.func (PySem.W.fnOf m q (a1u st) (a0q st) (d8 st) .none kV dc pm an cd ct),sl⟩)(c:codeIn K cd q=true)(k:keepIn K (.ref f)=true):AtM K C m q st:=⟨d,i,.of l c k⟩
theorem AtM.m{C:Addr}{m q:Str}{st:Stmt}{ps:List Str}(l:AtM K C m q st)(hb:BA m q st ps):DefM K C m q st ps:=by cases l with|mk d i l=>exact AtF.m d i l hb
end
end
open PySem L2
theorem all_mk{l:PySem.W.OpenLaw}{w:World}{K:Frag}{h:Heap}{mg:Str->Option Value}{fa:Addr}{af ae aa ab ad ac:Addr}{ei:Tok}{go:Tok}{hq:Tok}{fy:Tok}{fg:Tok}{kj:Tok}{ht:Tok}{eW:Tok}{hT:Tok}{hA:Tok}{jf:Tok}{gq:Tok}{bC:Addr}{eV:Nat}{cX:Array (Option Value)}{fW hW:Tok}{ax az aF aL aD aE ay ao aq am ap au aP bc bp bt aZ bb bq aQ bA aW bg bs aX bz bi aV bo:Addr}{kn cg bQ bL bu bD:Value}{gv cb:Option Addr}{er:Array (Option Value)}{aA aJ aI aH aK aG:Addr}{jr:Nat}{eq gO kz kk:Tok}{dJ:Nat}{dY hS jR kf:Tok}{jq hp fJ:Nat}{kE eI ki ju fQ eg:Tok}{cz cq:Addr}{hi ey:Array (Option Value)}{gz:Nat}{ia dd fA iw fw ke cR de hR ll gn il:Tok}{gX:Nat}{id dj dP ko hV eO:Tok}{ec:Nat}{lj fM gb jL:Tok}(ha:AtG K "check_size" a9b)(hr:AtG K "check_turn" a9a)(gD:AtG K "place_of" b5k)(fK:AtG K "lap_of" c2r)(ea:AtG K "onward" c2o)(iM:AtG K "check_mark" a9c)(jS:AtG K "mark_of" b8l)(gk:AtG K "mark_lap" b5m)(eP:AtG K "mark_side" b1x)(hY:AtG K "full_mark" b2e)(gi:AtG K "free_mark" b2f)(kc:AtG K "mark_to_give" a6k)(kD:AtG K "check_hand" a9d)(hZ:AtG K "mark_cell" b1y)(ds:AtG K "number_cell" a7s)(jl:AtG K "left_cell" b1z)(eX:AtG K "thing_cell" a8v)(ft:AtG K "card_cell" b2g)(hv:AtG K "bell_cell" b2h)(iW:AtG K "new_cells" b1v)(jP:AtG K "check_bits" a9e)(dS:AtG K "check_marks" a7t)(cZ:AtG K "alike_ahead" a7u)(jA:AtG K "front" c8m)(kN:AtG K "taker_bit" b1t)(dw:AtG K "giver_turn" a8z)(db:AtG K "taker_turn" a8w)(hM:AtG K "write_card" a8u)(kL:AtG K "ring_other" a8y)(iv:AtG K "still_bell" a8x)(eC:AtG K "may_go_on" b1w)(gr:AtG K "order_of" b5l)(fn:AtG K "orders_of" b1u)(dk:AtG K "orders_told" a7r)(hg:AtG K "pairs" c8l)(hI:AtG K "_law_well" b5n)(dB:AtG K "_law_take" b5o)(fu:AtG K "_law_order" b2a)(iI:AtG K "_law_hands" b2c)(jV:AtG K "_law_moves" b2b)(eN:AtG K "_law_books" b2d)(jg:AtG K "_law_do" c2p)(eT:AtG K "_law_hall_right" a4k)(iL:AtG K "_law_move" b5p)(kb:AtG K "_law_all" b8m)(lf:AtM K af "__init__" "Board.__init__" a9q)(jc:AtM K af "check_cell" "Board.check_cell" a2w)(eM:AtM K af "note_touch" "Board.note_touch" a2u)(dx:AtM K af "read" "Board.read" a9p)(kW:AtM K af "write" "Board.write" a7y)(fI:AtM K af "all_cells" "Board.all_cells" a3s)(iR:AtM K af "touches" "Board.touches" a9o)(jw:AtM K af "last_touch" "Board.last_touch" a2v)(gQ:AtM K aa "__init__" "Giver.__init__" a9n)(dR:AtM K aa "add" "Giver.add" b2u)(cY:AtM K aa "orders" "Giver.orders" a6o)(iD:AtM K aa "place_ahead" "Giver.place_ahead" a2g)(dX:AtM K aa "begins_order" "Giver.begins_order" a1r)(gt:AtM K aa "next_order" "Giver.next_order" a2t)(jb:AtM K aa "next_part" "Giver.next_part" a3p)(kx:AtM K aa "next_left" "Giver.next_left" a3q)(hj:AtM K aa "has_part" "Giver.has_part" a4q)(em:AtM K aa "know_turn" "Giver.know_turn" a3r)(hs:AtM K aa "awaited_mark" "Giver.awaited_mark" a1s)(ie:AtM K aa "turn_served" "Giver.turn_served" a2f)(iq:AtM K aa "go_on" "Giver.go_on" a7x)(ky:AtM K aa "resting" "Giver.resting" a5k)(dE:AtM K aa "own_deed" "Giver.own_deed" a4p)(fl:AtM K ab "__init__" "Taker.__init__" a9f)(dV:AtM K ab "book" "Taker.book" a9g)(gs:AtM K ab "book_order" "Taker.book_order" a2q)(dU:AtM K ab "know_turn" "Taker.know_turn" a3m)(dp:AtM K ab "awaited_mark" "Taker.awaited_mark" a1p)(gY:AtM K ab "turn_served" "Taker.turn_served" a2e)(fj:AtM K ab "go_on" "Taker.go_on" a7v)(jF:AtM K ab "resting" "Taker.resting" a5i)(jm:AtM K ab "own_deed" "Taker.own_deed" a4n)(dn:AtM K ad "__init__" "Lane.__init__" b2l)(kd:AtM K ad "place_giver" "Lane.place_giver" a2s)(ik:AtM K ad "place_taker" "Lane.place_taker" a2r)(km:AtM K ad "hand_named" "Lane.hand_named" a3n)(dC:AtM K ad "hand_in" "Lane.hand_in" a6l)(gI:AtM K ad "step" "Lane.step" b2k)(hw:AtM K ad "fall" "Lane.fall" b2m)(ez:AtM K ad "stage" "Lane.stage" a9h)(gw:AtM K ad "book" "Lane.book" b2n)(fY:AtM K ad "orders" "Lane.orders" a7w)(le:AtM K ad "quiet" "Lane.quiet" a9i)(lb:AtM K ad "cells" "Lane.cells" a9j)(jB:AtM K ac "__init__" "Hall.__init__" b2r)(jZ:AtM K ac "lane_and_name" "Hall.lane_and_name" a1q)(fq:AtM K ac "ask" "Hall.ask" b5w)(kX:AtM K ac "step" "Hall.step" b2q)(eH:AtM K ac "stage" "Hall.stage" a9k)(gG:AtM K ac "fall" "Hall.fall" b2s)(ga:AtM K ac "waiting" "Hall.waiting" a6m)(jE:AtM K ac "do" "Hall.do" b8w)(jX:AtM K ac "shelves" "Hall.shelves" a6n)(hC:AtM K ac "done" "Hall.done" b2t)(da:AtM K ac "told" "Hall.told" b2p)(kB:AtM K ac "heard" "Hall.heard" a9m)(ir:AtM K ac "quiet" "Hall.quiet" a9l)(et:AtM K ac "out_cells" "Hall.out_cells" a4o)(hU:AtM K ac "back_cells" "Hall.back_cells" a3o)(X:K.In h)(G:h.Ns mainGlobals mg)(hfa:mg "law" = some (.ref fa))(ix:nsIn K mainGlobals "Board" = some (some (.ref af)))(gj:nsIn K mainGlobals "Hand" = some (some (.ref ae)))(kp:nsIn K mainGlobals "Giver" = some (some (.ref aa)))(ji:nsIn K mainGlobals "Taker" = some (some (.ref ab)))(dI:nsIn K mainGlobals "Lane" = some (some (.ref ad)))(fD:nsIn K mainGlobals "Hall" = some (some (.ref ac)))(kO:nsIn K mainGlobals "LEAST_SIZE" = some (some (.int (2) ei)))(fP:nsIn K mainGlobals "MOST_SIZE" = some (some (.int (8) go)))(jt:nsIn K mainGlobals "FREE" = some (some (.int (0) hq)))(hl:nsIn K mainGlobals "FULL" = some (some (.int (1) fy)))(jQ:nsIn K mainGlobals "MOST_MARK" = some (some (.int (3) fg)))(gN:nsIn K mainGlobals "CELLS_OF_A_PLACE" = some (some (.int (4) kj)))(fT:nsIn K mainGlobals "NEW_MARK" = some (some (.int (2) ht)))(cU:nsIn K mainGlobals "NO_ORDER" = some (some (.int (-1) eW)))(iH:nsIn K mainGlobals "NO_TURN" = some (some (.int (-1) hT)))(hH:nsIn K mainGlobals "STILL" = some (some (.int (0) hA)))(fb:nsIn K mainGlobals "RUNG" = some (some (.int (1) jf)))(kC:nsIn K mainGlobals "SHELVES" = some (some (.int (4) gq)))(jd:nsIn K mainGlobals "HANDS" = some (some (.ref bC)))(iA:K.lookup bC=some ⟨.type "tuple",none,.seq #[.str "giver" fW,.str "taker" hW] eV,cX⟩)(im:nsIn K mainGlobals "DEEDS_hand" = some (some (.ref ax)))(jD:nsIn K mainGlobals "DEEDS_giver" = some (some (.ref az)))(gM:nsIn K mainGlobals "DEEDS_taker" = some (some (.ref aF)))(jv:nsIn K mainGlobals "OUT_HANDS" = some (some (.ref aL)))(dc:nsIn K mainGlobals "BACK_HANDS" = some (some (.ref aD)))(fr:nsIn K mainGlobals "SIDES" = some (some (.ref aE)))(gC:plainGet K af Str.empty=true)(hy:hasDictIn K af=true)(kT:plainOver K af=true)(jy:findIn K (.ref af) "__setattr__" = some (some (.builtin "object.__setattr__")))(ex:makesIn K af=true)(es:keepIn K (.ref af)=true)(jk:findIn K (.ref af) "many_touches" = some none)(jo:findIn K (.ref af) "newest_touch" = some none)(fx:findIn K (.ref af) "numbers" = some none)(gJ:findIn K (.ref af) "size" = some none)(jn:plainGet K ae Str.empty=true)(kP:hasDictIn K ae=true)(ku:plainOver K ae=true)(la:findIn K (.ref ae) "__setattr__" = some (some (.builtin "object.__setattr__")))(lt:makesIn K ae=true)(lo:keepIn K (.ref ae)=true)(lh:findIn K (.ref ae) "board" = some none)(gc:findIn K (.ref ae) "here" = some none)(hP:findIn K (.ref ae) "marks_read" = some none)(ka:findIn K (.ref ae) "name" = some none)(eQ:findIn K (.ref ae) "other" = some none)(iX:findIn K (.ref ae) "stage_behind_marks" = some none)(hu:findIn K (.ref ae) "stage_now" = some none)(cV:findIn K (.ref ae) "touched" = some none)(hO:plainGet K aa Str.empty=true)(fN:hasDictIn K aa=true)(fo:plainOver K aa=true)(jU:findIn K (.ref aa) "__setattr__" = some (some (.builtin "object.__setattr__")))(fe:makesIn K aa=true)(cQ:keepIn K (.ref aa)=true)(jG:findIn K (.ref aa) "board" = some none)(iO:findIn K (.ref aa) "here" = some none)(hX:findIn K (.ref aa) "kept" = some none)(dN:findIn K (.ref aa) "left" = some none)(gu:findIn K (.ref aa) "marks_read" = some none)(eE:findIn K (.ref aa) "name" = some none)(iB:findIn K (.ref aa) "number" = some none)(kA:findIn K (.ref aa) "other" = some none)(eJ:findIn K (.ref aa) "stage_behind_marks" = some none)(ed:findIn K (.ref aa) "stage_now" = some none)(hE:findIn K (.ref aa) "touched" = some none)(kM:plainGet K ab Str.empty=true)(kF:hasDictIn K ab=true)(dt:plainOver K ab=true)(gl:findIn K (.ref ab) "__setattr__" = some (some (.builtin "object.__setattr__")))(jK:makesIn K ab=true)(fX:keepIn K (.ref ab)=true)(ef:findIn K (.ref ab) "board" = some none)(hQ:findIn K (.ref ab) "here" = some none)(dZ:findIn K (.ref ab) "left" = some none)(fk:findIn K (.ref ab) "marks_read" = some none)(dq:findIn K (.ref ab) "name" = some none)(fp:findIn K (.ref ab) "not_freed" = some none)(hh:findIn K (.ref ab) "number" = some none)(hb:findIn K (.ref ab) "other" = some none)(iy:findIn K (.ref ab) "parts" = some none)(gm:findIn K (.ref ab) "stage_behind_marks" = some none)(eR:findIn K (.ref ab) "stage_now" = some none)(hG:findIn K (.ref ab) "taken" = some none)(fU:findIn K (.ref ab) "touched" = some none)(fh:plainGet K ad Str.empty=true)(dA:hasDictIn K ad=true)(ej:plainOver K ad=true)(dy:findIn K (.ref ad) "__setattr__" = some (some (.builtin "object.__setattr__")))(gg:makesIn K ad=true)(iK:keepIn K (.ref ad)=true)(dh:findIn K (.ref ad) "board" = some none)(iS:findIn K (.ref ad) "giver" = some none)(hf:findIn K (.ref ad) "kept_trail" = some none)(ev:findIn K (.ref ad) "taker" = some none)(fS:findIn K (.ref ad) "touched" = some none)(ep:plainGet K ac Str.empty=true)(eb:hasDictIn K ac=true)(dW:plainOver K ac=true)(gS:findIn K (.ref ac) "__setattr__" = some (some (.builtin "object.__setattr__")))(kK:makesIn K ac=true)(eZ:keepIn K (.ref ac)=true)(fZ:findIn K (.ref ac) "back" = some none)(jY:findIn K (.ref ac) "finished" = some none)(hD:findIn K (.ref ac) "out" = some none)(kv:findIn K (.ref ac) "sums" = some none)(bO:findIn K (.ref ae) "__init__" = some (some (.ref ay)))(iY:isFn K (.ref ay)=true)(bK:AtF K ay "__init__" "Hand.__init__" b2o)(kR:findIn K (.ref ae) "stage" = some (some (.ref ao)))(be:isFn K (.ref ao)=true)(aO:AtF K ao "stage" "Hand.stage" a4c)(en:findIn K (.ref ae) "place" = some (some (.ref aq)))(aU:isFn K (.ref aq)=true)(bf:AtF K aq "place" "Hand.place" a5z)(fz:findIn K (.ref ae) "step" = some (some (.ref am)))(aT:isFn K (.ref am)=true)(bm:AtF K am "step" "Hand.step" a5j)(lc:findIn K (.ref ae) "sleeping" = some (some (.ref ap)))(br:isFn K (.ref ap)=true)(bk:AtF K ap "sleeping" "Hand.sleeping" a1e)(gf:findIn K (.ref ae) "still" = some (some (.ref au)))(bd:isFn K (.ref au)=true)(bj:AtF K au "still" "Hand.still" a4b)(gR:nsIn K mainGlobals "len" = some none)(kq:nsIn K mainGlobals "range" = some none)(gB:nsIn K mainGlobals "max" = some none)(kJ:nsIn K mainGlobals "min" = some none)(eG:nsIn K mainGlobals "isinstance" = some none)(cS:nsIn K mainGlobals "int" = some none)(hB:nsIn K mainGlobals "bool" = some none)(it:nsIn K mainGlobals "list" = some none)(gy:nsIn K mainGlobals "all" = some none)(dK:nsIn K mainGlobals "tuple" = some none)(eK:nsIn K mainGlobals "sum" = some none)(kw:nsIn K mainGlobals "sorted" = some none)(bT:nsIn K mainGlobals "at_rouse" = some (some (.ref aP)))(ks:AtF K aP "at_rouse" "at_rouse" b5r)(cF:nsIn K mainGlobals "at_clear" = some (some (.ref bc)))(gE:AtF K bc "at_clear" "at_clear" b5u)(ck:nsIn K mainGlobals "at_mute" = some (some (.ref bp)))(fG:AtF K bp "at_mute" "at_mute" b8q)(cO:nsIn K mainGlobals "at_marks" = some (some (.ref bt)))(dM:AtF K bt "at_marks" "at_marks" b5s)(cw:nsIn K mainGlobals "at_look" = some (some (.ref aZ)))(ic:AtF K aZ "at_look" "at_look" b8s)(bY:nsIn K mainGlobals "at_wish" = some (some (.ref bb)))(fB:AtF K bb "at_wish" "at_wish" b8n)(co:nsIn K mainGlobals "at_again" = some (some (.ref bq)))(hn:AtF K bq "at_again" "at_again" b5v)(cd:nsIn K mainGlobals "at_sleep" = some (some (.ref aQ)))(gd:AtF K aQ "at_sleep" "at_sleep" b5q)(bG:nsIn K mainGlobals "at_hush" = some (some (.ref bA)))(kt:AtF K bA "at_hush" "at_hush" b8t)(ce:nsIn K mainGlobals "at_unwish" = some (some (.ref aW)))(iG:AtF K aW "at_unwish" "at_unwish" b2j)(cc:nsIn K mainGlobals "at_card" = some (some (.ref bg)))(fL:AtF K bg "at_card" "at_card" b8v)(cD:nsIn K mainGlobals "at_ring" = some (some (.ref bs)))(he:AtF K bs "at_ring" "at_ring" b8p)(bS:nsIn K mainGlobals "at_told" = some (some (.ref aX)))(kG:AtF K aX "at_told" "at_told" b8o)(cN:nsIn K mainGlobals "at_lacks" = some (some (.ref bz)))(eD:AtF K bz "at_lacks" "at_lacks" b5t)(ch:nsIn K mainGlobals "at_mark" = some (some (.ref bi)))(dG:AtF K bi "at_mark" "at_mark" b8r)(bR:nsIn K mainGlobals "at_free" = some (some (.ref aV)))(iC:AtF K aV "at_free" "at_free" b8u)(hk:nsIn K mainGlobals "law" = some (some (.ref bo)))(eU:K.lookup bo=some ⟨kn,gv,.func (PySem.W.fnOf "law" "law" (a1u c2q) (a0q c2q) (d8 c2q) .none cg bQ bL cb bu bD),er⟩)(iE:codeIn K bu "law" = true)(hx:keepIn K (.ref bo)=true)(lu:nsIn K mainGlobals "at_number_giver" = some (some (.ref aA)))(eu:AtF K aA "at_number" "at_number" a3l)(lq:nsIn K mainGlobals "at_left_giver" = some (some (.ref aJ)))(ek:AtF K aJ "at_left" "at_left" a5h)(ln:nsIn K mainGlobals "at_thing_giver" = some (some (.ref aI)))(fi:AtF K aI "at_thing" "at_thing" a4m)(lw:nsIn K mainGlobals "at_number_taker" = some (some (.ref aH)))(gU:AtF K aH "at_number" "at_number" a3k)(lp:nsIn K mainGlobals "at_left_taker" = some (some (.ref aK)))(iJ:AtF K aK "at_left" "at_left" a5g)(lx:nsIn K mainGlobals "at_thing_taker" = some (some (.ref aG)))(gT:AtF K aG "at_thing" "at_thing" a4l)(kZ:kitOne K (.type "tuple") (.type "tuple")=some true)(ih:kitOne K (.type "list") (.type "list")=some true)(df:(aL == sysModules)=false)(iQ:K.lookup aL=some ⟨.type "dict",none,.dict (d9a w [("asker",eq,.str "giver" gO),("doer",kz,.str "taker" kk)]).toArray jr,#[]⟩)(ew:(aD == sysModules)=false)(eS:K.lookup aD=some ⟨.type "dict",none,.dict (d9a w [("teller",dY,.str "giver" hS),("hearer",jR,.str "taker" kf)]).toArray dJ,#[]⟩)(ig:(aE == sysModules)=false)(eB:K.lookup aE=some ⟨.type "dict",none,.dict (d9a w [("house",kE,.ref cz),("shop",eI,.ref cq)]).toArray jq,#[]⟩)(fH:K.lookup cz=some ⟨.type "tuple",none,.seq #[.str "asker" ki,.str "hearer" ju] hp,hi⟩)(kg:K.lookup cq=some ⟨.type "tuple",none,.seq #[.str "doer" fQ,.str "teller" eg] fJ,ey⟩)(hJ:findIn K (.ref aa) "place" = some (some (.ref aq)))(fm:findIn K (.ref ab) "place" = some (some (.ref aq)))(iz:findIn K (.ref aa) "step" = some (some (.ref am)))(kV:findIn K (.ref ab) "step" = some (some (.ref am)))(eA:findIn K (.ref aa) "stage" = some (some (.ref ao)))(jT:findIn K (.ref ab) "stage" = some (some (.ref ao)))(gA:findIn K (.ref aa) "sleeping" = some (some (.ref ap)))(jz:findIn K (.ref ab) "sleeping" = some (some (.ref ap)))(dO:findIn K (.ref aa) "still" = some (some (.ref au)))(dF:findIn K (.ref ab) "still" = some (some (.ref au)))(hK:specialIn K (.ref ae) "__getattribute__" = some (some (.builtin "type.__getattribute__")))(ee:PySem.W.readsIn K ae (.type "type")=true)(hz:PySem.W.findCls K (.ref ae) (.type "type") "__init__" = some (.val (.ref ay)))(ii:(ax == sysModules)=false)(gL:K.lookup ax=some ⟨.type "dict",none,.dict (d9a w [("rouse",ia,.ref aP),("clear",dd,.ref bc),("mute",fA,.ref bp),("marks",iw,.ref bt),("look",fw,.ref aZ),("wish",ke,.ref bb),("again",cR,.ref bq),("sleep",de,.ref aQ),("hush",hR,.ref bA),("unwish",ll,.ref aW),("card",gn,.ref bg),("ring",il,.ref bs)]).toArray gz,#[]⟩)(kh:(az == sysModules)=false)(ho:K.lookup az=some ⟨.type "dict",none,.dict (d9a w [("told",id,.ref aX),("lacks",dj,.ref bz),("number",dP,.ref aA),("left",ko,.ref aJ),("thing",hV,.ref aI),("mark",eO,.ref bi)]).toArray gX,#[]⟩)(jj:(aF == sysModules)=false)(iT:K.lookup aF=some ⟨.type "dict",none,.dict (d9a w [("number",lj,.ref aH),("left",fM,.ref aK),("thing",gb,.ref aG),("free",jL,.ref aV)]).toArray ec,#[]⟩):
  ∃fd:FuncData,(∀(s:Shared)(v:Value),BindsTo s fd ⟨[v],[]⟩ [("script",v)])/\∀qb:Heap,K.In qb->qb.Ns mainGlobals mg->FnOk l.prog w K mg qb (CXK l.prog w) 13 fa fd ["script"] (d0i K):=by
 let cl:Cl:=⟨af,ae,aa,ab,ad,ac,bC,ax,az,aF,aL,aD,aE⟩
 have e:=hfa.symm.trans (mg_of X G hk);cases e;have T:Txt K mg cl:=⟨⟨mg_of X G ix⟩,
  ⟨mg_of X G gj⟩,
  ⟨mg_of X G kp⟩,
  ⟨mg_of X G ji⟩,
  ⟨mg_of X G dI⟩,
  ⟨mg_of X G fD⟩,
  ⟨_,mg_of X G kO⟩,
  ⟨_,mg_of X G fP⟩,
  ⟨_,mg_of X G jt⟩,
  ⟨_,mg_of X G hl⟩,
  ⟨_,mg_of X G jQ⟩,
  ⟨_,mg_of X G gN⟩,
  ⟨_,mg_of X G fT⟩,
  ⟨_,mg_of X G cU⟩,
  ⟨_,mg_of X G iH⟩,
  ⟨_,mg_of X G hH⟩,
  ⟨_,mg_of X G fb⟩,
  ⟨_,mg_of X G kC⟩,
  mg_of X G jd,
  ⟨_,_,_,iA,(show 2<=sizeLine by decide),.cons ⟨_,rfl⟩ (.cons ⟨_,rfl⟩ (.nil))⟩,
  ⟨gC,hy,kT,jy⟩,
  jk,
  jo,
  fx,
  gJ,
  ⟨jn,kP,ku,la⟩,
  lh,
  gc,
  hP,
  ka,
  eQ,
  iX,
  hu,
  cV,
  ⟨hO,fN,fo,jU⟩,
  jG,
  iO,
  hX,
  dN,
  gu,
  eE,
  iB,
  kA,
  eJ,
  ed,
  hE,
  ⟨kM,kF,dt,gl⟩,
  ef,
  hQ,
  dZ,
  fk,
  dq,
  fp,
  hh,
  hb,
  iy,
  gm,
  eR,
  hG,
  fU,
  ⟨fh,dA,ej,dy⟩,
  dh,
  iS,
  hf,
  ev,
  fS,
  ⟨ep,eb,dW,gS⟩,
  fZ,
  jY,
  hD,
  kv,
  mg_of X G im,
  mg_of X G jD,
  mg_of X G gM,
  mg_of X G jv,
  mg_of X G dc,
  mg_of X G fr,
  mg_none_of X G gR,
  mg_none_of X G kq,
  mg_none_of X G gB,
  mg_none_of X G kJ,
  mg_none_of X G eG,
  mg_none_of X G cS,
  mg_none_of X G hB,
  mg_none_of X G it,
  mg_none_of X G gy,
  mg_none_of X G dK,
  mg_none_of X G eK,
  mg_none_of X G kw⟩
 have lv:DefM K cl.Board "touches" "Board.touches" a9o ["self"]:=iR.m λ_ _ _ _ _ _=>ba1 λ_=>rfl;have ly:DefM K cl.Hand "stage" "Hand.stage" a4c ["self"]:=AtF.m kR be aO λ_ _ _ _ _ _=>ba1 λ_=>rfl;have lm:DefM K cl.Hand "place" "Hand.place" a5z ["self"]:=AtF.m en aU bf λ_ _ _ _ _ _=>ba1 λ_=>rfl;have lz:DefM K cl.Hand "step" "Hand.step" a5j ["self"]:=AtF.m fz aT bm λ_ _ _ _ _ _=>ba1 λ_=>rfl;have lr:DefM K cl.Hand "sleeping" "Hand.sleeping" a1e ["self"]:=AtF.m lc br bk λ_ _ _ _ _ _=>ba1 λ_=>rfl;have ls:DefM K cl.Hand "still" "Hand.still" a4b ["self"]:=AtF.m gf bd bj λ_ _ _ _ _ _=>ba1 λ_=>rfl;have jp:=d1f (st:=c2q) eU iE hx;refine⟨PySem.W.fnOf "law" "law" (a1u c2q) (a0q c2q) (d8 c2q) .none cg bQ bL cb bu bD,λs v=>.of_eq rfl,λqb _ _=>?_⟩;have hd:=(⟨⟨_,_,KDict.mk' df iQ (show(["asker","doer"]:List Str).Nodup by decide)⟩,⟨_,_,KDict.mk' ew eS (show(["teller","hearer"]:List Str).Nodup by decide)⟩⟩:HD l.prog w K cl)
 have hsd:=(⟨_,_,KDict.mk' ig eB (show(["house","shop"]:List Str).Nodup by decide),⟨_,_,_,fH,(show 2<=sizeLine by decide),.cons ⟨_,rfl⟩ (.cons ⟨_,rfl⟩ .nil)⟩,⟨_,_,_,kg,(show 2<=sizeLine by decide),.cons ⟨_,rfl⟩ (.cons ⟨_,rfl⟩ .nil)⟩⟩:HSd l.prog w K cl)
 have al:=(c3k (ha.t X G λ_ _ _ _ _ _=>ba1 λ_=>rfl) T:FnT l.prog w K mg qb _ _ _ _);have bB:=c3j (hr.t X G λ_ _ _ _ _ _=>ba2 λ_ _=>rfl) T al;have aw:=c8v (gD.t X G λ_ _ _ _ _ _=>ba2 λ_ _=>rfl) T bB;have aN:=d4w (fK.t X G λ_ _ _ _ _ _=>ba2 λ_ _=>rfl) T bB;have aj:=d4u (ea.t X G λ_ _ _ _ _ _=>ba3 λ_ _ _=>rfl) T bB;have io:=(c3l (iM.t X G λ_ _ _ _ _ _=>ba1 λ_=>rfl) T:FnT l.prog w K mg qb _ _ _ _);have bl:=(d2j (jS.t X G λ_ _ _ _ _ _=>ba2 λ_ _=>rfl) T:FnT l.prog w K mg qb _ _ _ _);have bW:=c6n (hY.t X G λ_ _ _ _ _ _=>ba2 λ_ _=>rfl) T aN bl;have jO:=c6o (gi.t X G λ_ _ _ _ _ _=>ba2 λ_ _=>rfl) T aN bl;have du:=b9c (kc.t X G λ_ _ _ _ _ _=>ba2 λ_ _=>rfl) T aN bl;have av:=(c8z (dB.t X G λ_ _ _ _ _ _=>ba2 λ_ _=>rfl) T:FnT l.prog w K mg qb _ _ _ _);have cK:=(c8y (hI.t X G λ_ _ _ _ _ _=>ba2 λ_ _=>rfl) T:FnT l.prog w K mg qb _ _ _ _);have jJ:=c3n (jP.t X G λ_ _ _ _ _ _=>ba1 λ_=>rfl) T al;have iV:=(c0j (cZ.t X G λ_ _ _ _ _ _=>ba1 λ_=>rfl) T:FnT l.prog w K mg qb _ _ _ _);have cs:=d7z (jA.t X G λ_ _ _ _ _ _=>ba1 λ_=>rfl) T jJ iV aj;have cj:=(c8x (gk.t X G λ_ _ _ _ _ _=>ba1 λ_=>rfl) T:FnT l.prog w K mg qb _ _ _ _);have gH:=(c6g (eP.t X G λ_ _ _ _ _ _=>ba1 λ_=>rfl) T:FnT l.prog w K mg qb _ _ _ _);have dl:=c6c (kN.t X G λ_ _ _ _ _ _=>ba1 λ_=>rfl) T cj gH;have cP:=c0i (dS.t X G λ_ _ _ _ _ _=>ba1 λ_=>rfl) T al io;have fC:=c3i (dw.t X G λ_ _ _ _ _ _=>ba1 λ_=>rfl) T cP cj cs;have eh:=c3f (db.t X G λ_ _ _ _ _ _=>ba1 λ_=>rfl) T cP dl cs;have aS:=(c3m (kD.t X G λ_ _ _ _ _ _=>ba1 λ_=>rfl) T:FnT l.prog w K mg qb _ _ _ _);have aB:=(c6h (hZ.t X G λ_ _ _ _ _ _=>ba1 λ_=>rfl) T:FnT l.prog w K mg qb _ _ _ _);have aR:=(c0h (ds.t X G λ_ _ _ _ _ _=>ba1 λ_=>rfl) T:FnT l.prog w K mg qb _ _ _ _);have aM:=(c6i (jl.t X G λ_ _ _ _ _ _=>ba1 λ_=>rfl) T:FnT l.prog w K mg qb _ _ _ _);have ci:=(c3e (eX.t X G λ_ _ _ _ _ _=>ba1 λ_=>rfl) T:FnT l.prog w K mg qb _ _ _ _);have bw:=c6p (ft.t X G λ_ _ _ _ _ _=>ba2 λ_ _=>rfl) T al aS;have ak:=c6q (hv.t X G λ_ _ _ _ _ _=>ba2 λ_ _=>rfl) T bw;have fO:=(c6e (iW.t X G λ_ _ _ _ _ _=>ba1 λ_=>rfl) T:FnT l.prog w K mg qb _ _ _ _);have eY:=c4a (lf.m (ps:=["self","size"]) λ_ _ _ _ _ _=>ba2 λ_ _=>rfl) T al fO;have jC:=eY.make ex es T.c_Board.m;have cB:=(b3e (jc.m (ps:=["self","cell"]) λ_ _ _ _ _ _=>ba2 λ_ _=>rfl) T:MethT l.prog w K mg qb _ _ _ _ _);have cv:=(b3c (eM.m (ps:=["self","deed","cell","value"]) λ_ _ _ _ _ _=>ba4 λ_ _ _ _=>rfl) T:MethT l.prog w K mg qb _ _ _ _ _);have ag:=c3z (dx.m (ps:=["self","cell"]) λ_ _ _ _ _ _=>ba2 λ_ _=>rfl) T cB cv;have ah:=c0r (kW.m (ps:=["self","cell","number"]) λ_ _ _ _ _ _=>ba3 λ_ _ _=>rfl) T cB cv;have bv:=(b4v (fI.m (ps:=["self"]) λ_ _ _ _ _ _=>ba1 λ_=>rfl) T:MethT l.prog w K mg qb _ _ _ _ _);have cM:=(b3d (jw.m (ps:=["self"]) λ_ _ _ _ _ _=>ba1 λ_=>rfl) T:MethT l.prog w K mg qb _ _ _ _ _);have hL:=c6j (fu.t X G λ_ _ _ _ _ _=>ba2 λ_ _=>rfl) T av;have bx:=c3d (hM.t X G λ_ _ _ _ _ _=>ba2 λ_ _=>rfl) T ah bw;have bV:=c3h (kL.t X G λ_ _ _ _ _ _=>ba1 λ_=>rfl) T ah ak;have bU:=c3g (iv.t X G λ_ _ _ _ _ _=>ba1 λ_=>rfl) T ah ak;have dz:=c9c (AtF.t X G bT ks λ_ _ _ _ _ _=>ba1 λ_=>rfl) T bV;have jI:=c9f (AtF.t X G cF gE λ_ _ _ _ _ _=>ba1 λ_=>rfl) T bx;have iU:=d2o (AtF.t X G ck fG λ_ _ _ _ _ _=>ba1 λ_=>rfl) T bU;have ip:=d2r (AtF.t X G bG kt λ_ _ _ _ _ _=>ba1 λ_=>rfl) T bU;have eo:=c6r (AtF.t X G ce iG λ_ _ _ _ _ _=>ba1 λ_=>rfl) T bx;have kH:=c9b (AtF.t X G cd gd λ_ _ _ _ _ _=>ba1 λ_=>rfl) T ag ak;have ar:=b4q (AtF.m hJ aU bf (λ_ _ _ _ _ _=>ba1 λ_=>rfl)) T aw;have aC:=b4q (AtF.m fm aU bf (λ_ _ _ _ _ _=>ba1 λ_=>rfl)) T aw;have ge:=a9w (hs.m (ps:=["self"]) λ_ _ _ _ _ _=>ba1 λ_=>rfl) T du;have cT:=a9t (dp.m (ps:=["self"]) λ_ _ _ _ _ _=>ba1 λ_=>rfl) T bW;have bM:=c6f (eC.t X G λ_ _ _ _ _ _=>ba1 λ_=>rfl) T ag aB ar aC ge cT;have iu:=d2q (AtF.t X G cw ic λ_ _ _ _ _ _=>ba1 λ_=>rfl) T bM;have ja:=c9g (AtF.t X G co hn λ_ _ _ _ _ _=>ba1 λ_=>rfl) T bM;have gx:=d2l (AtF.t X G bY fB λ_ _ _ _ _ _=>ba1 λ_=>rfl) T bx;have bP:=(a9v (dX.m (ps:=["self"]) λ_ _ _ _ _ _=>ba1 λ_=>rfl) T:MethT l.prog w K mg qb _ _ _ _ _);have an:=b3b (gt.m (ps:=["self"]) λ_ _ _ _ _ _=>ba1 λ_=>rfl) T bP;have bh:=b4s (jb.m (ps:=["self"]) λ_ _ _ _ _ _=>ba1 λ_=>rfl) T bP;have cm:=b4t (kx.m (ps:=["self"]) λ_ _ _ _ _ _=>ba1 λ_=>rfl) T an bh;have hc:=b6g (hj.m (ps:=["self"]) λ_ _ _ _ _ _=>ba1 λ_=>rfl) T an bh;have bN:=b7l (ky.m (ps:=["self"]) λ_ _ _ _ _ _=>ba1 λ_=>rfl) T hc;have cI:=b0x (iD.m (ps:=["self"]) λ_ _ _ _ _ _=>ba1 λ_=>rfl) T aw aj;have gK:=d2m (AtF.t X G bS kG λ_ _ _ _ _ _=>ba1 λ_=>rfl) T ag aR cI;have cW:=c9e (AtF.t X G cN eD λ_ _ _ _ _ _=>ba1 λ_=>rfl) T ag aM cI;have ld:=(b4n (AtF.v eu λ_ _ _ _ _ _=>ba1 λ_=>rfl) T ah aR ar an:FnV l.prog w K mg qb aA 5 ["giver"] (a0y cl));have gV:=(b7j (AtF.v ek λ_ _ _ _ _ _=>ba1 λ_=>rfl) T ah aM ar cm:FnV l.prog w K mg qb aJ 5 ["giver"] (a1x cl));have jW:=(b6a (AtF.v fi λ_ _ _ _ _ _=>ba1 λ_=>rfl) T ah ci ar an bh:FnV l.prog w K mg qb aI 5 ["giver"] (a1k cl));have js:=d2p (AtF.t X G ch dG λ_ _ _ _ _ _=>ba1 λ_=>rfl) T ah aB ar bW;have cL:=(b0w (ie.m (ps:=["self"]) λ_ _ _ _ _ _=>ba1 λ_=>rfl) T:MethT l.prog w K mg qb _ _ _ _ _);have iP:=b4u (em.m (ps:=["self","marks"]) λ_ _ _ _ _ _=>ba2 λ_ _=>rfl) T fC;have bF:=c0q (iq.m (ps:=["self"]) λ_ _ _ _ _ _=>ba1 λ_=>rfl) T an cm aj;have fc:=(b4m (AtF.v gU λ_ _ _ _ _ _=>ba1 λ_=>rfl) T ag aR aC:FnV l.prog w K mg qb aH 5 ["taker"] (a0x cl));have fR:=(b7i (AtF.v iJ λ_ _ _ _ _ _=>ba1 λ_=>rfl) T ag aM aC:FnV l.prog w K mg qb aK 5 ["taker"] (a1w cl));have kS:=d2s (AtF.t X G bR iC λ_ _ _ _ _ _=>ba1 λ_=>rfl) T ah aB aw jO;have cp:=(b7k (jF.m (ps:=["self"]) λ_ _ _ _ _ _=>ba1 λ_=>rfl) T:MethT l.prog w K mg qb _ _ _ _ _);have cJ:=b0v (gY.m (ps:=["self"]) λ_ _ _ _ _ _=>ba1 λ_=>rfl) T aj;have eF:=b4o (dU.m (ps:=["self","marks"]) λ_ _ _ _ _ _=>ba2 λ_ _=>rfl) T eh;have cC:=c0m (fj.m (ps:=["self"]) λ_ _ _ _ _ _=>ba1 λ_=>rfl) T aj;have el:=(b2y (gs.m (ps:=["self"]) λ_ _ _ _ _ _=>ba1 λ_=>rfl) T:MethT l.prog w K mg qb _ _ _ _ _);have jh:=(b5z (AtF.v gT λ_ _ _ _ _ _=>ba1 λ_=>rfl) T ag ci aC aj el:FnV l.prog w K mg qb aG 5 ["taker"] (a1j cl));have iZ:=c9d (AtF.t X G cO dM λ_ _ _ _ _ _=>ba1 λ_=>rfl) T ag aB iP eF;have dQ:=d2t (AtF.t X G cc fL λ_ _ _ _ _ _=>ba1 λ_=>rfl) T ag bw (MethT.lift cL ↑6) cJ bF cC;have kr:=d2n (AtF.t X G cD he λ_ _ _ _ _ _=>ba1 λ_=>rfl) T bV (MethT.lift cL ↑6) cJ bF cC;have cr:=(DT.mk' ii gL (.cons ((FnT.toV dz (mg_of X G bT)).mono ↑6) (.cons ((FnT.toV jI (mg_of X G cF)).mono ↑6) (.cons ((FnT.toV iU (mg_of X G ck)).mono ↑6) (.cons ((FnT.toV iZ (mg_of X G cO)).mono ↑6) (.cons ((FnT.toV iu (mg_of X G cw)).mono ↑6) (.cons ((FnT.toV gx (mg_of X G bY)).mono ↑6) (.cons ((FnT.toV ja (mg_of X G co)).mono ↑6) (.cons ((FnT.toV kH (mg_of X G cd)).mono ↑6) (.cons ((FnT.toV ip (mg_of X G bG)).mono ↑6) (.cons ((FnT.toV eo (mg_of X G ce)).mono ↑6) (.cons ((FnT.toV dQ (mg_of X G cc)).mono ↑6) (.cons ((FnT.toV kr (mg_of X G cD)).mono ↑6) .nil)))))))))))) (show(["rouse","clear","mute","marks","look","wish","again","sleep","hush","unwish","card","ring"]:List Str).Nodup by decide):DT l.prog w K mg qb cl.d_DEEDS_hand 7 (c7i cl))
 have ij:=(DT.mk' kh ho (.cons ((FnT.toV gK (mg_of X G bS)).mono ↑6) (.cons ((FnT.toV cW (mg_of X G cN)).mono ↑6) (.cons (ld.mono ↑6) (.cons (gV.mono ↑6) (.cons (jW.mono ↑6) (.cons ((FnT.toV js (mg_of X G ch)).mono ↑6) .nil)))))) (show(["told","lacks","number","left","thing","mark"]:List Str).Nodup by decide):DT l.prog w K mg qb cl.d_DEEDS_giver 5 (e6d cl))
 have gF:=(DT.mk' jj iT (.cons (fc.mono ↑6) (.cons (fR.mono ↑6) (.cons (jh.mono ↑6) (.cons ((FnT.toV kS (mg_of X G bR)).mono ↑6) .nil)))) (show(["number","left","thing","free"]:List Str).Nodup by decide):DT l.prog w K mg qb cl.d_DEEDS_taker 5 (e6c cl))
 have hN:=b6f (dE.m (ps:=["self"]) λ_ _ _ _ _ _=>ba1 λ_=>rfl) T ij;have jH:=b6c (jm.m (ps:=["self"]) λ_ _ _ _ _ _=>ba1 λ_=>rfl) T gF;have je:=(c3x (AtF.m iz aT bm (λ_ _ _ _ _ _=>ba1 λ_=>rfl)) T bN cr hN cM:MethT l.prog w K mg qb cl.Giver "step" 8 ["self"] (c1o cl true));have fV:=(c3o (AtF.m kV aT bm (λ_ _ _ _ _ _=>ba1 λ_=>rfl)) T (MethT.lift cp ↑6) cr jH cM:MethT l.prog w K mg qb cl.Taker "step" 8 ["self"] (c1o cl false));have bE:=(c8w (gr.t X G λ_ _ _ _ _ _=>ba2 λ_ _=>rfl) T:FnT l.prog w K mg qb _ _ _ _);have cE:=c6d (fn.t X G λ_ _ _ _ _ _=>ba2 λ_ _=>rfl) T bE;have cH:=(c0g (dk.t X G λ_ _ _ _ _ _=>ba1 λ_=>rfl) T:FnT l.prog w K mg qb _ _ _ _);have dD:=c7c (dR.m (ps:=["self","order"]) λ_ _ _ _ _ _=>ba2 λ_ _=>rfl) T bE;have ca:=b9g (cY.m (ps:=["self"]) λ_ _ _ _ _ _=>ba1 λ_=>rfl) T cH;have cx:=c3q (dV.m (ps:=["self"]) λ_ _ _ _ _ _=>ba1 λ_=>rfl) T cH;have kI:=(c6w (AtF.m bO iY bK λ_ _ _ _ _ _=>ba5 λ_ _ _ _ _=>rfl) T:MethT l.prog w K mg qb _ _ _ _ _);have cG:=(MethT.toBase kI bO ⟨hK,⟨.type "type",ee,hz⟩,bK.k⟩ T.c_Hand.m:d6v l.prog w K mg qb "Hand" "__init__" 1 ["self","board","name","other","stage_behind_marks"] (a5v cl));have jM:=c3y (gQ.m (ps:=["self","board","orders"]) λ_ _ _ _ _ _=>ba3 λ_ _ _=>rfl) T cE cG;have hF:=jM.make fe cQ T.c_Giver.m;have fs:=c3p (fl.m (ps:=["self","board","book"]) λ_ _ _ _ _ _=>ba3 λ_ _ _=>rfl) T cE cG;have kl:=fs.make jK fX T.c_Taker.m;have cu:=b3a (kd.m (ps:=["self","orders"]) λ_ _ _ _ _ _=>ba2 λ_ _=>rfl) T hF;have bX:=b2z (ik.m (ps:=["self","book"]) λ_ _ _ _ _ _=>ba2 λ_ _=>rfl) T kl;have bI:=b4p (km.m (ps:=["self","hand"]) λ_ _ _ _ _ _=>ba2 λ_ _=>rfl) T aS;have cA:=b9d (dC.m (ps:=["self","order"]) λ_ _ _ _ _ _=>ba2 λ_ _=>rfl) T dD;have dL:=c6s (gI.m (ps:=["self","hand"]) λ_ _ _ _ _ _=>ba2 λ_ _=>rfl) T bI je fV;have bn:=c6v (gw.m (ps:=["self"]) λ_ _ _ _ _ _=>ba1 λ_=>rfl) T cx;have gP:=c0n (fY.m (ps:=["self"]) λ_ _ _ _ _ _=>ba1 λ_=>rfl) T ca;have iN:=c6u (hw.m (ps:=["self","hand"]) λ_ _ _ _ _ _=>ba2 λ_ _=>rfl) T aS cu bX ca cx;have kY:=c6t (dn.m (ps:=["self","size"]) λ_ _ _ _ _ _=>ba2 λ_ _=>rfl) T jC cu bX;have jN:=kY.make gg iK T.c_Lane.m;have lk:=(c0p (AtF.m eA be aO (λ_ _ _ _ _ _=>ba1 λ_=>rfl)) T:MethT l.prog w K mg qb _ _ _ _ _);have li:=b6e (AtF.m gA br bk (λ_ _ _ _ _ _=>ba1 λ_=>rfl)) T bv ak;have dg:=c0o (AtF.m dO bd bj (λ_ _ _ _ _ _=>ba1 λ_=>rfl)) T bN li;have dr:=(c0l (AtF.m jT be aO (λ_ _ _ _ _ _=>ba1 λ_=>rfl)) T:MethT l.prog w K mg qb _ _ _ _ _);have kQ:=b6b (AtF.m jz br bk (λ_ _ _ _ _ _=>ba1 λ_=>rfl)) T bv ak;have kU:=c0k (AtF.m dF bd bj (λ_ _ _ _ _ _=>ba1 λ_=>rfl)) T (MethT.lift cp ↑6) kQ;have fv:=c3r (ez.m (ps:=["self","hand"]) λ_ _ _ _ _ _=>ba2 λ_ _=>rfl) T bI lk dr;have dv:=c3s (le.m (ps:=["self"]) λ_ _ _ _ _ _=>ba1 λ_=>rfl) T dg kU;have bH:=c3t (lb.m (ps:=["self"]) λ_ _ _ _ _ _=>ba1 λ_=>rfl) T bv;have aY:=(a9u (jZ.m (ps:=["self","hand"]) λ_ _ _ _ _ _=>ba2 λ_ _=>rfl) T hd:MethT l.prog w K mg qb _ _ _ _ _);have dT:=c6y (kX.m (ps:=["self","hand"]) λ_ _ _ _ _ _=>ba2 λ_ _=>rfl) T aY (MethT.frame (MethT.lift dL ↑6));have lg:=c3u (eH.m (ps:=["self","hand"]) λ_ _ _ _ _ _=>ba2 λ_ _=>rfl) T aY fv;have dm:=b6d (et.m (ps:=["self"]) λ_ _ _ _ _ _=>ba1 λ_=>rfl) T bH;have gp:=b4r (hU.m (ps:=["self"]) λ_ _ _ _ _ _=>ba1 λ_=>rfl) T bH;have bZ:=(b9f (jX.m (ps:=["self"]) λ_ _ _ _ _ _=>ba1 λ_=>rfl) T:MethT l.prog w K mg qb _ _ _ _ _);have ai:=b9e (ga.m (ps:=["self"]) λ_ _ _ _ _ _=>ba1 λ_=>rfl) T bn;have ib:=c3v (ir.m (ps:=["self"]) λ_ _ _ _ _ _=>ba1 λ_=>rfl) T ai (MethT.lift dv ↑6);have ff:=c9h (fq.m (ps:=["self","order"]) λ_ _ _ _ _ _=>ba2 λ_ _=>rfl) T (MethT.frame cA);have hm:=c7a (gG.m (ps:=["self","side"]) λ_ _ _ _ _ _=>ba2 λ_ _=>rfl) T hsd aY (MethT.frame iN);have cn:=(d7y (hg.t X G λ_ _ _ _ _ _=>ba1 λ_=>rfl) T:FnT l.prog w K mg qb _ _ _ _);have cf:=c6x (da.m (ps:=["self"]) λ_ _ _ _ _ _=>ba1 λ_=>rfl) T cn gP;have ct:=c3w (kB.m (ps:=["self"]) λ_ _ _ _ _ _=>ba1 λ_=>rfl) T cn bn;have cy:=(c7b (hC.m (ps:=["self"]) λ_ _ _ _ _ _=>ba1 λ_=>rfl) T:MethT l.prog w K mg qb _ _ _ _ _);have eL:=d2u (jE.m (ps:=["self","place"]) λ_ _ _ _ _ _=>ba2 λ_ _=>rfl) T ai bn (MethT.frame cA);have di:=c6z (jB.m (ps:=["self","out_size","back_size"]) λ_ _ _ _ _ _=>ba3 λ_ _ _=>rfl) T (MakeT.frame jN);have fE:=di.make kK eZ T.c_Hall.m;have bJ:=(c6l (iI.t X G λ_ _ _ _ _ _=>ba0 rfl):FnT l.prog w K mg qb _ _ _ _);have iF:=(c6m (eN.t X G λ_ _ _ _ _ _=>ba0 rfl):FnT l.prog w K mg qb _ _ _ _);have gW:=d4v (jg.t X G λ_ _ _ _ _ _=>ba3 λ_ _ _=>rfl) T ai (MethT.frame eL);have gZ:=b5y (eT.t X G λ_ _ _ _ _ _=>ba2 λ_ _=>rfl) T ih kZ ai cy cf ct bZ;have gh:=c9a (iL.t X G λ_ _ _ _ _ _=>ba5 λ_ _ _ _ _=>rfl) T bJ av hL (MethT.frame dT) (MethT.frame hm) (MethT.frame ff) ai (FnT.frame gW);have dH:=c6k (jV.t X G λ_ _ _ _ _ _=>ba3 λ_ _ _=>rfl) T av cK;have fF:=d2k (kb.t X G λ_ _ _ _ _ _=>ba1 λ_=>rfl) T bJ lg dm gp ib;have jx:=e4i jp T av cK iF dH (MakeT.frame fE) fF (FnT.frame gh) (FnT.frame gZ) ai cy cf ct bZ;exact jx
theorem walk{l:PySem.W.OpenLaw}{q:Program}{loose:List Str}{XP:(Str->Option Value)->Heap->Prop}{YP:World->Heap->Prop}{d:DefRec}{K:Params->Frag}(hn:l.most=some 63)(hdf:d.params.defaults=[])(hY:∀(w:World) (h:Heap),YP w h->(K w.params).In h)(F:∀(w:World) (mg:Str->Option Value) (fa:Addr) (h:Heap),(K w.params).In h->h.Ns mainGlobals mg->mg d.name=some (.ref fa) ->
   ∃fd:FuncData,(∀(s:Shared) (u:Value),BindsTo s fd ⟨[u],[]⟩ [("script",u)])/\∀qb:Heap,(K w.params).In qb->qb.Ns mainGlobals mg->FnOk l.prog w (K w.params) mg qb (CXK l.prog w) 13 fa fd ["script"] (d0i (K w.params))):
  PySem.W.WalkO q loose XP YP l.row.toRowW d [] (λf vs=>PySem.call f vs) :=
 L2.walk_of (n:=63) (k:=13) (x:="script") (CX:=λw=>CXK l.prog w) (sp:=λw=>d0i (K w.params)) hn ↑6 hdf ⟨rfl,by decide,by decide⟩ hY F (λ_ _ a ns hl _ hS=>⟨a,ns,rfl,hS,hl,λ_=>rfl⟩)
  λ_ _ _ _ _ z=>by obtain⟨_,_,_,_,_,q⟩:=z;exact q
end S
open PySem PySem.W PyProof.Rows
set_option maxRecDepth 100000
set_option maxHeartbeats 0
theorem PySem.Challenge.cw_slipring_k30_whole_two_halls_holds : PySem.Challenge.rw_slipring_k30_whole_two_halls.Holds := by
 refine hd ?_
 k_fill
 refine S.walk (l := PySem.Challenge.rw_slipring_k30_whole_two_halls) rfl rfl (fun w h Y => PySem.W.kIn_of Y) ?F
 case F =>
  intro w mg fa h KX G hmg
  apply S.all_mk (X := KX) (G := G) (hfa := hmg)
  all_goals try (first | k_is | kit_is | kts_exm | kernel_rfl)
  all_goals first | (refine' S.AtG.of ?d ?a ?b ?c; (case d => k_is); (case a => k_is); (case b => k_is); (case c => k_is)) | (refine' S.AtM.of ?d ?i ?a ?b ?c; (case d => k_is); (case i => k_is); (case a => k_is); (case b => k_is); (case c => k_is)) | (refine' S.AtF.of ?a ?b ?c; (case a => k_is); (case b => k_is); (case c => k_is)) | skip
