import PyProof.Rows.All
import OpenK.KLine
import Lean
import PyProof.EqAt
import PyProof.EqKinds
import PyProof.TupleCall
import PyProof.NsDelKeeps
import PyProof.NeKinds
import PyProof.CompFree
import PyProof.CompMap
import KE.LcSums
import PyProof.CompUse
import PyProof.Rows.RuleIs
import PyProof.Rows.RuleIs2
import PyProof.ZipIter
import PyProof.DictKinds
import PyProof.DictRoads
import PyProof.AutoRange
import PyProof.FactsAll.range_1
import KE.KTryMore
import PyProof.StrCalls2
import PyProof.CallStr
import PyProof.SliceStr2
import PyProof.StrOps2
import PyProof.StrLawsChain
import PyProof.StrLawsTight
import PyProof.StrWalks
import PyProof.EnumMake
import KE.KIntText
import PyProof.Rows.Range3
import PyProof.AutoSeq1
import PyProof.AutoListH
import PyProof.FitsReplace
import KE.KDictOf
import KE.KDictList
import KE.KFromBytes
import KE.KIsAll
import KE.KItem
import KE.KxBytes
import KE.RegKIsAll
import KE.RegKTryMore
import PySem.Challenge.RW_slipring_k23_texts_of_cells
set_option Elab.async false
set_option linter.all false
set_option maxRecDepth 100000
set_option maxHeartbeats 4000000
section
open PySem PySem.W PyProof.Rows
set_option maxRecDepth 100000
set_option maxHeartbeats 0
theorem hk2{K:Params->Frag}{as:List Addr}(n:Nat)(e:∀P,as=(K P).map (·.1))(w:World)(s:Shared)(x:((as.take n).map s.heap.get?,(as.drop n).map s.heap.get?)=(((K w.params).take n).map (λp=>some p.2),((K w.params).drop n).map λp=>some p.2)):InK K w s.heap:=InK.of e w s (by simpa only[<-List.map_append,List.take_append_drop] using congr (congrArg (·++·) (Prod.mk.inj x).1) (Prod.mk.inj x).2)
set_option hygiene false in
local macro_rules|`(tactic| refine $hd ($n1 := $v1) ($n2 := $v2) ($n3 := $v3) ($n4 := $v4) ($n5 := $_ ($_ $k $a $e)) ($n6 := $_) ($n7 := $v7) ($n8 := $v8) $x1 $_ $x3 $x4 $x5 $x6 $x7 $x8 $x9 $x10 $x11 $x12 $x13 $x14 $x15)=>`(tactic| refine $hd ($n1 := $v1) ($n2 := $v2) ($n3 := $v3) ($n4 := $v4) ($n5 := fun s=>(List.map s.heap.get? (List.take 400 $a),List.map s.heap.get? (List.drop 400 $a))) ($n6 := fun w=>(List.map (fun p=>some p.2) (List.take 400 ($k w.params)),List.map (fun p=>some p.2) (List.drop 400 ($k w.params)))) ($n7 := $v7) ($n8 := $v8) $x1 (hk2 400 $e) $x3 $x4 $x5 $x6 $x7 $x8 $x9 $x10 $x11 $x12 $x13 $x14 $x15)
namespace PySem.W.Fast
def tw10042083083395451092:=()
def tw10206956779759575209:=()
def tw10374632558016547081:=()
def tw1053170938641747357:=()
def tw11018145951921344529:=()
def tw11521511281804667912:=()
def tw12448580975905352322:=()
def tw12509177155966099375:=()
def tw13114645530532618160:=()
def tw13469501207593853456:=()
def tw1351852979975943594:=()
def tw13697893789764255929:=()
def tw13732051381489595846:=()
def tw14332724281983326942:=()
def tw14383893971135437652:=()
def tw1478030337931831861:=()
def tw14831331821628862639:=()
def tw15163409612377130007:=()
def tw15528221797031607849:=()
def tw16766683885213920930:=()
def tw17653592248189364939:=()
def tw17710873009340938204:=()
def tw17724038513149304489:=()
def tw17744993626210230056:=()
def tw182548527808355788:=()
def tw18437792190763421558:=()
def tw2786648768249225349:=()
def tw3112634735961092027:=()
def tw3615178456390077923:=()
def tw3998647374267775353:=()
def tw52312688904243638:=()
def tw6427576097997697322:=()
def tw6512149657230936976:=()
def tw6586298337692957092:=()
def tw6677843147175625621:=()
def tw7723211159200377822:=()
def tw7774113678449685934:=()
def tw861502493610598483:=()
def tw8715888555302371167:=()
def tw8997383693586321770:=()
def tw9380741260308362100:=()
def tw938635154573522699:=()
def tw9464783005390448368:=()
def tw9582823730064241283:=()
def tw15554417296805563061:=()
def tw3671519592330383864:=()
def tw12652081859355081885:=()
def tw1207101557538958131:=()
def tw12740759652641322565:=()
def tw13669536469129627823:=()
def tw2314633323536394700:=()
def tw1937721966566455358:=()
def tw16721508838639397229:=()
def tw1922157984580058403:=()
def tw4046790133079468173:=()
def tw4323258101793500111:=()
def tw5000232492035539693:=()
def tw8865387616306378214:=()
def tw866717566613908145:=()
def tw599730875272715187:=()
def tw8331849164307833061:=()
def tw12843764043397292189:=()
def tw2466311954974566718:=()
def tw9784134513789038367:=()
def tw10341888390210383824:=()
def tw6278996535519779258:=()
def tw16873086082458093902:=()
def tw15925456577456769635:=()
def tw11066385474520676512:=()
def tw18183970276198133131:=()
def tw819570635367399668:=()
def tw6557801498797044033:=()
def tw15621415185263527259:=()
def tw8186657734068701312:=()
def tw8498532028676091811:=()
def tw12408111787983249662:=()
def tw13437419889732721216:=()
def tw17170472223608059050:=()
def tw977512076041815475:=()
def tw14172470266813156586:=()
def tw13160504802963445071:=()
def tw6702445572142316249:=()
def tw4493901809537577575:=()
def tw209982475168477708:=()
def tw6548459193220583526:=()
def tw17613222154834848340:=()
def tw3099597729799864441:=()
def tw9402243437249704421:=()
def tw2135409205425526673:=()
def tw14404928986312190071:=()
def tw991626836265849350:=()
def tw7867829370405329436:=()
def tw15861351967447197489:=()
def tw3681537716864247207:=()
def tw12960429369202013873:=()
def tw1293241653719404408:=()
def tw9947508896943372755:=()
def tw8285278889055680438:=()
def tw17590705303994421779:=()
def tw8159993647027272844:=()
def tw10741264400317747893:=()
def tw1467881925912835984:=()
def tw1532491051758110099:=()
def tw1725486776273817318:=()
def tw13913613514976480042:=()
def tw14226173905949225808:=()
def tw6105849179199505303:=()
def tw2931988195819169919:=()
def tw15235614512728720:=()
def tw4971374062829452455:=()
def tw5217270863462422736:=()
def tw18293242582946804979:=()
def tw10295913840692754127:=()
def tw9404705873571188630:=()
def tw10551173667578312727:=()
def tw13421457143807847188:=()
def tw16864618592142003386:=()
def tw726351398001015727:=()
def tw14904681115217272601:=()
def tw12099505692703838030:=()
def tw12670982853097334264:=()
def tw1070438729232803039:=()
def tw10159399881129095643:=()
def tw16756451883985382160:=()
def tw11853640710764476214:=()
def tw16248296213531012650:=()
def tw10842938092177581297:=()
def tw6128145076113358165:=()
def tw11898673842065290130:=()
def tw13462424878891718212:=()
def tw12138319994727072339:=()
def tw4683681711962371626:=()
def tw17214186515701724070:=()
def tw11564986514327137767:=()
def tw3308634892276815127:=()
def tw7322748291113730364:=()
def tw14935467056822913822:=()
def tw8733291241859026926:=()
def tw17338325484393633139:=()
def tw3303267245142563540:=()
def tw3300257896294614128:=()
def tw9860861378791804195:=()
def tw16636501806038632012:=()
def tw1708089923452030704:=()
def tw2694234056635809718:=()
def tw17339309145561079191:=()
def tw1825952489489211193:=()
def tw87601786513091389:=()
def tw5537553045615171315:=()
def tw2941924889016668590:=()
def tw15402603294489630176:=()
def tw12382822922155266910:=()
def tw3919386906821981792:=()
def tw446995266069924076:=()
def tw15752536640612570366:=()
def tw2483420100392427323:=()
def tw16279288168775177219:=()
def tw10510056951384868246:=()
def tw16723463757517087524:=()
def tw6822071536725586909:=()
def tw14664691819916384248:=()
def tw6162269159774324313:=()
def tw3300454383303005205:=()
def tw2570914705882880060:=()
def tw13953587524928339648:=()
def tw10698057553749749337:=()
def tw16902440903046159558:=()
def tw14963028359598502718:=()
def tw6356304189028158447:=()
def tw14842496431369740429:=()
def tw3419001889969749887:=()
def tw11738243743197964597:=()
def tw4734895289157585001:=()
def tw8739830900816887780:=()
def tw2107523057676978006:=()
def tw11024694936033576346:=()
def tw4075453323654395381:=()
def tw1950803216711332702:=()
def tw896878414759379649:=()
def tw2080317491765294665:=()
def tw16203965252921439515:=()
def tw5344687154915797982:=()
def tw14424681132571578402:=()
def tw5101696844757716304:=()
def tw13135312941875745310:=()
def tw3543459598558145280:=()
def tw2789304352393801511:=()
def tw1972164579936704799:=()
def tw4547051000311932777:=()
def tw3239113980409921550:=()
def tw16298917771340976007:=()
def tw140001813534094272:=()
def tw13055953723892786844:=()
def tw11266997524610791606:=()
def tw6229817132586351632:=()
def tw3382625519597670723:=()
def tw2646887283097553488:=()
def tw2261719852989239553:=()
def tw18157406047293677543:=()
def tw13674586047789940208:=()
def tw12903330217458380548:=()
def tw16615150188913437886:=()
def tw561727478393794602:=()
def tw2741014181512449073:=()
def tw6148498323302512570:=()
def tw16053306600634468012:=()
def tw11692469974320434101:=()
def tw855453113358079251:=()
def tw4189273013823423559:=()
def tw11481637867367846703:=()
def tw1956260828630720203:=()
def tw384561282630992784:=()
def tw1915925776726481438:=()
def tw6420159726195949164:=()
def tw8565224436197482051:=()
def tw13861969467909019144:=()
def tw10016166984437732892:=()
def tw6056707288978253535:=()
def tw14243238205550065757:=()
def tw15831126876759372255:=()
def tw2692750590507578028:=()
def tw1158361714356455011:=()
def tw15577281813014381367:=()
def tw15541240446876304647:=()
def tw13769103115541136327:=()
def tw9116068151291705539:=()
def tw4480162626587320490:=()
def tw3215387988796971590:=()
def tw258204147387103276:=()
def tw1956775160557780875:=()
def tw13810262117814702294:=()
def tw13622603851894308203:=()
def tw11373181179767321252:=()
def tw10876078143196172821:=()
def tw8972062959192195235:=()
def tw772564365185477556:=()
def tw7046044490832178742:=()
def tw6472337539984862722:=()
def tw5725222548895626118:=()
def tw539538531456391632:=()
def tw4953865588907285216:=()
def tw4849480874435393781:=()
def tw4015202173357781934:=()
def tw17678831435119133177:=()
def tw17483705464198625004:=()
def tw17334828202450815106:=()
def tw16654469307462801742:=()
def tw16226643914720891334:=()
def tw15438627641174518403:=()
def tw14564479935002850509:=()
def tw12488014758255163090:=()
def tw12431713363859531893:=()
def tw12147665669636231765:=()
def tw11513857634932158529:=()
def tw11502921971960690029:=()
def tw11408881796089955267:=()
def tw10879749546641988924:=()
def tw10624116801336726872:=()
def tw1979317910248211280:=()
def tw17062427158221528723:=()
def tw1342123614928995077:=()
def tw14689541978594310382:=()
def tw8431482922422412695:=()
def tw5667099127317398114:=()
def tw3985964047577975286:=()
def tw6170744672141170255:=()
def tw643336161829623379:=()
def tw4077048163395320219:=()
def tw8002303944043701648:=()
def tw4684226298888400098:=()
def tw10294118229990073760:=()
def tw9972681490609642005:=()
def tw896239598344801917:=()
def tw8157277791214410489:=()
def tw5323657890516693427:=()
def tw4635989785427082552:=()
def tw4436474186459923750:=()
def tw4171853373547519906:=()
def tw18146532975450069615:=()
def tw16409965706819354750:=()
def tw13053770412826190925:=()
def tw7476452910721959123:=()
def tw2827255003249426055:=()
def tw9615563845995560447:=()
def tw8949853181751564097:=()
def tw8899516883271353254:=()
def tw740290905518256060:=()
def tw4804111812005502284:=()
def tw4562827626845409882:=()
def tw2400638427578300857:=()
def tw1840220198017710270:=()
def tw17464319187374939960:=()
def tw17292613610259460706:=()
def tw17187875760726034783:=()
def tw16919654943277366748:=()
def tw12727641955093265886:=()
def tw9456574344343218679:=()
def tw8912161614967838395:=()
def tw7480016910919988345:=()
def tw5438652380644606353:=()
def tw3721919958574915784:=()
def tw18418582437962087742:=()
def tw15779231459743154856:=()
def tw13757698761724263525:=()
def tw12772213712371865176:=()
def tw2187251505897268136:=()
def tw7086961617601330827:=()
def tw17435391645217708394:=()
def tw16955839230299176341:=()
def tw13946496683202179788:=()
def tw11421057715548341654:=()
def tw8060666987683057360:=()
def tw18101783494082082527:=()
def tw9495317472360511255:=()
def tw5498123283257192965:=()
def tw4321966507151631593:=()
def tw3270257207059953099:=()
def tw2144661209622563809:=()
def tw14387916025512776202:=()
def tw12917704675397863716:=()
def tw11766667032028208565:=()
def tw10792498714594961201:=()
def tw8047209995159408440:=()
def tw11401859456886640639:=()
def tw9796564346219866840:=()
def tw9592521066531166775:=()
def tw9461873434466728008:=()
def tw7217548393331319763:=()
def tw6522051377940421278:=()
def tw2399617604181995578:=()
def tw2358075552688931204:=()
def tw14219159868682941630:=()
def tw13034982811429478159:=()
def tw12887044766017154078:=()
def tw11962351593759143498:=()
def tw9977182230042388008:=()
def tw9950792792127014553:=()
def tw9919008367099125623:=()
def tw9879335643197240621:=()
def tw9757595895972200118:=()
def tw9689729476882780088:=()
def tw9646623106273453227:=()
def tw9630203353718772412:=()
def tw9536688357841153863:=()
def tw2705426917707335001:=()
def tw6953138203311097117:=()
def tw8219003486749837733:=()
def tw2295934692909999376:=()
def tw3235425350174046738:=()
def tw6469784823511061222:=()
def tw5994696166404524948:=()
def tw5467331546851215429:=()
def tw5449601097390414333:=()
def tw447263597446747957:=()
def tw15042883488752021643:=()
def tw14782755387869428366:=()
def tw14261769069557060686:=()
def tw140236481695663071:=()
def tw13812277999558781770:=()
def tw12954591660760965231:=()
def tw12459912946257978736:=()
def tw12297992134047619483:=()
def tw1205274952441263945:=()
def tw11823594873375168262:=()
def tw11384182702204212275:=()
def tw1000662321505670351:=()
def tw9387514328989991554:=()
def tw9331231397406362311:=()
def tw8737599933303070863:=()
def tw8535803893964050539:=()
def tw8422229294311615681:=()
def tw8171798328758944481:=()
def tw7943549864190904611:=()
def tw7424060955962978353:=()
def tw7374399212775623666:=()
def tw6968137755033780318:=()
def tw6858818405166986180:=()
def tw6782663255696616371:=()
def tw6575520176995025181:=()
def tw6549852094080907030:=()
def tw6542358382571353910:=()
def tw615563214671542189:=()
def tw5702276774652866934:=()
def tw5622701340561072331:=()
def tw5072417060200589145:=()
def tw5002640475654186023:=()
def tw4906484309439969231:=()
def tw4859391219904099992:=()
def tw4699756791338806529:=()
def tw4548300405975405348:=()
def tw4483904966330829159:=()
def tw443766864951011646:=()
def tw4096438862311573950:=()
def tw3953844824629472508:=()
def tw3778530596728393105:=()
def tw3641951560692057861:=()
def tw3238445694619138142:=()
def tw3049343062529576306:=()
def tw3042748168174471775:=()
def tw2950685276103557050:=()
def tw28018229315631829:=()
def tw2595585439558603231:=()
def tw2455152089536381482:=()
def tw2353497105660221152:=()
def tw2259672571474061568:=()
def tw2244103112122482387:=()
def tw1864683662541468164:=()
def tw17760279517084355780:=()
def tw17351735930882485243:=()
def tw17318462890700432884:=()
def tw1719895430356276633:=()
def tw1717767836212652739:=()
def tw17013487888433625170:=()
def tw16682895059504647277:=()
def tw16670775579421159206:=()
def tw16120054744476736488:=()
def tw16108870410212019532:=()
def tw1607123104830579860:=()
def tw1599053048872161195:=()
def tw15590096980072825465:=()
def tw15127105006835628225:=()
def tw1495895850433845275:=()
def tw14827714588952709054:=()
def tw14760874974797668852:=()
def tw14746253646979254834:=()
def tw14727194681476072466:=()
def tw14611616552423853409:=()
def tw14537775516033599862:=()
def tw14520296925931582552:=()
def tw14074196154385387334:=()
def tw14022695629967993375:=()
def tw1383625962624193546:=()
def tw13547939009206843870:=()
def tw12770481643036789091:=()
def tw12768989823518198380:=()
def tw12269216009862288129:=()
def tw11907897558876765624:=()
def tw11662115353561507501:=()
def tw11429584451438056573:=()
def tw10988312798546598065:=()
def tw10826640976665885199:=()
def tw10519837036962490867:=()
def tw10258873121960336067:=()
end PySem.W.Fast
open_top hd for PySem.Challenge.rw_slipring_k23_texts_of_cells
end
open PySem.W (Frag findIn nsIn mg_of mroIn keepIn kia_one excIn clsIn isFn mg_none_of plainGet hasDictIn makesIn codeIn exmAny plainOver callWith_K kitOne specialIn exmOne)
set_option hygiene false
local macro_rules
| `(↑1)=>`(⟨rfl,rfl,rfl,by decide +kernel,rfl,by decide +kernel,by decide +kernel⟩)
| `(↑2)=>`(((backTo cpos (starEach [e] X.env)).all (λx=>!x.1) && (backToKw cpos (keywordEach [] X.env)).all (λx=>x.1.isSome) && decide ([e].length+([]:List Keyword).length+(if ([]:List Keyword).isEmpty then 0 else 1)<30)))
set_option hygiene true
namespace L2
open PySem PySem.Spec PyProof.Rows
abbrev Key:=Sum Int Str
def c1p:Key->Value->Bool
 | .inl k,v=>Value.isInt k v
 | .inr x,v=>Value.isStrOf x v
def c5n(w:World):Key->Int
 | .inl k=>hashInt k
 | .inr x=>hashStr w x
theorem l4:∀{k:Key}{v:Value},c1p k v=true->(∃i t,k=Sum.inl i/\v=Value.int i t)\/(∃x t,k=Sum.inr x/\v=Value.str x t)
 | .inl i,v,h=>by
  obtain⟨t,e⟩:=Value.isInt_shape (k:=i) (v:=v) h;exact .inl ⟨i,t,rfl,e⟩
 | .inr x,v,h=>by
  obtain⟨t,e⟩:=Value.isStrOf_shape (x:=x) (v:=v) h;exact .inr ⟨x,t,rfl,e⟩
theorem c1o(a b:Int):decide ((Sum.inl a:Key)=Sum.inl b)=(a == b):=by
 by_cases e:a=b
 ·subst e;simp
 ·have h:¬ (Sum.inl a:Key)=Sum.inl b:=λq=>e (Sum.inl.inj q)
  rw[decide_eq_false h];exact(beq_eq_false_iff_ne.mpr e).symm
theorem c1l(a b:Str):decide ((Sum.inr a:Key)=Sum.inr b)=decide (a=b):=by
 by_cases e:a=b
 ·subst e;simp
 ·have h:¬ (Sum.inr a:Key)=Sum.inr b:=λq=>e (Sum.inr.inj q)
  rw[decide_eq_false h,decide_eq_false e]
theorem c1n(a:Int)(b:Str):decide ((Sum.inl a:Key)=Sum.inr b)=false:=decide_eq_false (λq=>nomatch q)
theorem c1m(a:Str)(b:Int):decide ((Sum.inr a:Key)=Sum.inl b)=false:=decide_eq_false (λq=>nomatch q)
def b4w(prog:Program)(w:World):PySem.KeyKind prog w Key where
 is:=c1p
 hash:=c5n w
 inj:=λv a b ha hb=>by
  rcases l4 ha with ⟨i,t,rfl,rfl⟩|⟨x,t,rfl,rfl⟩
  ·rcases l4 hb with ⟨j,u,rfl,e⟩|⟨y,u,rfl,e⟩
   ·injection e with e1 _;rw[e1]
   ·exact nomatch e
  ·rcases l4 hb with ⟨j,u,rfl,e⟩|⟨y,u,rfl,e⟩
   ·exact nomatch e
   ·injection e with e1 _;rw[e1]
 byValue:=λk v h=>by
  rcases l4 h with ⟨i,t,rfl,rfl⟩|⟨x,t,rfl,rfl⟩ <;> rfl
 pyHash:=λhv h=>by
  rcases l4 hv with ⟨i,t,rfl,rfl⟩|⟨x,t,rfl,rfl⟩
  ·exact wpAny_pyHash_int h
  ·exact wpAny_pyHash_str h
 eqBool:=λhu hv h=>by
  rcases l4 hu with ⟨i,t,rfl,rfl⟩|⟨x,t,rfl,rfl⟩
  ·rcases l4 hv with ⟨j,u,rfl,rfl⟩|⟨y,u,rfl,rfl⟩
   ·rw[c1o] at h;exact wpAny_eqBool_int h
   ·rw[c1n] at h;exact SeqAt.EqAt.int_str i t y u _ _ _ _ h
  ·rcases l4 hv with ⟨j,u,rfl,rfl⟩|⟨y,u,rfl,rfl⟩
   ·rw[c1m] at h;exact SeqAt.EqAt.str_int x t j u _ _ _ _ h
   ·rw[c1l] at h;exact wpAny_eqBool_str h
 «strs»:=λk x t v h=>by
  rcases l4 h with ⟨i,u,rfl,e⟩|⟨y,u,rfl,e⟩
  ·exact nomatch e
  ·injection e with e1 _
   subst e1;cases v <;> rfl
end L2
namespace L2
open PySem PySem.Spec PyProof.Rows
inductive V where
 | non|bl (b:Bool)|int (i:Int)|str (x:Str)|byt (b:Array UInt8)|flt (b:UInt64)|ref (a:Addr)|ty (n:String)
 deriving DecidableEq
def RelV:V->Value->Prop
 | .non,u=>u=Value.none
 | .bl b,u=>u=Value.bool b
 | .int i,u=>∃t,u=Value.int i t
 | .str x,u=>∃t,u=Value.str x t
 | .byt b,u=>∃t,u=Value.bytes b t
 | .flt b,u=>∃t,u=Value.float b t
 | .ref a,u=>u=Value.ref a
 | .ty n,u=>u=Value.type n
abbrev Vals:List V->List Value->Prop:=Paired RelV
theorem Vals.length{xs:List V}{us:List Value}(r:Vals xs us):xs.length=us.length:=Paired.length r
theorem Vals.get:∀{xs:List V}{us:List Value}{i:Nat}{x:V},Vals xs us->xs[i]?=some x->∃u,us[i]?=some u/\RelV x u
 | _,_,_,_,.nil,e=>by simp at e
 | _,_,0,_,.cons r _,e=>by simp at e;subst e;exact⟨_,rfl,r⟩
 | _,_,i+1,x,.cons _ t,e=>by
  obtain⟨u,h1,h2⟩:=Vals.get (i:=i) (x:=x) t (by simpa using e)
  exact⟨u,by simpa using h1,h2⟩
theorem Vals.set{x:V}{u:Value}(r:RelV x u):∀{xs:List V}{us:List Value}(i:Nat),Vals xs us->Vals (xs.set i x) (us.set i u)
 | _,_,_,.nil=>.nil
 | _,_,0,.cons _ t=>.cons r t
 | _,_,i+1,.cons q t=>.cons q (Vals.set r i t)
theorem Vals.append{xs ys:List V}{us ws:List Value}(h:Vals xs us)(s:Vals ys ws):Vals (xs++ys) (us++ws):=by
 induction h with
 | nil=>exact s
 | cons r t ih=>exact .cons r ih
theorem Vals.take:∀{xs:List V}{us:List Value}(n:Nat),Vals xs us->Vals (xs.take n) (us.take n)
 | _,_,0,_=>.nil
 | _,_,_+1,.nil=>.nil
 | _,_,n+1,.cons r t=>.cons r (Vals.take n t)
theorem Vals.drop:∀{xs:List V}{us:List Value}(n:Nat),Vals xs us->Vals (xs.drop n) (us.drop n)
 | _,_,0,r=>r
 | _,_,_+1,.nil=>.nil
 | _,_,n+1,.cons _ t=>Vals.drop n t
theorem Vals.none_of:∀{xs:List V}{us:List Value}{i:Nat},Vals xs us->xs[i]?=none->us[i]?=none:=λ{xs us i} r e=>by
 have h1:=r.length;have h2:xs.length<=i:=List.getElem?_eq_none_iff.mp e;exact List.getElem?_eq_none_iff.mpr (by lia)
def c4k:Option V->Option Value->Prop
 | some v,some u=>RelV v u
 | none,none=>True
 | _,_=>False
def KV{κ:Type}:List (κ×V)->List (κ×Value)->Prop:=Paired λ(p:κ×V) (q:κ×Value)=>p.1=q.1/\RelV p.2 q.2
def kV:Key->V
 | .inl i=>.int i
 | .inr x=>.str x
inductive HO where
 | lst (xs:List V)
 | tup (xs:List V)
 | dK (kvs:List (Key×V))|dT (kvs:List (List Key×V))
 | set (S:Int->Bool) (n:Nat)
 | ins (C dx:Addr) (fs:List (Str×V))
 | own (x:Addr)
 | xd (fs:List (Str×V))
 | met (f x:Addr)
 | rng (lo hi:Int)
 | frz (o:Obj) (u:HO)
 | tbl (ps:Array Value)
 | ext (φ:Heap->Prop)
abbrev Hp:=Addr->Option HO
def upd(H:Hp)(a:Addr)(o:HO):Hp:=λb=>if b=a then some o else H b
theorem d0{H:Hp}{a:Addr}{o:HO}:upd H a o a=some o:=by unfold upd;rw[if_pos rfl]
theorem f6{H:Hp}{a b:Addr}{o:HO}(h:b≠a):upd H a o b=H b:=by unfold upd;rw[if_neg h]
theorem a3k{H:Hp}{a:Addr}{o u:HO}:upd (upd H a o) a u=upd H a u:=by
 funext b;unfold upd;split <;> rfl
theorem d6{H:Hp}{a b:Addr}{o:HO}(h:H a=some o)(h':H b=none):a≠b:=by
 intro e;subst e;rw[h] at h';cases h'
section
variable(P:Program)(w:World)
def ObjOk(H:Hp)(h:Heap)(a:Addr):HO->Prop
 | .lst xs=>xs.length<=sizeLine/\∃(its:List Value)(n:Nat),Vals xs its/\h.get? a=some { cls:=.type "list",data:=.seq its.toArray n }
 | .tup xs=>xs.length<=sizeLine/\∃its:List Value,Vals xs its/\IsTup h a its.toArray
 | .dK kvs=>kvs.length<=sizeLine/\(a == sysModules)=false/\∃vs,KV kvs vs/\h.DictOf (b4w P w) a vs
 | .dT kvs=>kvs.length<=sizeLine/\(a == sysModules)=false/\∃xs:List (List Key×Addr×Value),
   Paired (λ(p:List Key×V) (q:List Key×Addr×Value)=>p.1=q.1/\H q.2.1=some (.tup (p.1.map kV))/\RelV p.2 q.2.2) kvs xs /\
   ∃o es ep,h.get? a=some o/\o.ExactDict/\o.data=.dict es ep/\es.toList=xs.map (entryOfKey (tupleKind (b4w P w)))/\(xs.map (·.1)).Nodup
 | .set S n=>h.SetOf (intKind P w) a S n
 | .ins C dx fs=>H dx=some (.own a)/\fs.length<=1000/\dx≠a/\h.get? a=some (PySem.W.instObj C dx) /\
   ∃mA,h.Ns1 dx mA/\(∀f,c4k (fs.lookup f) (mA f))/\PySem.Within mA (fs.map (·.1))
 | .own _=>∃o,h.get? a=some o
 | .xd fs=>∃mA,h.Ns1 a mA/\∀f,c4k (fs.lookup f) (mA f)
 | .rng lo hi=>∃t u v,h.get? a=some { cls:=.type "range",data:=.fields #[.int lo t,.int hi u,.int 1 v] }
 | .frz o u=>h.get? a=some o/\ObjOk H h a u
 | .tbl ps=>h.get? a=some { cls:=.none,data:=.fields ps }
 | .met f x=>h.get? a=some (PySem.W.methodObj (.ref f) (.ref x))
 | .ext φ=>φ h/\(∃o,h.get? a=some o)/\∀h1 h2:Heap,φ h1->(∀o,h1.get? a=some o->h2.get? a=some o)->φ h2
def HOk(H:Hp)(h:Heap):Prop:=∀a o,H a=some o->ObjOk P w H h a o
end
section
variable{P:Program}{w:World}{H H':Hp}{h h':Heap}{a:Addr}{o:HO}
theorem ObjOk.lt(x:ObjOk P w H h a o):a<h.objs.size:=by
 cases o with
 | lst xs=>obtain⟨_,_,_,_,e⟩:=x;exact Heap.lt_size e
 | tup xs=>obtain⟨_,_,_,p⟩:=x;exact p.lt
 | dK kvs=>obtain⟨_,_,_,_,o,_,_,e,_⟩:=x;exact Heap.lt_size e
 | dT kvs=>obtain⟨_,_,_,_,o,_,_,e,_⟩:=x;exact Heap.lt_size e
 | set S n=>obtain⟨o,_,_,_,e,_⟩:=x;exact Heap.lt_size e
 | ins C dx fs=>obtain⟨_,_,_,e,_⟩:=x;exact Heap.lt_size e
 | own y=>obtain⟨_,e⟩:=x;exact Heap.lt_size e
 | xd fs=>obtain⟨_,⟨_,_,_,e,_⟩,_⟩:=x;exact Heap.lt_size e
 | rng lo hi=>obtain⟨_,_,_,e⟩:=x;exact Heap.lt_size e
 | frz ob u=>obtain⟨e,_⟩:=x;exact Heap.lt_size e
 | tbl ps=>exact Heap.lt_size (show h.get? a=some _ from x)
 | met f y=>exact Heap.lt_size (show h.get? a=some _ from x)
 | ext φ=>obtain⟨_,⟨_,e⟩,_⟩:=x;exact Heap.lt_size e
theorem Paired.mapP{α β:Type}{F G:α->β->Prop}{l₁:List α}{l₂:List β}(h:Paired F l₁ l₂)(f:∀a b,F a b->G a b):Paired G l₁ l₂:=by
 induction h with
 | nil=>exact .nil
 | cons r t ih=>exact .cons (f _ _ r) ih
theorem ObjOk.stay(x:ObjOk P w H h a o)(k:∀b u,(b=a\/H b=some (.own a))->h.get? b=some u->h'.get? b=some u)(ho:∀b,H b=some (.own a)->H' b=some (.own a))(ht:∀b xs,H b=some (.tup xs)->H' b=some (.tup xs)):ObjOk P w H' h' a o:=by
 induction o with
 | lst xs=>obtain⟨z,its,n,r,e⟩:=x;exact⟨z,its,n,r,k _ _ (.inl rfl) e⟩
 | tup xs=>obtain⟨z,its,r,ob,e,c⟩:=x;exact⟨z,its,r,ob,k _ _ (.inl rfl) e,c⟩
 | dK kvs=>obtain⟨z,y,vs,r,ob,es,ep,e,c⟩:=x;exact⟨z,y,vs,r,ob,es,ep,k _ _ (.inl rfl) e,c⟩
 | dT kvs=>
  obtain⟨z,y,xs,r,ob,es,ep,e,c⟩:=x;exact⟨z,y,xs,Paired.mapP r λp q z=>⟨z.1,ht _ _ z.2.1,z.2.2⟩,ob,es,ep,k _ _ (.inl rfl) e,c⟩
 | set S n=>obtain⟨ob,es,ep,t,e,c⟩:=x;exact⟨ob,es,ep,t,k _ _ (.inl rfl) e,c⟩
 | ins C dx fs=>
  obtain⟨d,z,ne,e,mA,⟨od,es,ep,e2,c⟩,r⟩:=x;exact⟨ho _ d,z,ne,k _ _ (.inl rfl) e,mA,⟨od,es,ep,k _ _ (.inr d) e2,c⟩,r⟩
 | own y=>obtain⟨ob,e⟩:=x;exact⟨ob,k _ _ (.inl rfl) e⟩
 | xd fs=>obtain⟨mA,⟨od,es,ep,e,c⟩,r⟩:=x;exact⟨mA,⟨od,es,ep,k _ _ (.inl rfl) e,c⟩,r⟩
 | rng lo hi=>obtain⟨t,u,v,e⟩:=x;exact⟨t,u,v,k _ _ (.inl rfl) e⟩
 | frz ob u ih=>obtain⟨e,q⟩:=x;exact⟨k _ _ (.inl rfl) e,ih q⟩
 | tbl ps=>
  have e:h.get? a=some { cls:=.none,data:=.fields ps }:=x;show h'.get? a=some { cls:=.none,data:=.fields ps };exact k a _ (.inl rfl) e
 | met f y=>
  have e:h.get? a=some (PySem.W.methodObj (.ref f) (.ref y)):=x;show h'.get? a=some (PySem.W.methodObj (.ref f) (.ref y));exact k a _ (.inl rfl) e
 | ext φ=>obtain⟨p,⟨o,e⟩,st⟩:=x;exact⟨st _ _ p λo q=>k _ _ (.inl rfl) q,⟨o,k _ _ (.inl rfl) e⟩,st⟩
theorem HOk.lt(x:HOk P w H h)(e:H a=some o):a<h.objs.size:=(x a o e).lt
theorem HOk.fresh(x:HOk P w H h)(e:h.objs.size<=a):H a=none:=by
 cases q:H a with
 | none=>rfl
 | some u=>exact absurd (Nat.lt_of_lt_of_le (x.lt q) e) (Nat.lt_irrefl _)
theorem HOk.kept(x:HOk P w H h)(k:∀b u,h.get? b=some u->h'.get? b=some u):HOk P w H h':=λa o e=>
 (x a o e).stay (λb u _ q=>k b u q) (λ_ q=>q) λ_ _ q=>q
theorem HOk.laid(x:HOk P w H h)(k:∀b u,h.get? b=some u->h'.get? b=some u)(hp:h.objs.size<=a)(new:ObjOk P w (upd H a o) h' a o):HOk P w (upd H a o) h':=λb u e=>by
 have hn:=x.fresh hp;by_cases hb:b=a
 ·subst hb;rw[d0] at e;cases e;exact new
 ·rw[f6 hb] at e
  exact(x b u e).stay (λc v _ q=>k c v q) (λc q=>by rw[f6 (d6 q hn)];exact q) λc xs q=>by rw[f6 (d6 q hn)];exact q
end
def Rd(H:Hp)(a:Addr)(u:HO):Prop:=H a=some u \/ ∃o,H a=some (.frz o u)
theorem Rd.ok{P:Program}{w:World}{H:Hp}{h:Heap}{a:Addr}{u:HO}(r:Rd H a u)(x:HOk P w H h):ObjOk P w H h a u:=by
 rcases r with r|⟨o,r⟩
 ·exact x a u r
 ·obtain⟨_,q⟩:=x a _ r
  exact q
def Mut:Option HO->Prop
 | some (.lst _)=>True
 | some (.dK _)=>True
 | some (.dT _)=>True
 | some (.set _ _)=>True
 | some (.ins _ _ _)=>True
 | some (.ext _)=>True
 | _=>False
section
variable{P:Program}{w:World}{H:Hp}{h h':Heap}{x e:Addr}{o':HO}
theorem HOk.write(ok:HOk P w H h)(mu:Mut (H x))(he:e=x\/H e=some (.own x))(k:∀b u,b≠e->h.get? b=some u->h'.get? b=some u)(heo:∃u,h'.get? e=some u)(new:ObjOk P w (upd H x o') h' x o'):HOk P w (upd H x o') h':=λb u q=>by
 have nown:∀c y,H c=some (.own y)->c≠x:=λc y r z=>by subst z;rw[r] at mu;exact mu
 have ntup:∀c xs,H c=some (.tup xs)->c≠x:=λc xs r z=>by subst z;rw[r] at mu;exact mu
 by_cases hb:b=x
 ·subst hb;rw[d0] at q;cases q;exact new
 ·rw[f6 hb] at q
  by_cases hbe:b=e
  ·have q':H b=some (.own x):=by
    rcases he with z|z
    ·exact absurd (hbe.trans z) hb
    ·rw[hbe];exact z
   rw[q] at q';cases q';obtain⟨v,hv⟩:=heo;exact⟨v,by rw[hbe];exact hv⟩
  ·refine (ok b u q).stay (λc v hc r=>k c v ?_ r) (λc r=>by rw[f6 (nown c b r)];exact r) λc xs r=>by rw[f6 (ntup c xs r)];exact r
   rcases hc with rfl|hc
   ·exact hbe
   ·rintro rfl
    rcases he with z|z
    ·exact nown c b hc z
    ·rw[hc] at z;cases z;exact hb rfl
end
structure Un(fs ex:List Addr)(H H':Hp)(h h':Heap):Prop where
 keep:∀b o,h.get? b=some o->H b=none->b ∉ fs->b ∉ ex->h'.get? b=some o
 slot:∀b o,h.get? b=some o->H b=none->b∈fs->b ∉ ex->∃sl,h'.get? b=some { o with slots:=sl }
 free:∀b o,h.get? b=some o->H b=none->b ∉ ex->H' b=none
 there:∀b o,h.get? b=some o->b ∉ ex->∃o',h'.get? b=some o'
 tups:∀b xs,H b=some (.tup xs)->H' b=some (.tup xs)
 frzs:∀b o u,H b=some (.frz o u)->H' b=some (.frz o u)
 tbls:∀b ps,H b=some (.tbl ps)->∃more,H' b=some (.tbl (ps++more))
section
variable{fs fs' ex ex':List Addr}{H H1 H2:Hp}{h h1 h2 h':Heap}{a x e:Addr}{o:HO}
theorem Un.any(u:Un fs ex H H1 h h1){b:Addr}{ob:Obj}(q:h.get? b=some ob)(n:H b=none)(hx:b ∉ ex):∃sl,h1.get? b=some { ob with slots:=sl }:=by
 by_cases hb:b∈fs
 ·exact u.slot b ob q n hb hx
 ·exact⟨ob.slots,u.keep b ob q n hb hx⟩
theorem Un.kept(k:∀b u,h.get? b=some u->h'.get? b=some u):Un fs ex H H h h' :=
 ⟨λb ob q _ _ _=>k b ob q,λb ob q _ _ _=>⟨ob.slots,k b ob q⟩,λ_ _ _ n _=>n,λb ob q _=>⟨ob,k b ob q⟩,λ_ _ q=>q,λ_ _ _ q=>q,λ_ ps q=>⟨#[],by rw[q];simp⟩⟩
theorem Un.refl:Un fs ex H H h h:=Un.kept λ_ _ q=>q
theorem Un.laid(k:∀b u,h.get? b=some u->h'.get? b=some u)(hp:h.objs.size<=a)(hn:H a=none):Un fs ex H (upd H a o) h h' where
 keep:=λb u q _ _ _=>k b u q
 slot:=λb u q _ _ _=>⟨u.slots,k b u q⟩
 free:=λb u q n _=>by rw[f6 (Nat.ne_of_lt (Nat.lt_of_lt_of_le (Heap.lt_size q) hp))];exact n
 there:=λb u q _=>⟨u,k b u q⟩
 tups:=λb xs q=>by rw[f6 (d6 q hn)];exact q
 frzs:=λb u xs q=>by rw[f6 (d6 q hn)];exact q
 tbls:=λb ps q=>⟨#[],by rw[f6 (d6 q hn),q];simp⟩
theorem Un.write(mu:Mut (H x))(he:e=x\/H e=some (.own x))(k:∀b u,b≠e->h.get? b=some u->h'.get? b=some u)(heo:∃u,h'.get? e=some u):Un fs ex H (upd H x o) h h':=by
 have hx:∀b,H b=none->b≠x:=λb n z=>by subst z;rw[n] at mu;exact mu
 have hb:∀b,H b=none->b≠e:=λb n z=>by
  subst z;rcases he with r|r
  ·exact hx b n r
  ·rw[n] at r;cases r
 have hm:∀b u,H b=some u->¬ Mut (some u)->b≠x:=λb u q nm z=>by subst z;rw[q] at mu;exact nm mu
 refine⟨λb u q n _ _=>k b u (hb b n) q,λb u q n _ _=>⟨u.slots,k b u (hb b n) q⟩,λb u q n _=>by rw[f6 (hx b n)];exact n,λb u q _=>?_,
  λb xs q=>by rw[f6 (hm b _ q λz=>z)];exact q,λb u xs q=>by rw[f6 (hm b _ q λz=>z)];exact q,λb ps q=>⟨#[],by rw[f6 (hm b _ q λz=>z),q];simp⟩⟩
 by_cases hbe:b=e
 ·subst hbe;exact heo
 ·exact⟨u,k b u hbe q⟩
end
def trk(h:Heap)(H:Hp):List Addr:=(List.range h.objs.size).filter λa=>(H a).isSome
def b7i(h:Heap)(H:Hp):Heap:=PySem.W.hideAll h (trk h H)
theorem b5g(h:Heap)(H:Hp):(b7i h H).objs.size=h.objs.size:=PySem.W.hideAll_size _ _
theorem b7h{h:Heap}{H:Hp}{b:Addr}{o:Obj}(e:h.get? b=some o)(n:H b=none):(b7i h H).get? b=some o :=
 PySem.W.hideAll_get _ e λhm=>by
  have q:(H b).isSome=true:=(List.mem_filter.mp hm).2;rw[n] at q;simp at q
theorem b9i{h:Heap}{H:Hp}{b:Addr}{o:Obj}(e:(b7i h H).get? b=some o):h.get? b=some o/\H b=none:=by
 have e':h.get? b=some o:=PySem.W.of_hideAll (trk h H) e;refine⟨e',?_⟩;cases q:H b with
 | none=>rfl
 | some x=>
  have hm:b∈trk h H:=List.mem_filter.mpr ⟨List.mem_range.mpr (Heap.lt_size e'),by simp[q]⟩
  have z:(b7i h H).get? b=none:=PySem.W.hideAll_none (trk h H) hm;rw[z] at e;cases e
end L2
namespace L2
open PySem PySem.Spec PyProof.Rows
structure Mod(K:Frag)(mg:Str->Option Value)(base:Heap):Prop where
 kin:K.In base
 glob:base.Ns mainGlobals mg
 blt:∃mb,base.Ns builtinsNs mb/\∀x:Str,x≠"__name__"->mb x=bootBuiltins x
 nolimit:base.NoLimit
structure Cx where
 prog:Program
 w:World
 K:Frag
 mg:Str->Option Value
 base:Heap
 A:Around
 N:List Str
 s₀:Shared
 H₀:Hp
 env:Env
 outer:List Env
 stack:List Env
 ex:List Addr
 fn:Str->Bool
 calm:Bool
 pn:List (Addr×Obj)
 xe:Value->Shared->Prop
def frs(l:List Env):List Addr:=l.filterMap (·.frame)
abbrev Cx.fs(X:Cx):List Addr:=frs X.outer
def Vis(sc:Scope)(x:Str):Prop:=sc.names.lookup x=some .local\/sc.names.lookup x=some .cell\/sc.names.lookup x=some .free
def Loc(sc:Scope)(x:Str):Prop:=sc.names.lookup x=some .local\/sc.names.lookup x=some .cell
def c5i(env:Env)(h:Heap)(m:Str->Option Value)(x:Str)(u:Value):Prop :=
 (env.kindOf x=some .local/\m x=some u)\/((env.kindOf x=some .cell\/env.kindOf x=some .free)/\∃c,env.cells.lookup x=some c/\h.IsCell c (some u))
structure Cx.Ok(X:Cx):Prop where
 mod:Mod X.K X.mg X.base
 kind:X.env.scope.kind=.function
 glob:X.env.globals=mainGlobals
 blt:X.env.builtins=builtinsNs
 above:X.s₀.heap.objs.size<=X.env.locals
 inj:∀x y c,X.env.cells.lookup x=some c->X.env.cells.lookup y=some c->x=y
 has:∀x,(X.env.kindOf x=some .cell\/X.env.kindOf x=some .free)->∃c,X.env.cells.lookup x=some c
 cab:∀x c,X.fn x=true->X.env.cells.lookup x=some c->X.s₀.heap.objs.size<=c
 hd:X.calm=true->X.A.handled=none
 frames:X.A.frames=some X.stack
 stk:X.stack=X.outer\/(X.stack=X.env::X.outer/\X.env.frame=some X.env.locals)
 exf:∀b∈X.ex,b≠X.env.locals/\∀x c,X.env.cells.lookup x=some c->c≠b
 bs:∀b o,X.base.get? b=some o->X.s₀.heap.get? b=some o/\X.H₀ b=none
 bsz:X.base.objs.size<=X.s₀.heap.objs.size
 noex:∀b o,X.base.get? b=some o->b ∉ X.ex
 exfs:∀b∈X.ex,b ∉ X.fs
 funs:X.s₀.heap.FunFrames X.base X.outer
 frf:∀b∈X.fs,X.H₀ b=none
structure Inv(X:Cx)(pins:List (Addr×Obj))(σ:List (Option V))(H:Hp)(s:Shared):Prop where
 ok:X.Ok
 os:s.os=X.s₀.os
 bare:AllBare s.gens
 base:Un X.fs X.ex X.H₀ H X.s₀.heap s.heap
 loc:∃m,s.heap.Ns X.env.locals m/\∀(i:Nat)(x:Str)(v:V),X.N[i]?=some x->σ[i]?=some (some v)->Vis X.env.scope x->∃u,RelV v u/\c5i X.env s.heap m x u
 cell:∀x c,X.env.cells.lookup x=some c->∃v,s.heap.IsCell c v
 free:H X.env.locals=none
 freeC:∀x c,X.env.cells.lookup x=some c->H c=none
 pin:∀p∈X.pn++pins,s.heap.get? p.1=some p.2/\H p.1=none/\p.1≠X.env.locals/\p.1 ∉ X.fs/\∀v,p.2.data≠.cell v
 hok:HOk X.prog X.w H s.heap
 len:σ.length=X.N.length
section
variable{X:Cx}{pins:List (Addr×Obj)}{σ:List (Option V)}{H H':Hp}{s:Shared}{h':Heap}
theorem Cx.Ok.nofr(ok:X.Ok){b:Addr}{o:Obj}(e:X.base.get? b=some o):b ∉ X.fs:=λhb=>by
 have:=(ok.funs.mem hb).1;rw[e] at this;cases this
theorem Inv.bs(I:Inv X pins σ H s):∀b o,X.base.get? b=some o->s.heap.get? b=some o/\H b=none:=λb o e=>
 ⟨I.base.keep b o (I.ok.bs b o e).1 (I.ok.bs b o e).2 (I.ok.nofr e) (I.ok.noex b o e),I.base.free b o (I.ok.bs b o e).1 (I.ok.bs b o e).2 (I.ok.noex b o e)⟩
theorem Inv.bk(I:Inv X pins σ H s):∀b o,X.base.get? b=some o->s.heap.get? b=some o:=λb o e=>(I.bs b o e).1
theorem Inv.mod(I:Inv X pins σ H s):Mod X.K X.mg X.base:=I.ok.mod
theorem Inv.kIn(I:Inv X pins σ H s):X.K.In s.heap:=I.ok.mod.kin.keeps I.bk
theorem Inv.lt(I:Inv X pins σ H s):X.env.locals<s.heap.objs.size:=by obtain⟨_,hn,_⟩:=I.loc;exact hn.lt
theorem Inv.sz(I:Inv X pins σ H s):X.s₀.heap.objs.size<=s.heap.objs.size:=Nat.le_trans I.ok.above (Nat.le_of_lt I.lt)
theorem Inv.nofs(I:Inv X pins σ H s){a:Addr}(h:s.heap.objs.size<=a):a ∉ X.fs:=λhb=>by
 obtain⟨_,o,ho,_⟩:=I.ok.funs.mem hb;exact absurd (Nat.lt_of_lt_of_le (Heap.lt_size ho) (Nat.le_trans I.sz h)) (Nat.lt_irrefl _)
theorem Inv.cne(I:Inv X pins σ H s):∀x c,X.env.cells.lookup x=some c->c≠X.env.locals:=λx c e z=>by
 obtain⟨v,o,ho,hd⟩:=I.cell x c e;obtain⟨m,⟨o',es,ep,ho',hd',_⟩,_⟩:=I.loc;rw[z,ho'] at ho;cases ho;rw[hd'] at hd;cases hd
theorem Inv.funs(I:Inv X pins σ H s):s.heap.FunFrames X.base X.outer:=by
 have all:∀(l:List Env),(∀b∈frs l,b∈X.fs)->X.s₀.heap.FunFrames X.base l->s.heap.FunFrames X.base l:=by
  intro l
  induction l with
  | nil=>intro _ _;trivial
  | cons env r ih=>
   intro hs hl;obtain⟨hk,⟨L,o,hf,hn,ho,hd⟩,hr⟩:=hl;have hL:L∈X.fs:=hs L (by unfold frs;rw[List.filterMap_cons,hf];exact List.mem_cons_self)
   obtain⟨sl,e⟩:=I.base.slot L o ho (I.ok.frf L hL) hL λz=>I.ok.exfs L z hL;exact⟨hk,⟨L,_,hf,hn,e,hd⟩,ih (λb hb=>hs b (by unfold frs;rw[List.filterMap_cons,hf];exact List.mem_cons_of_mem _ hb)) hr⟩
 exact all X.outer (λ_ hb=>hb) I.ok.funs
theorem Inv.stack(I:Inv X pins σ H s):s.heap.FunFrames X.base X.stack:=by
 rcases I.ok.stk with e|⟨e,hf⟩
 ·rw[e];exact I.funs
 ·rw[e]
  obtain⟨m,hn,_⟩:=I.loc;refine .cons (by rw[I.ok.kind];decide) hf hn ?_ I.funs
  exact Heap.get?_none_of_le (Nat.le_trans I.ok.bsz I.ok.above)
theorem Inv.stkSub(I:Inv X pins σ H s):∀b∈frs X.stack,b∈X.env.locals::X.fs:=λb hb=>by
 rcases I.ok.stk with e|⟨e,hf⟩
 ·rw[e] at hb;exact List.mem_cons_of_mem _ hb
 ·rw[e] at hb
  unfold frs at hb;rw[List.filterMap_cons,hf] at hb;exact hb
theorem Inv.stkFree(I:Inv X pins σ H s):∀b∈frs X.stack,H b=none:=λb hb=>by
 rcases List.mem_cons.mp (I.stkSub b hb) with e|hb
 ·rw[e];exact I.free
 ·obtain⟨_,o,ho,_⟩:=I.ok.funs.mem hb
  exact I.base.free b o ho (I.ok.frf b hb) λz=>I.ok.exfs b z hb
theorem Inv.step{g':Array GenState}{t':Nat}{d':Drawn}{ch:List Addr}(I:Inv X pins σ H s)(hch:∀b∈ch,(b∈X.ex\/X.s₀.heap.objs.size<=b)/\b≠X.env.locals/\(∀x c,X.env.cells.lookup x=some c->c≠b)/\∀p∈X.pn++pins,p.1≠b)(keep:∀b o,b≠X.env.locals->b ∉ X.fs->b ∉ ch->s.heap.get? b=some o->H b=none->h'.get? b=some o)(slot:∀b o,b≠X.env.locals->b∈X.fs->b ∉ ch->s.heap.get? b=some o->H b=none->∃sl,h'.get? b=some { o with slots:=sl })(free:∀b o,b ∉ ch->s.heap.get? b=some o->H b=none->H' b=none)(there:∀b o,b ∉ ch->s.heap.get? b=some o->∃o',h'.get? b=some o')(tups:∀b xs,H b=some (.tup xs)->H' b=some (.tup xs))(frzs:∀b o u,H b=some (.frz o u)->H' b=some (.frz o u))(tbls:∀b ps,H b=some (.tbl ps)->∃more,H' b=some (.tbl (ps++more)))(ns:∀m,s.heap.Ns X.env.locals m->h'.Ns X.env.locals m)(hok:HOk X.prog X.w H' h')(hg:AllBare g'):
  Inv X pins σ H' { s with heap:=h',gens:=g',drawn:=d',toks:=t' }:=by
 have neL:∀b o,X.s₀.heap.get? b=some o->b≠X.env.locals:=λb o e=>Nat.ne_of_lt (Nat.lt_of_lt_of_le (Heap.lt_size e) I.ok.above);have neC:∀b o,X.s₀.heap.get? b=some o->b ∉ X.ex->b ∉ ch:=λb o e hx hb=>by
  rcases (hch b hb).1 with z|z
  ·exact hx z
  ·exact absurd (Nat.lt_of_lt_of_le (Heap.lt_size e) z) (Nat.lt_irrefl _)
 have cellK:∀x c,X.env.cells.lookup x=some c->∀v,s.heap.IsCell c v->h'.IsCell c v:=λx c e v zb_=>by
  obtain⟨o,ho,hd⟩:=zb_;have nch:c ∉ ch:=λz=>(hch c z).2.2.1 x c e rfl;by_cases hc:c∈X.fs
  ·obtain⟨sl,q⟩:=slot c o (I.cne x c e) hc nch ho (I.freeC x c e)
   exact⟨_,q,hd⟩
  ·exact⟨o,keep c o (I.cne x c e) hc nch ho (I.freeC x c e),hd⟩
 refine⟨I.ok,I.os,hg,⟨λb o e n hb hx=>?_,λb o e n hb hx=>?_,λb o e n hx=>?_,λb o e hx=>?_,λb xs e=>tups b xs (I.base.tups b xs e),λb o xs e=>frzs b o xs (I.base.frzs b o xs e),λb ps e=>?_⟩,?_,λx c e=>?_,?_,λx c e=>?_,λp hp=>?_,hok,I.len⟩
 ·exact keep b o (neL b o e) hb (neC b o e hx) (I.base.keep b o e n hb hx) (I.base.free b o e n hx)
 ·obtain⟨sl,e1⟩:=I.base.slot b o e n hb hx
  obtain⟨sl',e2⟩:=slot b _ (neL b o e) hb (neC b o e hx) e1 (I.base.free b o e n hx);exact⟨sl',e2⟩
 ·obtain⟨o',e1⟩:=I.base.there b o e hx
  exact free b o' (neC b o e hx) e1 (I.base.free b o e n hx)
 ·obtain⟨o',e1⟩:=I.base.there b o e hx
  exact there b o' (neC b o e hx) e1
 ·obtain⟨m1,e1⟩:=I.base.tbls b ps e
  obtain⟨m2,e2⟩:=tbls b _ e1;exact⟨m1++m2,by rw[e2,Array.append_assoc]⟩
 ·obtain⟨m,hn,hl⟩:=I.loc
  refine⟨m,ns m hn,λi x v e1 e2 e3=>?_⟩;obtain⟨u,r,l⟩:=hl i x v e1 e2 e3;refine⟨u,r,?_⟩;rcases l with l|⟨k,c,e,z⟩
  ·exact .inl l
  ·exact .inr ⟨k,c,e,cellK x c e _ z⟩
 ·obtain⟨v,z⟩:=I.cell x c e
  exact⟨v,cellK x c e v z⟩
 ·obtain⟨m,⟨o,_,_,ho,_⟩,_⟩:=I.loc
  exact free _ o (λz=>(hch _ z).2.1 rfl) ho I.free
 ·obtain⟨v,o,ho,hd⟩:=I.cell x c e
  exact free c o (λz=>(hch c z).2.2.1 x c e rfl) ho (I.freeC x c e)
 ·obtain⟨e,n,ne,nf,d⟩:=I.pin p hp
  have nch:p.1 ∉ ch:=λz=>(hch p.1 z).2.2.2 p hp rfl;exact⟨keep p.1 p.2 ne nf nch e n,free p.1 p.2 nch e n,ne,nf,d⟩
theorem Inv.un{t':Nat}(I:Inv X pins σ H s)(u:Un X.fs [] H H' s.heap h')(hok:HOk X.prog X.w H' h'):Inv X pins σ H' { s with heap:=h',toks:=t' }:=by
 obtain⟨m,⟨o,es,ep,ho,r⟩,_⟩:=id I.loc;obtain⟨sl,hL⟩:=u.any ho I.free (by simp)
 exact I.step (g':=s.gens) (d':=s.drawn) (ch:=[]) (λ_ z=>nomatch z) (λb o _ hb _ e n=>u.keep b o e n hb (by simp)) (λb o _ hb _ e n=>u.slot b o e n hb (by simp)) (λb o _ e n=>u.free b o e n (by simp)) (λb o _ e=>u.there b o e (by simp)) u.tups u.frzs u.tbls (λm' hm=>by
  obtain⟨o',es',ep',ho',r'⟩:=hm;rw[ho] at ho';cases ho';exact⟨_,es',ep',hL,r'⟩) hok I.bare
theorem Inv.call{g':Array GenState}{t':Nat}{d':Drawn}{ch:List Addr}(I:Inv X pins σ H s)(u:Un (frs X.stack) ch H H' s.heap h')(hok:HOk X.prog X.w H' h')(hg:AllBare g')(hch:∀b∈ch,(b∈X.ex\/X.s₀.heap.objs.size<=b)/\b≠X.env.locals/\(∀x c,X.env.cells.lookup x=some c->c≠b)/\∀p∈X.pn++pins,p.1≠b):
  Inv X pins σ H' { s with heap:=h',gens:=g',drawn:=d',toks:=t' }:=by
 obtain⟨m,⟨o,es,ep,ho,r⟩,_⟩:=id I.loc;obtain⟨sl,hL⟩:=u.any ho I.free λz=>(hch _ z).2.1 rfl;exact I.step (ch:=ch) hch (λb o hL hb hc e n=>u.keep b o e n (λz=>(List.mem_cons.mp (I.stkSub b z)).elim hL hb) hc) (λb o _ _ hc e n=>u.any e n hc) (λb o hc e n=>u.free b o e n hc) (λb o hc e=>u.there b o e hc) u.tups u.frzs u.tbls (λm' hm=>by
  obtain⟨o',es',ep',ho',r'⟩:=hm;rw[ho] at ho';cases ho';exact⟨_,es',ep',hL,r'⟩) hok hg
theorem Inv.turned{t':Nat}{it:Addr}(I:Inv X pins σ H s)(k:∀b o,b≠it->s.heap.get? b=some o->h'.get? b=some o)(hn:H it=none)(hL:it≠X.env.locals)(h1:it∈X.ex\/X.s₀.heap.objs.size<=it)(h2:∀x c,X.env.cells.lookup x=some c->c≠it)(h3:∀p∈X.pn++pins,p.1≠it):Inv X pins σ H { s with heap:=h',toks:=t' }:=by
 have nit:∀b u,H b=some u->b≠it:=λb u e z=>by rw[z,hn] at e;cases e
 refine I.step (g':=s.gens) (d':=s.drawn) (ch:=[it]) (λb hb=>?_) (λb o _ _ hc e _=>k b o (λz=>hc (by simp[z])) e) (λb o _ _ hc e _=>⟨o.slots,k b o (λz=>hc (by simp[z])) e⟩) (λ_ _ _ _ n=>n)
  (λb o hc e=>⟨o,k b o (λz=>hc (by simp[z])) e⟩) (λ_ _ e=>e) (λ_ _ _ e=>e) (λb ps e=>⟨#[],by rw[e];simp⟩) (λm hm=>?_) (λb u e=>?_) I.bare
 ·have e:b=it:=by simpa using hb
  subst e;exact⟨h1,hL,h2,h3⟩
 ·obtain⟨o,es,ep,ho,r⟩:=hm
  exact⟨o,es,ep,k _ o (Ne.symm hL) ho,r⟩
 ·refine (I.hok b u e).stay (λc v hc q=>k c v ?_ q) (λ_ q=>q) λ_ _ q=>q
  rcases hc with z|z
  ·rw[z];exact nit b u e
  ·exact nit c _ z
theorem Inv.tok(I:Inv X pins σ H s)(t:Nat):Inv X pins σ H { s with toks:=t }:=I.un (h':=s.heap) (t':=t) Un.refl I.hok
theorem Inv.kept{t':Nat}(I:Inv X pins σ H s)(k:∀b u,s.heap.get? b=some u->h'.get? b=some u):Inv X pins σ H { s with heap:=h',toks:=t' }:=I.un (Un.kept k) (I.hok.kept k)
theorem Inv.laid{a:Addr}{o:HO}{t':Nat}(I:Inv X pins σ H s)(k:∀b u,s.heap.get? b=some u->h'.get? b=some u)(hp:s.heap.objs.size<=a)(new:ObjOk X.prog X.w (upd H a o) h' a o):
  Inv X pins σ (upd H a o) { s with heap:=h',toks:=t' }:=I.un (Un.laid k hp (I.hok.fresh hp)) (I.hok.laid k hp new)
theorem Inv.write{x e:Addr}{o:HO}{t':Nat}(I:Inv X pins σ H s)(mu:Mut (H x))(he:e=x\/H e=some (.own x))(k:∀b u,b≠e->s.heap.get? b=some u->h'.get? b=some u)(heo:∃u,h'.get? e=some u)(new:ObjOk X.prog X.w (upd H x o) h' x o):Inv X pins σ (upd H x o) { s with heap:=h',toks:=t' }:=I.un (Un.write mu he k heo) (I.hok.write mu he k heo new)
theorem Inv.weak{σ':List (Option V)}(I:Inv X pins σ H s)(hl:σ'.length=σ.length)(w:∀(i:Nat) v,σ'[i]?=some (some v)->σ[i]?=some (some v)):Inv X pins σ' H s :=
 ⟨I.ok,I.os,I.bare,I.base,let ⟨m,hn,hl'⟩:=I.loc;⟨m,hn,λi x v e1 e2 e3=>hl' i x v e1 (w i v e2) e3⟩,I.cell,I.free,I.freeC,I.pin,I.hok,hl.trans I.len⟩
theorem Inv.pins_of{pins':List (Addr×Obj)}(I:Inv X pins σ H s)(h:∀p∈pins',s.heap.get? p.1=some p.2/\H p.1=none/\p.1≠X.env.locals/\p.1 ∉ X.fs/\∀v,p.2.data≠.cell v):Inv X pins' σ H s :=
 ⟨I.ok,I.os,I.bare,I.base,I.loc,I.cell,I.free,I.freeC,λp hp=>(List.mem_append.mp hp).elim (λz=>I.pin p (List.mem_append_left _ z)) (h p),I.hok,I.len⟩
theorem a7m{N:List Str}(hN:N.Nodup){i j:Nat}{x:Str}(a:N[i]?=some x)(b:N[j]?=some x):i=j:=by
 obtain⟨h1,e1⟩:=List.getElem?_eq_some_iff.mp a;obtain⟨h2,e2⟩:=List.getElem?_eq_some_iff.mp b;exact(List.getElem_inj hN).mp (e1.trans e2.symm)
theorem a8a{M:Model}{A:Around}{E:Value->Shared->Prop}{i:Nat}{x:Str}{v:V}{u:Value}{Q:Unit->Shared->Prop}(I:Inv X pins σ H s)(hN:X.N.Nodup)(hi:X.N[i]?=some x)(hx:Loc X.env.scope x)(r:RelV v u)(h:∀s',Inv X pins (σ.set i (some v)) H s'->(∃a,Heap.SameBut a s.heap s'.heap/\(a=X.env.locals\/X.env.cells.lookup x=some a))->Q () s')(hf:X.fn x=true\/X.env.scope.names.lookup x=some .local:=by first|exact .inl rfl|exact .inr rfl|assumption):wpAny M A (storeName X.env x u) Q E s:=by
 obtain⟨m,hn,hl⟩:=id I.loc;have hcls:(X.env.scope.kind == .class || (X.env.scope.kind == .module && X.env.locals != X.env.globals))=false:=by rw[I.ok.kind];rfl
 have hiσ:i<σ.length:=by rw[I.len];exact(List.getElem?_eq_some_iff.mp hi).1
 have cne:=I.cne;have tracked:∀{a:Addr}{h':Heap},(∃o,s.heap.get? a=some o/\H a=none)->Heap.SameBut a s.heap h'->HOk X.prog X.w H h':=λ{a h'} ha hs b ob e=>by
  obtain⟨_,_,hfree⟩:=ha;refine (I.hok b ob e).stay (λc w' hc q=>(hs.2 c ?_).trans q) (λ_ q=>q) λ_ _ q=>q;rintro rfl;rcases hc with rfl|hc
  ·rw[hfree] at e;cases e
  ·rw[hfree] at hc;cases hc
 rcases hx with hk|hk
 ·refine wpAny_storeName_local hk hn (λh' hn' hs=>?_) hcls
  obtain⟨oL,_,_,hoL,_⟩:=id hn;refine h _ ⟨I.ok,I.os,I.bare,⟨λb o e n hb hx=>?_,λb o e n hb hx=>?_,I.base.free,λb o e hx=>?_,I.base.tups,I.base.frzs,I.base.tbls⟩,⟨_,hn',λj y v' e1 e2 e3=>?_⟩,λy c e=>?_,I.free,I.freeC,λp hp=>?_,tracked ⟨oL,hoL,I.free⟩ hs,by simpa using I.len⟩ ⟨_,hs,.inl rfl⟩
  ·exact(hs.2 b (Nat.ne_of_lt (Nat.lt_of_lt_of_le (Heap.lt_size e) I.ok.above))).trans (I.base.keep b o e n hb hx)
  ·obtain⟨sl,e1⟩:=I.base.slot b o e n hb hx
   exact⟨sl,(hs.2 b (Nat.ne_of_lt (Nat.lt_of_lt_of_le (Heap.lt_size e) I.ok.above))).trans e1⟩
  ·obtain⟨o',e1⟩:=I.base.there b o e hx
   exact⟨o',(hs.2 b (Nat.ne_of_lt (Nat.lt_of_lt_of_le (Heap.lt_size e) I.ok.above))).trans e1⟩
  ·by_cases hj:j=i
   ·subst hj
    rw[hi] at e1;cases e1;rw[List.getElem?_set_self hiσ] at e2;cases e2;exact⟨u,r,.inl ⟨hk,by simp⟩⟩
   ·rw[List.getElem?_set_ne (Ne.symm hj)] at e2
    obtain⟨u',r',q⟩:=hl j y v' e1 e2 e3;refine⟨u',r',?_⟩;rcases q with ⟨k,e⟩|⟨k,c,e,z⟩
    ·refine .inl ⟨k,?_⟩
     have:y≠x:=λe=>hj (a7m hN e1 (e ▸ hi));simp[this,e]
    ·exact .inr ⟨k,c,e,z.sameBut hs (cne y c e)⟩
  ·obtain⟨w',z⟩:=I.cell y c e
   exact⟨w',z.sameBut hs (cne y c e)⟩
  ·obtain⟨e,n,ne,nf,d⟩:=I.pin p hp
   exact⟨(hs.2 p.1 ne).trans e,n,ne,nf,d⟩
 ·have hfn:X.fn x=true:=by
   rcases hf with z|z
   ·exact z
   ·rw[z] at hk;cases hk
  obtain⟨c,hc⟩:=I.ok.has x (.inl hk);obtain⟨w',z⟩:=I.cell x c hc;refine wpAny_storeName_cell I.ok.kind hk hc z (λh' hc' hs=>?_);obtain⟨oc,hoc,hocd⟩:=id z;refine h { s with heap:=h' } ⟨I.ok,I.os,I.bare,⟨λb o e n hb hx=>?_,λb o e n hb hx=>?_,I.base.free,λb o e hx=>?_,I.base.tups,I.base.frzs,I.base.tbls⟩,⟨m,hn.sameBut hs (Ne.symm (cne x c hc)),λj y v' e1 e2 e3=>?_⟩,λy c' e=>?_,I.free,I.freeC,λp hp=>?_,tracked ⟨oc,hoc,I.freeC x c hc⟩ hs,by simpa using I.len⟩ ⟨c,hs,.inr hc⟩
  ·exact(hs.2 b (Nat.ne_of_lt (Nat.lt_of_lt_of_le (Heap.lt_size e) (I.ok.cab x c hfn hc)))).trans (I.base.keep b o e n hb hx)
  ·obtain⟨sl,e1⟩:=I.base.slot b o e n hb hx
   exact⟨sl,(hs.2 b (Nat.ne_of_lt (Nat.lt_of_lt_of_le (Heap.lt_size e) (I.ok.cab x c hfn hc)))).trans e1⟩
  ·obtain⟨o',e1⟩:=I.base.there b o e hx
   exact⟨o',(hs.2 b (Nat.ne_of_lt (Nat.lt_of_lt_of_le (Heap.lt_size e) (I.ok.cab x c hfn hc)))).trans e1⟩
  ·by_cases hj:j=i
   ·subst hj
    rw[hi] at e1;cases e1;rw[List.getElem?_set_self hiσ] at e2;cases e2;exact⟨u,r,.inr ⟨.inl hk,c,hc,hc'⟩⟩
   ·rw[List.getElem?_set_ne (Ne.symm hj)] at e2
    obtain⟨u',r',q⟩:=hl j y v' e1 e2 e3;refine⟨u',r',?_⟩;rcases q with q|⟨k,c',e,z'⟩
    ·exact .inl q
    ·refine .inr ⟨k,c',e,z'.sameBut hs ?_⟩
     rintro rfl;exact hj (a7m hN e1 (I.ok.inj _ _ _ e hc ▸ hi))
  ·by_cases hcc:c'=c
   ·subst hcc;exact⟨_,hc'⟩
   ·obtain⟨w2,z2⟩:=I.cell y c' e
    exact⟨w2,z2.sameBut hs hcc⟩
  ·obtain⟨e,n,ne,nf,d⟩:=I.pin p hp
   refine⟨(hs.2 p.1 ?_).trans e,n,ne,nf,d⟩;intro q;rw[q,hoc] at e;have q':oc=p.2:=Option.some.inj e;exact d w' (by rw[<- q'];exact hocd)
theorem a6t{M:Model}{A:Around}{E:Value->Shared->Prop}{i:Nat}{x:Str}{v:V}{u:Value}{Q:Unit->Shared->Prop}(I:Inv X pins σ H s)(hN:X.N.Nodup)(hi:X.N[i]?=some x)(hx:Loc X.env.scope x)(r:RelV v u)(h:∀s',Inv X pins (σ.set i (some v)) H s'->Q () s')(hf:X.fn x=true\/X.env.scope.names.lookup x=some .local:=by first|exact .inl rfl|exact .inr rfl|assumption):wpAny M A (storeName X.env x u) Q E s :=
 a8a I hN hi hx r (λs' I' _=>h s' I') hf
theorem Inv.call'{s':Shared}{ch:List Addr}(I:Inv X pins σ H s)(ho:s'.os=s.os)(u:Un (frs X.stack) ch H H' s.heap s'.heap)(hok:HOk X.prog X.w H' s'.heap)(hg:AllBare s'.gens)(hch:∀b∈ch,(b∈X.ex\/X.s₀.heap.objs.size<=b)/\b≠X.env.locals/\(∀x c,X.env.cells.lookup x=some c->c≠b)/\∀p∈X.pn++pins,p.1≠b):Inv X pins σ H' s':=by
 obtain⟨h',g',d',t',o'⟩:=s';have e:o'=s.os:=ho;subst e;exact I.call (g':=g') (t':=t') (d':=d') u hok hg hch
end
abbrev XK:=Value->Option Addr->Hp->Prop
abbrev St:=List (Option V)
abbrev VK:=V->Hp->Prop
abbrev TE:=St->Hp->VK->Prop
abbrev TT:=St->Hp->(Bool->Hp->Prop)->Prop
abbrev TA:=St->Hp->(List V->Hp->Prop)->Prop
structure Ends where
 nx:St->Hp->Prop
 rt:VK
 bk:St->Hp->Prop:=λ_ _=>False
 ct:St->Hp->Prop:=λ_ _=>False
abbrev TS:=Ends->St->Hp->Prop
def EP(X:Cx)(pins:List (Addr×Obj))(σ:St)(Q:VK)(u:Value)(s':Shared):Prop:=∃v H',Inv X pins σ H' s'/\RelV v u/\Q v H'
def TP(X:Cx)(pins:List (Addr×Obj))(σ:St)(Q:Bool->Hp->Prop)(b:Bool)(s':Shared):Prop:=∃H',Inv X pins σ H' s'/\Q b H'
def AP(X:Cx)(pins:List (Addr×Obj))(σ:St)(Q:List V->Hp->Prop)(us:List Value)(s':Shared):Prop:=∃vs H',Inv X pins σ H' s'/\Vals vs us/\Q vs H'
def SP(X:Cx)(pins:List (Addr×Obj))(D:Ends)(f:Flow)(s':Shared):Prop :=
 match f with
 | .next=>∃σ' H',Inv X pins σ' H' s'/\D.nx σ' H'
 | .brk=>∃σ' H',Inv X pins σ' H' s'/\D.bk σ' H'
 | .cont=>∃σ' H',Inv X pins σ' H' s'/\D.ct σ' H'
 | .ret u=>∃v σ' H',Inv X pins σ' H' s'/\RelV v u/\D.rt v H'
def PE(X:Cx)(e:Expr)(t:TE):Prop :=
 ∀(pins:List (Addr×Obj))(s:Shared)(σ:St)(H:Hp)(Q:VK),Inv X pins σ H s->t σ H Q->wpAny (model X.prog X.w) X.A (eval e X.env) (EP X pins σ Q) X.xe s
def PT(X:Cx)(e:Expr)(t:TT):Prop :=
 ∀(pins:List (Addr×Obj))(s:Shared)(σ:St)(H:Hp)(Q:Bool->Hp->Prop),Inv X pins σ H s->t σ H Q->wpAny (model X.prog X.w) X.A (isTrue e X.env (eval e X.env)) (TP X pins σ Q) X.xe s
def PW(X:Cx)(e:Expr)(t:TT):Prop :=
 ∀(whole:Sem Value)(pins:List (Addr×Obj))(s:Shared)(σ:St)(H:Hp)(Q:Bool->Hp->Prop),Inv X pins σ H s->t σ H Q->wpAny (model X.prog X.w) X.A (isTrue e X.env whole) (TP X pins σ Q) X.xe s
theorem PW.pt{X:Cx}{e:Expr}{t:TT}(h:PW X e t):PT X e t:=h _
def PA(X:Cx)(es:List Expr)(t:TA):Prop :=
 ∀(pos:Pos)(pins:List (Addr×Obj))(s:Shared)(σ:St)(H:Hp)(Q:List V->Hp->Prop),Inv X pins σ H s->t σ H Q->wpAny (model X.prog X.w) X.A (spliced (backTo pos (starEach es X.env))) (AP X pins σ Q) X.xe s
def PS(X:Cx)(st:Stmt)(t:TS):Prop :=
 ∀(pins:List (Addr×Obj))(s:Shared)(σ:St)(H:Hp)(D:Ends),Inv X pins σ H s->t D σ H->wpAny (model X.prog X.w) X.A (exec st X.env) (SP X pins D) X.xe s
def PSs(X:Cx)(st:List Stmt)(t:TS):Prop :=
 ∀(pins:List (Addr×Obj))(s:Shared)(σ:St)(H:Hp)(D:Ends),Inv X pins σ H s->t D σ H->wpAny (model X.prog X.w) X.A (execs st X.env) (SP X pins D) X.xe s
theorem thn{α:Type}{t:Sem α}{Q Q':α->Shared->Prop}{M:Model}{A:Around}{E:Value->Shared->Prop}{s:Shared}(h:wpAny M A t Q E s)(hQ:∀a s,Q a s->Q' a s):wpAny M A t Q' E s:=wpAny_mono h hQ λ_ _ x=>x
end L2
namespace L2
open PySem PySem.Spec PyProof.Rows
section
variable{X:Cx}
def c3b(i:Nat):TE:=λσ H Q=>∃v,σ[i]?=some (some v)/\Q v H
def tC(v:V):TE:=λ_ H Q=>Q v H
theorem c1a{i:Nat}{x:Str}{pos:Pos}(hN:X.N[i]?=some x)(hv:Vis X.env.scope x)(hd:(x == ("__debug__":Str))=false:=by decide)(hcd:(x == ("__classdict__":Str))=false:=by decide):PE X (.Name x pos) (c3b i):=by
 intro pins s σ H Q I h;obtain⟨v,e,h⟩:=h;obtain⟨m,hn,hl⟩:=I.loc;obtain⟨u,r,l⟩:=hl i x v hN e hv;have fin:EP X pins σ Q u s:=⟨v,H,I,r,h⟩;rcases l with ⟨hk,hm⟩|⟨hk,c,hc,hcell⟩
 ·exact wpAny_Name (wpAny_loadName_local I.ok.kind hk hn hm fin) hd
 ·rcases hk with hk|hk
  ·exact wpAny_Name (wpAny_loadName_cell I.ok.kind hk hc hcell fin) hd
  ·exact wpAny_Name (wpAny_loadName_free I.ok.kind hk hc hcell fin hcd) hd
theorem d5{i j pos}:PE X (.Constant (.int i) j pos) (tC (.int i)):=λ_ _ _ H _ I h=>wpAny_Constant_int ⟨.int i,H,I.tok _,⟨_,rfl⟩,h⟩
theorem a7d{b j pos}:PE X (.Constant (.bool b) j pos) (tC (.bl b)):=λ_ _ _ H _ I h=>Constant_bool ⟨.bl b,H,I,rfl,h⟩
theorem a8k{j pos}:PE X (.Constant .none j pos) (tC .non):=λ_ _ _ H _ I h=>Constant_none ⟨.non,H,I,rfl,h⟩
theorem g4{x j pos}:PE X (.Constant (.str x) j pos) (tC (.str x)):=λ_ _ _ H _ I h=>Calls.Constant_str ⟨.str x,H,I.tok _,⟨_,rfl⟩,h⟩
def Gl(X:Cx)(x:Str):Prop:=X.env.kindOf x=some .globalImplicit
theorem a5n{E:Value->Shared->Prop}{pins:List (Addr×Obj)}{s:Shared}{σ:St}{H:Hp}{x:Str}{u:Value}{pos:Pos}{Q:Value->Shared->Prop}(I:Inv X pins σ H s)(hg:Gl X x)(hm:X.mg x=some u)(h:Q u s)(hd:(x == ("__debug__":Str))=false:=by decide):wpAny (model X.prog X.w) X.A (eval (.Name x pos) X.env) Q E s :=
 Calls.Name_function_global I.ok.kind hg (Calls.loadGlobal_global (by rw[I.ok.glob];exact I.mod.glob.keeps I.bk) hm h) hd
theorem a6k{E:Value->Shared->Prop}{pins:List (Addr×Obj)}{s:Shared}{σ:St}{H:Hp}{x:Str}{u:Value}{pos:Pos}{Q:Value->Shared->Prop}(I:Inv X pins σ H s)(hg:Gl X x)(hm:X.mg x=none)(hv:bootBuiltins x=some u)(h:Q u s)(hn:x≠"__name__":=by decide)(hd:(x == ("__debug__":Str))=false:=by decide):wpAny (model X.prog X.w) X.A (eval (.Name x pos) X.env) Q E s:=by
 obtain⟨mb,h1,h2⟩:=I.mod.blt;exact Calls.Name_function_global I.ok.kind hg (Calls.loadGlobal_builtin (by rw[I.ok.glob];exact I.mod.glob.keeps I.bk) hm (by rw[I.ok.blt];exact h1.keeps I.bk) ((h2 x hn).trans hv) h) hd
theorem a5g{x:Str}{v:V}{u:Value}{pos:Pos}(hg:Gl X x)(hm:X.mg x=some u)(r:RelV v u)(hd:(x == ("__debug__":Str))=false:=by decide):PE X (.Name x pos) (tC v) :=
 λ_ _ _ H _ I h=>a5n I hg hm ⟨v,H,I,r,h⟩ hd
theorem b9g{x:Str}{v:V}{u:Value}{pos:Pos}(hg:Gl X x)(hm:X.mg x=none)(hv:bootBuiltins x=some u)(r:RelV v u)(hn:x≠"__name__":=by decide)(hd:(x == ("__debug__":Str))=false:=by decide):PE X (.Name x pos) (tC v) :=
 λ_ _ _ H _ I h=>a6k I hg hm hv ⟨v,H,I,r,h⟩ hn hd
variable{a b:Expr}{ta tb:TE}{pos:Pos}
def tB(t:TE):TT:=λσ H Q=>t σ H λx H1=>∃c,x=.bl c/\Q c H1
theorem a1r{e:Expr}{t:TE}(h:PE X e t)(he:∀whole,isTrue e X.env whole=(do let v <- whole;standAt e.pos;holding [v] (truthy v)):=by intro _;rfl):PT X e (tB t):=by
 intro pins s σ H Q I hw;refine isTrue_plain (thn (h pins s σ H _ I hw) λv s1 z0_=>?_) (he _);obtain⟨x,H1,I1,r1,q1⟩:=z0_;obtain⟨d,rfl,q⟩:=q1;cases r1;exact wpAny_truthy_bool ⟨H1,I1,q⟩
variable{tA tB':TT}{rest:List Expr}
def c4v(t u:TT):TT:=λσ H Q=>t σ H λc H1=>if c=true then u σ H1 Q else Q false H1
def tOr(t u:TT):TT:=λσ H Q=>t σ H λc H1=>if c=true then Q true H1 else u σ H1 Q
def c4q(t:TT):TT:=λσ H Q=>t σ H λc H1=>Q (!c) H1
theorem b4e(ha:PT X a tA):PW X (.BoolOp .And [a] pos) tA:=by
 intro wh pins s σ H Q I h;refine isTrue_and (thn (ha pins s σ H Q I h) λc s1 e=>?_);cases c with
 | true=>exact isTrue_and_nil e
 | false=>exact e
theorem a0k(ha:PT X a tA):PW X (.BoolOp .Or [a] pos) tA:=by
 intro wh pins s σ H Q I h;refine isTrue_or (thn (ha pins s σ H Q I h) λc s1 e=>?_);cases c with
 | false=>exact isTrue_or_nil e
 | true=>exact e
theorem b8b(ha:PT X a tA)(hb:PW X (.BoolOp .And (b::rest) pos) tB'):PW X (.BoolOp .And (a::b::rest) pos) (c4v tA tB'):=by
 intro wh pins s σ H Q I h;refine isTrue_and (thn (ha pins s σ H _ I h) λc s1 z0_=>?_);obtain⟨H1,I1,q1⟩:=z0_;cases c with
 | true=>exact hb wh pins s1 σ H1 Q I1 q1
 | false=>exact⟨H1,I1,q1⟩
theorem a1d(ha:PT X a tA)(hb:PW X (.BoolOp .Or (b::rest) pos) tB'):PW X (.BoolOp .Or (a::b::rest) pos) (tOr tA tB'):=by
 intro wh pins s σ H Q I h;refine isTrue_or (thn (ha pins s σ H _ I h) λc s1 z0_=>?_);obtain⟨H1,I1,q1⟩:=z0_;cases c with
 | true=>exact⟨H1,I1,q1⟩
 | false=>exact hb wh pins s1 σ H1 Q I1 q1
theorem a3b(ha:PT X a tA):PT X (.UnaryOp .Not a pos) (c4q tA):=by
 intro pins s σ H Q I h;exact isTrue_not (ha pins s σ H (λc H1=>Q (!c) H1) I h)
def c0v(ta tb:TE):TE:=λσ H Q=>ta σ H λx H1=>∃c,x=.bl c/\if c=true then tb σ H1 Q else Q (.bl false) H1
theorem c1b{op}{t:TE}(h:PE X a t):PE X (.BoolOp op [a] pos) t:=λpins s σ H Q I hw=>BoolOp_one (h pins s σ H Q I hw)
theorem c1e(ha:PE X a ta)(hb:PE X (.BoolOp .And (b::rest) pos) tb):PE X (.BoolOp .And (a::b::rest) pos) (c0v ta tb):=by
 intro pins s σ H Q I h;refine BoolOp_and (thn (ha pins s σ H _ I h) λv s1 z0_=>?_);obtain⟨x,H1,I1,r1,q1⟩:=z0_;obtain⟨c,rfl,q1⟩:=q1;cases r1;refine wpAny_truthy_bool ?_;cases c with
 | true=>exact hb pins s1 σ H1 Q I1 q1
 | false=>exact⟨.bl false,H1,I1,rfl,q1⟩
def tIf(t:TT)(ta tb:TE):TE:=λσ H Q=>t σ H λc H1=>if c=true then ta σ H1 Q else tb σ H1 Q
theorem b6u{c:Expr}(hc:PT X c tA)(ha:PE X a ta)(hb:PE X b tb):PE X (.IfExp c a b pos) (tIf tA ta tb):=by
 intro pins s σ H Q I h;refine wpAny_IfExp (thn (hc pins s σ H _ I h) λd s1 z0_=>?_);obtain⟨H1,I1,q1⟩:=z0_;cases d with
 | true=>exact ha pins s1 σ H1 Q I1 q1
 | false=>exact hb pins s1 σ H1 Q I1 q1
end
end L2
namespace L2
open PySem PySem.Spec PyProof.Rows
def SqL(K:Frag)(H:Hp)(a:Addr)(xs:List V):Prop :=
 Rd H a (.lst xs) \/
  ∃(o:Obj)(its:Array Value)(n:Nat),K.lookup a=some o/\o.cls=.type "list"/\o.dict=none/\o.data=.seq its n/\its.size<=sizeLine/\Vals xs its.toList
def SqT(K:Frag)(H:Hp)(a:Addr)(xs:List V):Prop :=
 Rd H a (.tup xs) \/
  ∃(o:Obj)(its:Array Value)(n:Nat),K.lookup a=some o/\o.cls=.type "tuple"/\o.data=.seq its n/\its.size<=sizeLine/\Vals xs its.toList
def c6b:Value->Option V
 | .none=>some .non
 | .bool b=>some (.bl b)
 | .int i _=>some (.int i)
 | .str x _=>some (.str x)
 | .bytes b _=>some (.byt b)
 | .float b _=>some (.flt b)
 | .ref a=>some (.ref a)
 | .type n=>some (.ty n)
 | _=>none
theorem RelV.abs{x:V}{u:Value}(r:RelV x u):c6b u=some x:=by
 cases x with
 | non=>cases r;rfl
 | bl _=>cases r;rfl
 | int _=>obtain⟨t,rfl⟩:=r;rfl
 | str _=>obtain⟨t,rfl⟩:=r;rfl
 | byt _=>obtain⟨t,rfl⟩:=r;rfl
 | flt _=>obtain⟨t,rfl⟩:=r;rfl
 | ref _=>cases r;rfl
 | ty _=>cases r;rfl
theorem RelV.inj{x y:V}{u:Value}(r:RelV x u)(q:RelV y u):x=y:=Option.some.inj (r.abs.symm.trans q.abs)
theorem Vals.inj{xs ys:List V}{us:List Value}(h:Vals xs us)(h':Vals ys us):xs=ys:=by
 induction h generalizing ys with
 | nil=>cases h';rfl
 | cons r t ih=>cases h' with|cons r' t'=>rw[r.inj r',ih t']
section
variable{X:Cx}{pins:List (Addr×Obj)}{σ:St}{H:Hp}{s:Shared}{a:Addr}{xs ys:List V}
theorem SqL.of{K:Frag}(h:H a=some (.lst xs)):SqL K H a xs:=.inl (.inl h)
theorem SqT.of{K:Frag}(h:H a=some (.tup xs)):SqT K H a xs:=.inl (.inl h)
theorem Inv.list(I:Inv X pins σ H s)(h:SqL X.K H a xs):∃its:List Value,Vals xs its/\PlainL s.heap a its.toArray/\xs.length<=sizeLine:=by
 rcases h with h|⟨o,its,n,hk,hc,hd,hs,hz,r⟩
 ·obtain⟨z,its,n,r,e⟩:=h.ok I.hok
  exact⟨its,r,⟨_,n,e,rfl,rfl,rfl⟩,z⟩
 ·refine⟨its.toList,r,⟨o,n,I.kIn a o hk,hc,hd,by simpa using hs⟩,?_⟩
  have e:=r.length;simp only[Array.length_toList] at e;lia
theorem Inv.tuple(I:Inv X pins σ H s)(h:SqT X.K H a xs):∃its:List Value,Vals xs its/\IsTup s.heap a its.toArray/\xs.length<=sizeLine:=by
 rcases h with h|⟨o,its,n,hk,hc,hs,hz,r⟩
 ·obtain⟨z,its,r,p⟩:=h.ok I.hok
  exact⟨its,r,p,z⟩
 ·refine⟨its.toList,r,⟨o,I.kIn a o hk,hc,n,by simpa using hs⟩,?_⟩
  have e:=r.length;simp only[Array.length_toList] at e;lia
theorem Inv.list_inj(I:Inv X pins σ H s)(h:SqL X.K H a xs)(h':SqL X.K H a ys):xs=ys:=by
 obtain⟨its,r,⟨o,n,e,_,_,d⟩,_⟩:=I.list h;obtain⟨its',r',⟨o',n',e',_,_,d'⟩,_⟩:=I.list h';rw[e] at e';cases e';rw[d] at d';injection d' with d1 _
 have:its=its':=by simpa using congrArg Array.toList d1
 subst this;exact r.inj r'
theorem Inv.tuple_inj(I:Inv X pins σ H s)(h:SqT X.K H a xs)(h':SqT X.K H a ys):xs=ys:=by
 obtain⟨its,r,⟨o,e,_,n,d⟩,_⟩:=I.tuple h;obtain⟨its',r',⟨o',e',_,n',d'⟩,_⟩:=I.tuple h';rw[e] at e';cases e';rw[d] at d';injection d' with d1 _
 have:its=its':=by simpa using congrArg Array.toList d1
 subst this;exact r.inj r'
end
section
variable{X:Cx}{pins:List (Addr×Obj)}{σ:St}{H:Hp}{s:Shared}{E:Value->Shared->Prop}
end
section
variable{X:Cx}{st:Stmt}{rest:List Stmt}{t u:TS}{e:Expr}{te:TE}{pos:Pos}
def c0r:TS:=λD σ H=>D.nx σ H
def c2t(t u:TS):TS:=λD σ H=>t { D with nx:=u D } σ H
theorem i5:PSs X [] c0r:=λ_ _ σ H _ I h=>wpAny_execs_nil ⟨σ,H,I,h⟩
theorem d4(h1:PS X st t)(h2:PSs X rest u):PSs X (st::rest) (c2t t u):=by
 intro pins s σ H D I h;refine wpAny_execs_cons (thn (h1 pins s σ H { D with nx:=u D } I h) λf s1 q=>?_)
 cases f with
 | next=>
  obtain⟨σ',H',I',q⟩:=q;exact h2 pins s1 σ' H' D I' q
 | ret v=>exact q
 | brk=>exact q
 | cont=>exact q
theorem d7(h1:PS X st t):PSs X [st] t:=by
 intro pins s σ H D I h;refine wpAny_execs_cons (thn (h1 pins s σ H D I h) λf s1 q=>?_);cases f with
 | next=>exact wpAny_execs_nil q
 | ret v=>exact q
 | brk=>exact q
 | cont=>exact q
theorem Inv.quiet{pins:List (Addr×Obj)}{σ:St}{H:Hp}{s:Shared}(I:Inv X pins σ H s):interactive X.env=false:=by simp[interactive,I.ok.kind]
def c0s(te:TE):TS:=λD σ H=>te σ H λ_ H1=>D.nx σ H1
theorem m6(he:PE X e te)(hs:swapsWith e none pos.line X.env=pure false:=by rfl):PS X (.Expr e pos) (c0s te):=by
 intro pins s σ H D I h;exact wpAny_Expr_any (thn (he pins s σ H _ I h) λv s1 z0_=>by obtain⟨x,H1,I1,r1,q1⟩:=z0_;exact⟨σ,H1,I1,q1⟩) I.quiet hs
def c4p(te:TE):TS:=λD σ H=>te σ H D.rt
theorem g9(he:PE X e te):PS X (.Return (some e) pos) (c4p te):=by
 intro pins s σ H D I h;exact wpAny_Return_some (thn (he pins s σ H _ I h) λv s1 z0_=>by obtain⟨x,H1,I1,r1,q1⟩:=z0_;exact⟨x,σ,H1,I1,r1,q1⟩)
def c4t(c:TT)(t u:TS):TS:=λD σ H=>c σ H λb H1=>if b=true then t D σ H1 else u D σ H1
theorem m5{c:Expr}{a b:List Stmt}{tc:TT}(hc:PT X c tc)(ha:PSs X a t)(hb:PSs X b u):PS X (.If c a b pos) (c4t tc t u):=by
 intro pins s σ H D I h;refine wpAny_If (thn (hc pins s σ H _ I h) λd s1 z0_=>?_);obtain⟨H1,I1,q1⟩:=z0_;cases d with
 | true=>exact ha pins s1 σ H1 D I1 q1
 | false=>exact hb pins s1 σ H1 D I1 q1
end
abbrev TG:=V->St->Hp->(St->Hp->Prop)->Prop
def PG(X:Cx)(target:Expr)(t:TG):Prop :=
 ∀(pins:List (Addr×Obj))(s:Shared)(σ:St)(H:Hp)(v:V)(u:Value)(Q:St->Hp->Prop),Inv X pins σ H s->RelV v u->t v σ H Q ->
  wpAny (model X.prog X.w) X.A (assign target X.env u) (λ_ s'=>∃σ' H',Inv X pins σ' H' s'/\Q σ' H') X.xe s
abbrev c2y:=V->V->V->Hp->(Hp->Prop)->Prop
def c5h(X:Cx)(t:c2y):Prop :=
 ∀(pins:List (Addr×Obj))(s:Shared)(σ:St)(H:Hp)(o i v:V)(ov iv u:Value)(Q:Hp->Prop),Inv X pins σ H s->RelV o ov->RelV i iv->RelV v u->t o i v H Q ->
  wpAny (model X.prog X.w) X.A (setItem ov iv u) (λ_ s'=>∃H',Inv X pins σ H' s'/\Q H') X.xe s
section
variable{X:Cx}{pos:Pos}
def b0z(i:Nat):TG:=λv σ H Q=>Q (σ.set i (some v)) H
theorem i7{i:Nat}{x:Str}(hN:X.N.Nodup)(hi:X.N[i]?=some x)(hx:Loc X.env.scope x)(hf:X.fn x=true\/X.env.scope.names.lookup x=some .local:=by first|exact .inl rfl|exact .inr rfl|assumption):PG X (.Name x pos) (b0z i):=by
 intro pins s σ H v u Q I r h;exact wpAny_assign_Name (a6t I hN hi hx r (λs' I'=>⟨_,H,I',h⟩) hf)
def c5f(to ti:TE)(t:c2y):TG:=λv σ H Q=>to σ H λo H1=>ti σ H1 λi H2=>t o i v H2 λH3=>Q σ H3
theorem a3d{o i:Expr}{to ti:TE}{t:c2y}(ho:PE X o to)(hi:PE X i ti)(hs:c5h X t)(ha:∀v,assign (.Subscript o i pos) X.env v=(do
   let ov <- holding [v] (eval o X.env)
   let iv <- holding [v,ov] (eval i X.env)
   standAt pos
   holding [v,ov,iv] (setItem ov iv v)
   release [v,ov,iv] []):=by intro _;rfl):PG X (.Subscript o i pos) (c5f to ti t):=by
 intro pins s σ H v u Q I r h;rw[ha];refine wpAny_bind (wpAny_holding (thn (ho pins s σ H _ I h) λov s1 z0_=>?_));obtain⟨x,H1,I1,r1,q1⟩:=z0_;refine wpAny_bind (wpAny_holding (thn (hi pins s1 σ H1 _ I1 q1) λiv s2 z0_=>?_));obtain⟨y,H2,I2,r2,q2⟩:=z0_;refine wpAny_bind (wpAny_standAt (wpAny_bind (wpAny_holding (thn (hs pins s2 σ H2 x y v ov iv u _ I2 r1 r2 r q2) λ_ s3 z0_=>?_))));obtain⟨H3,I3,q3⟩:=z0_;exact wpAny_release ⟨σ,H3,I3,q3⟩
def c0u(te:TE)(g:TG):TS:=λD σ H=>te σ H λx H1=>g x σ H1 D.nx
theorem a3c{tg e:Expr}{te:TE}{g:TG}(he:PE X e te)(hg:PG X tg g)(hs:swapsWithSole [tg] e pos.line X.env=pure false:=by rfl)(hw:swappedStores [tg] e X.env=pure none:=by rfl)(h1:(assignEach [tg] X.env).map (·.2)=[assign tg X.env]:=by rfl):PS X (.Assign [tg] e pos) (c0u te g):=by
 intro pins s σ H D I h;refine wpAny_Assign_stores (thn (he pins s σ H _ I h) λv s1 z0_=>?_) hs hw;obtain⟨x,H1,I1,r1,q1⟩:=z0_;rw[h1];exact thn (hg pins s1 σ H1 x v _ I1 r1 q1) λ_ s2 q=>q
theorem f8{i:Nat}{x:Str}{e:Expr}{te:TE}{pos':Pos}(hN:X.N.Nodup)(hi:X.N[i]?=some x)(hx:Loc X.env.scope x)(he:PE X e te)(hs:swapsWith e (some (.Name x pos')) pos.line X.env=pure false:=by rfl)(hf:X.fn x=true\/X.env.scope.names.lookup x=some .local:=by first|exact .inl rfl|exact .inr rfl|assumption):
  PS X (.Assign [.Name x pos'] e pos) (c0u te (b0z i)):=by
 intro pins s σ H D I h;refine wpAny_Assign_Name (thn (he pins s σ H _ I h) λv s1 z0_=>?_) hs;obtain⟨y,H1,I1,r1,q1⟩:=z0_;exact a6t I1 hN hi hx r1 (λs2 I2=>⟨_,H1,I2,q1⟩) hf
end
structure It where
 go:Nat->Hp->Prop
 yld:Nat->Hp->V->Hp->Prop
 stop:Nat->Hp->Prop
def b2u(X:Cx)(pins:List (Addr×Obj))(H:Hp)(b:Addr):Prop :=
 H b=none/\b≠X.env.locals/\b ∉ X.fs/\(b∈X.ex\/X.s₀.heap.objs.size<=b)/\(∀x c,X.env.cells.lookup x=some c->c≠b)/\∀p∈X.pn++pins,p.1≠b
theorem Inv.fpOk{X:Cx}{pins:List (Addr×Obj)}{σ:St}{H H':Hp}{s:Shared}{b:Addr}(I:Inv X pins σ H s)(hb:s.heap.objs.size<=b)(hn:H' b=none):b2u X pins H' b:=by
 refine⟨hn,Nat.ne_of_gt (Nat.lt_of_lt_of_le I.lt hb),I.nofs hb,.inr (Nat.le_trans I.sz hb),λx c e z=>?_,λp hp z=>?_⟩
 ·obtain⟨v,q⟩:=I.cell x c e
  exact absurd (Nat.lt_of_lt_of_le q.lt (by rw[z];exact hb)) (Nat.lt_irrefl _)
 ·exact absurd (Nat.lt_of_lt_of_le (Heap.lt_size (I.pin p hp).1) (by rw[z];exact hb)) (Nat.lt_irrefl _)
structure c0i(P:Program)(w:World)(K:Frag)(tg:Expr)(J:It)(fp:List Addr)(it:Addr)(tn:Nat->Heap->Prop):Prop where
 mem:it∈fp
 obj:∀i h,tn i h->∀b∈fp,∃o,h.get? b=some o/\∀v,o.data≠.cell v
 keep:∀i h h',tn i h->(∀b∈fp,∀o,h.get? b=some o->h'.get? b=some o)->tn i h'
 item:∀(X:Cx),X.prog=P->X.w=w->X.K=K->X.calm=true->∀(i:Nat)(pins:List (Addr×Obj))(s:Shared)(σ:St)(H:Hp)(E:Value->Shared->Prop),Inv X pins σ H s->(∀b∈fp,b2u X pins H b)->tn i s.heap->J.go i H ->
  wpAny (model P w) X.A (pyNext (.ref it)) (λr s1=>∃u,r=some u /\
   wpAny (model P w) X.A (letOwnedTupleGo tg (.ref it) u) (λ_ s2=>∃x H',Inv X pins σ H' s2/\RelV x u/\J.yld i H x H'/\tn (i+1) s2.heap/\∀b∈fp,H' b=none) E s1) E s
 done:∀(X:Cx),X.prog=P->X.w=w->X.K=K->X.calm=true->∀(i:Nat)(pins:List (Addr×Obj))(s:Shared)(σ:St)(H:Hp)(E:Value->Shared->Prop),Inv X pins σ H s->(∀b∈fp,b2u X pins H b)->tn i s.heap->J.stop i H ->
  wpAny (model P w) X.A (pyNext (.ref it)) (λr s1=>r=none/\Inv X pins σ H s1) E s
 self:∀(A:Around)(i:Nat)(s:Shared)(Q:Value->Shared->Prop)(E:Value->Shared->Prop),tn i s.heap->Q (.ref it) s->wpAny (model P w) A (pyIter (.ref it)) Q E s
abbrev TI:=St->Hp->(It->Hp->Prop)->Prop
def PIE(X:Cx)(pins:List (Addr×Obj))(σ:St)(tg:Expr)(R:It->Hp->Prop)(itv:Value)(s2:Shared):Prop :=
 ∃(it:Addr)(fp:List Addr)(tn:Nat->Heap->Prop)(J:It)(H':Hp),itv=.ref it/\Inv X pins σ H' s2/\c0i X.prog X.w X.K tg J fp it tn/\tn 0 s2.heap/\(∀b∈fp,b2u X pins H' b)/\R J H'
def PI(X:Cx)(tg iter:Expr)(wi:TI):Prop :=
 ∀(pins:List (Addr×Obj))(s:Shared)(σ:St)(H:Hp)(R:It->Hp->Prop),Inv X pins σ H s->wi σ H R ->
  wpAny (model X.prog X.w) X.A (eval iter X.env) (λv s1=>wpAny (model X.prog X.w) X.A (pyIter v) (PIE X pins σ tg R) X.xe s1) X.xe s
theorem b5i{M:Model}{A:Around}{E:Value->Shared->Prop}{s:Shared}{tg:Expr}{it:Addr}{u:Value}{o:Obj}{n:String}{vs:Array Value}{Q:Unit->Shared->Prop}(ho:s.heap.get? it=some o)(hc:o.cls=.type n)(hd:o.data=.fields vs)(hn:["enumerate","zip","dict_itemiterator","dict_reverseitemiterator","odict_iterator","itertools.zip_longest","itertools.pairwise"].contains n=false)(hQ:Q () s):wpAny M A (letOwnedTupleGo tg (.ref it) u) Q E s:=by
 unfold letOwnedTupleGo;cases tg <;> first
  | exact wpAny_pure hQ
  | (cases u <;> first
    | exact wpAny_pure hQ
    | (
      refine wpAny_bind (wpAny_load ho ?_);rw[hc,hd];show wpAny M A (if (["enumerate","zip","dict_itemiterator","dict_reverseitemiterator","odict_iterator","itertools.zip_longest","itertools.pairwise"].contains n && vs[0]? == some (rawInt _))=true then _ else _) Q E s;rw[if_neg (by intro h;rw[hn,Bool.false_and] at h;cases h)]
      exact wpAny_pure hQ))
def Itl(K:Frag)(a:Addr):It :=
 ⟨λi H=>∃xs x,SqL K H a xs/\xs[i]?=some x,λi H x H'=>H'=H/\∀xs,SqL K H a xs->xs[i]?=some x,λi H=>∃xs,SqL K H a xs/\xs.length<=i⟩
def Itt(K:Frag)(a:Addr):It :=
 ⟨λi H=>∃xs x,SqT K H a xs/\xs[i]?=some x,λi H x H'=>H'=H/\∀xs,SqT K H a xs->xs[i]?=some x,λi H=>∃xs,SqT K H a xs/\xs.length<=i⟩
def Itr(lo:Int)(n:Nat):It:=⟨λi _=>i<n,λi H x H'=>H'=H/\x=.int (lo+i),λi _=>n<=i⟩
theorem b3r{P:Program}{w:World}{K:Frag}{tg:Expr}(a it:Addr):c0i P w K tg (Itl K a) [it] it (λi h=>h.IsListIter it a i) where
 mem:=by simp
 obj:=λi h st b hb=>by
  have e:b=it:=by simpa using hb
  subst e;obtain⟨o,e,c,d⟩:=st;exact⟨o,e,λv z=>by rw[d] at z;cases z⟩
 keep:=λi h h' st k=>st.at λo e=>k it (by simp) o e
 item:=by
  intro X hP hw hK hc i pins s σ H E I hf st hg;subst hP hw hK;obtain⟨xs,x,hq,hx⟩:=hg;obtain⟨its,rv,p,hz⟩:=I.list hq;obtain⟨u,hu,ru⟩:=rv.get hx;obtain⟨f0,f1,f2,f3,f4,f5⟩:=hf it (by simp)
  refine wpAny_pyNext_list_item st p.isList (x:=u) (by simpa using hu) λh' st' sb=>?_
  have I1:Inv X pins σ H { s with heap:=h' }:=I.turned (t':=s.toks) (λb o hb e=>(sb.2 b hb).trans e) f0 f1 f3 f4 f5
  obtain⟨o,e,c,d⟩:=id st';exact⟨u,rfl,b5i (s:={ s with heap:=h' }) e c d (by decide) ⟨x,H,I1,ru,⟨rfl,λys hy=>by rw[I.list_inj hy hq];exact hx⟩,st',λb hb=>(hf b hb).1⟩⟩
 done:=by
  intro X hP hw hK hc i pins s σ H E I hf st hg;subst hP hw hK;obtain⟨xs,hq,hx⟩:=hg;obtain⟨its,rv,p,hz⟩:=I.list hq;obtain⟨f0,f1,f2,f3,f4,f5⟩:=hf it (by simp)
  have hl:=rv.length;exact wpAny_pyNext_list_end (I.ok.hd hc) st p.isList (by simp;lia) λh' eb=>⟨rfl,I.turned (t':=s.toks) (λb o hb e=>eb b o hb e) f0 f1 f3 f4 f5⟩
 self:=λ_ _ _ _ _ st h=>wpAny_pyIter_listiter st h
theorem b2v{P:Program}{w:World}{K:Frag}{tg:Expr}(a it:Addr):c0i P w K tg (Itt K a) [it] it (λi h=>h.IsTupleIter it a i) where
 mem:=by simp
 obj:=λi h st b hb=>by
  have e:b=it:=by simpa using hb
  subst e;obtain⟨o,e,c,d⟩:=st;exact⟨o,e,λv z=>by rw[d] at z;cases z⟩
 keep:=λi h h' st k=>st.at λo e=>k it (by simp) o e
 item:=by
  intro X hP hw hK hc i pins s σ H E I hf st hg;subst hP hw hK;obtain⟨xs,x,hq,hx⟩:=hg;obtain⟨its,rv,p,hz⟩:=I.tuple hq;obtain⟨u,hu,ru⟩:=rv.get hx;obtain⟨f0,f1,f2,f3,f4,f5⟩:=hf it (by simp)
  refine wpAny_pyNext_tuple_item st (show s.heap.IsTuple a its.toArray from p) (x:=u) (by simpa using hu) λh' st' sb=>?_
  have I1:Inv X pins σ H { s with heap:=h' }:=I.turned (t':=s.toks) (λb o hb e=>(sb.2 b hb).trans e) f0 f1 f3 f4 f5
  obtain⟨o,e,c,d⟩:=id st';exact⟨u,rfl,b5i (s:={ s with heap:=h' }) e c d (by decide) ⟨x,H,I1,ru,⟨rfl,λys hy=>by rw[I.tuple_inj hy hq];exact hx⟩,st',λb hb=>(hf b hb).1⟩⟩
 done:=by
  intro X hP hw hK hc i pins s σ H E I hf st hg;subst hP hw hK;obtain⟨xs,hq,hx⟩:=hg;obtain⟨its,rv,p,hz⟩:=I.tuple hq;obtain⟨f0,f1,f2,f3,f4,f5⟩:=hf it (by simp)
  have hl:=rv.length;exact wpAny_pyNext_tuple_end (I.ok.hd hc) st (show s.heap.IsTuple a its.toArray from p) (by simp;lia) λh' eb=>⟨rfl,I.turned (t':=s.toks) (λb o hb e=>eb b o hb e) f0 f1 f3 f4 f5⟩
 self:=λ_ _ _ _ _ st h=>wpAny_pyIter_tupleiter st h
theorem b2w{P:Program}{w:World}{K:Frag}{tg:Expr}(it:Addr)(lo:Int)(n:Nat):c0i P w K tg (Itr lo n) [it] it (λi h=>IsRangeIter h it (lo+(i:Nat)*1) ((n:Int)-(i:Nat)) 1) where
 mem:=by simp
 obj:=λi h st b hb=>by
  have e:b=it:=by simpa using hb
  subst e;exact⟨_,st,λv z=>by
   have z':Data.fields _=Data.cell v:=z;cases z'⟩
 keep:=λi h h' st k=>k it (by simp) _ st
 item:=by
  intro X hP hw hK hc i pins s σ H E I hf st hg;subst hP hw hK;obtain⟨f0,f1,f2,f3,f4,f5⟩:=hf it (by simp)
  have W:=Walks.range (prog:=X.prog) (w:=X.w) (I.ok.hd hc) it lo 1 n;refine W.item i s _ _ hg st λv h' tk hv st' kk=>?_;obtain⟨t,rfl⟩:=hv;have I1:Inv X pins σ H { s with heap:=h',toks:=tk }:=I.turned (λb o hb e=>kk b o (by simpa using hb) e) f0 f1 f3 f4 f5
  refine⟨_,rfl,b5i (s:={ s with heap:=h',toks:=tk }) (n:="range_iterator") st' rfl rfl (by decide) ⟨.int (lo+i),H,I1,⟨t,?_⟩,⟨rfl,rfl⟩,st',λb hb=>(hf b hb).1⟩⟩
  rw[Int.mul_one]
 done:=by
  intro X hP hw hK hc i pins s σ H E I hf st hg;subst hP hw hK;obtain⟨f0,f1,f2,f3,f4,f5⟩:=hf it (by simp)
  exact wpAny_pyNext_range_end (I.ok.hd hc) st (by have:n<=i:=hg;lia) λh' eb=>⟨rfl,I.turned (t':=s.toks) (λb o hb e=>eb b o hb e) f0 f1 f3 f4 f5⟩
 self:=λ_ _ _ _ _ st h=>wpAny_pyIter_rangeiter st h
end L2
namespace L2
open PySem PySem.Spec PyProof.Rows
section
variable{X:Cx}{tg:Expr}
def b9s(K:Frag)(tl:TE):TI:=λσ H R=>tl σ H λx H1=>∃a,x=.ref a/\(∃xs,SqL K H1 a xs)/\R (Itl K a) H1
def c3p(K:Frag)(tl:TE):TI:=λσ H R=>tl σ H λx H1=>∃a,x=.ref a/\(∃xs,SqT K H1 a xs)/\R (Itt K a) H1
theorem b9c{l:Expr}{tl:TE}(hl:PE X l tl):PI X tg l (b9s X.K tl):=by
 intro pins s σ H R I h;refine thn (hl pins s σ H _ I h) λv s1 z0_=>?_;obtain⟨x,H1,I1,r1,q1⟩:=z0_;obtain⟨a,e,⟨xs,hq⟩,q⟩:=q1;subst e;cases r1;obtain⟨its,rv,p,hz⟩:=I1.list hq;refine wpAny_pyIter_list p.isList ?_;refine⟨s1.heap.objs.size,[s1.heap.objs.size],_,_,H1,rfl,I1.kept (t':=s1.toks) λb o e=>Heap.get?_push_of_some _ e,b3r a _,⟨_,Heap.get?_push_size _ rfl,rfl,rfl⟩,λb hb=>?_,q⟩;have e:b=s1.heap.objs.size:=by simpa using hb
 subst e;exact I1.fpOk (Nat.le_refl _) (I1.hok.fresh (Nat.le_refl _))
theorem c0z{l:Expr}{tl:TE}(hl:PE X l tl):PI X tg l (c3p X.K tl):=by
 intro pins s σ H R I h;refine thn (hl pins s σ H _ I h) λv s1 z0_=>?_;obtain⟨x,H1,I1,r1,q1⟩:=z0_;obtain⟨a,e,⟨xs,hq⟩,q⟩:=q1;subst e;cases r1;obtain⟨its,rv,p,hz⟩:=I1.tuple hq;refine wpAny_pyIter_tuple (show s1.heap.IsTuple a its.toArray from p) ?_;refine⟨s1.heap.objs.size,[s1.heap.objs.size],_,_,H1,rfl,I1.kept (t':=s1.toks) λb o e=>Heap.get?_push_of_some _ e,b2v a _,⟨_,Heap.get?_push_size _ rfl,rfl,rfl⟩,λb hb=>?_,q⟩;have e:b=s1.heap.objs.size:=by simpa using hb
 subst e;exact I1.fpOk (Nat.le_refl _) (I1.hok.fresh (Nat.le_refl _))
theorem b1r{pins:List (Addr×Obj)}{σ:St}{H:Hp}{s:Shared}{R:It->Hp->Prop}{E:Value->Shared->Prop}{lo hi:Int}{t u v:Tok}{tk:Nat}(I:Inv X pins σ H s)(h1:-(2 ^ 62)<=lo)(h2:lo<2 ^ 62)(h3:-(2 ^ 62)<=hi)(h4:hi<2 ^ 62)(q:R (Itr lo (hi-lo).toNat) H):wpAny (model X.prog X.w) X.A (pyIter (.ref s.heap.objs.size)) (PIE X pins σ tg R) E { s with heap:=s.heap.push { cls:=.type "range",data:=.fields #[.int lo t,.int hi u,.int 1 v] },toks:=tk }:=by
 refine wpAny_pyIter_range (IsRange.new ..) (small_one h1 h2 h3 h4) ?_;have I1:Inv X pins σ H { s with heap:=s.heap.push { cls:=.type "range",data:=.fields #[.int lo t,.int hi u,.int 1 v] },toks:=tk }:=I.kept λb o e=>Heap.get?_push_of_some _ e
 refine⟨(s.heap.push { cls:=.type "range",data:=.fields #[.int lo t,.int hi u,.int 1 v] }).objs.size,[(s.heap.push { cls:=.type "range",data:=.fields #[.int lo t,.int hi u,.int 1 v] }).objs.size],_,_,H,rfl,
  I1.kept (t':=tk) λb o e=>Heap.get?_push_of_some _ e,b2w _ lo (hi-lo).toNat,?_,λb hb=>?_,q⟩
 ·have e1:lo+((0:Nat):Int)*1=lo:=by simp
  have e2:(((hi-lo).toNat:Nat):Int)-((0:Nat):Int)=Builtin.Range.rangeSize lo hi 1:=by rw[rangeSize_one];split <;> lia
  show IsRangeIter _ _ (lo+((0:Nat):Int)*1) ((((hi-lo).toNat:Nat):Int)-((0:Nat):Int)) 1;rw[e1,e2];exact Heap.get?_push_size _ rfl
 ·have e:b=(s.heap.push { cls:=.type "range",data:=.fields #[.int lo t,.int hi u,.int 1 v] }).objs.size:=by simpa using hb
  subst e;exact I1.fpOk (Nat.le_refl _) (I1.hok.fresh (Nat.le_refl _))
def c1u(ta:TA):TI:=λσ H R=>ta σ H λvs H1=>∃j:Int,vs=[.int j]/\-(2 ^ 62)<=j/\j<2 ^ 62/\R (Itr 0 j.toNat) H1
def c1t(ta:TA):TI:=λσ H R=>ta σ H λvs H1=>∃i j:Int,vs=[.int i,.int j]/\(-(2 ^ 62)<=i/\i<2 ^ 62/\-(2 ^ 62)<=j/\j<2 ^ 62)/\R (Itr i (j-i).toNat) H1
theorem l9{a:Expr}{ta:TA}{p pos:Pos}(hg:Gl X "range")(hm:X.mg "range" = none)(ha:PA X [a] ta)(hs:starEach [a] X.env=[(false,eval a X.env)]:=by rfl):PI X tg (.Call (.Name "range" p) [a] [] pos) (c1u ta):=by
 intro pins s σ H R I h;refine Call_ (a6k I hg hm boot_range (PyProof.Rows.callWith_type1 (thn (ha pos pins s σ H _ I h) λus s1 z0_=>?_) hs rfl));obtain⟨vs,H1,I1,r1,q1⟩:=z0_;obtain⟨j,e,q1,q2,q⟩:=q1;subst e;cases r1 with
 | cons r rr=>
  cases rr;obtain⟨t,rfl⟩:=r;exact call_range_1 (b1r I1 (by lia) (by lia) q1 q2 (by simpa using q))
theorem a8j{a b:Expr}{ta:TA}{p pos:Pos}(hg:Gl X "range")(hm:X.mg "range" = none)(ha:PA X [a,b] ta)(hs:starEach [a,b] X.env=[(false,eval a X.env),(false,eval b X.env)]:=by rfl)(hs2:starEach [b] X.env=[(false,eval b X.env)]:=by rfl):
  PI X tg (.Call (.Name "range" p) [a,b] [] pos) (c1t ta):=by
 intro pins s σ H R I h;refine Call_ (a6k I hg hm boot_range (PyProof.Rows.callWith_type1 (thn (ha pos pins s σ H _ I h) λus s1 ⟨vs,H1,I1,r1,q1⟩=>?_) (by rw[hs,hs2]) (by rw[hs2];rfl)))
 obtain⟨i,j,e,⟨q1,q2,q3,q4⟩,q⟩:=q1;subst e;cases r1 with
 | cons r rr=>
  cases rr with
  | cons r' rr=>
   cases rr;obtain⟨t,rfl⟩:=r;obtain⟨t',rfl⟩:=r';exact call_range_2 (b1r I1 q1 q2 q3 q4 q)
def c4u(wi:TI)(g:TG)(tb:TS):TS:=λD σ H=>wi σ H λJ H1=>∃W:Nat->Nat->St->Hp->Prop,(∃m,W 0 m σ H1)/\∀i m σ H,W i m σ H ->
 (J.stop i H/\D.nx σ H)\/(J.go i H/\∃N:St->Hp->Prop,(∀σ' H',N σ' H'->∃m',m'<m/\W (i+1) m' σ' H')/\∀x H',J.yld i H x H'->g x σ H' λσ2 H2=>tb { D with nx:=N,ct:=N,bk:=D.nx } σ2 H2)
def a8i(fp:List Addr)(h:Heap):List (Addr×Obj):=fp.filterMap λb=>(h.get? b).map λo=>(b,o)
theorem y6{fp:List Addr}{h:Heap}{b:Addr}{o:Obj}(hb:b∈fp)(e:h.get? b=some o):(b,o)∈a8i fp h:=List.mem_filterMap.mpr ⟨b,hb,by rw[e];rfl⟩
theorem b4r{fp:List Addr}{h:Heap}{p:Addr×Obj}(hp:p∈a8i fp h):p.1∈fp/\h.get? p.1=some p.2:=by
 obtain⟨b,hb,e⟩:=List.mem_filterMap.mp hp;cases q:h.get? b with
 | none=>rw[q] at e;cases e
 | some o=>
  rw[q] at e;have e':(b,o)=p:=Option.some.inj e;subst e';exact⟨hb,q⟩
theorem Inv.pinned{pins:List (Addr×Obj)}{σ:St}{H:Hp}{s:Shared}{fp:List Addr}(I:Inv X pins σ H s)(hf:∀b∈fp,b2u X pins H b)(ho:∀b∈fp,∃o,s.heap.get? b=some o/\∀v,o.data≠.cell v):Inv X (pins++a8i fp s.heap) σ H s :=
 I.pins_of λp hp=>(List.mem_append.mp hp).elim (λz=>I.pin p (List.mem_append_right _ z)) λz=>by
  obtain⟨hb,e⟩:=b4r z;obtain⟨f0,f1,f2,_⟩:=hf p.1 hb;obtain⟨o,e',d⟩:=ho p.1 hb;rw[e] at e';cases e';exact⟨e,f0,f1,f2,d⟩
theorem Inv.unpinned{pins pl:List (Addr×Obj)}{σ:St}{H:Hp}{s:Shared}(I:Inv X (pins++pl) σ H s):Inv X pins σ H s:=I.pins_of λp hp=>I.pin p (List.mem_append_right _ (List.mem_append_left _ hp))
theorem u6{iter:Expr}{body:List Stmt}{wi:TI}{g:TG}{tb:TS}{pos:Pos}(hp:PassesOwn (model X.prog X.w) X.A X.env X.xe)(hc:X.calm=true)(hi:PI X tg iter wi)(hg:PG X tg g)(hb:PSs X body tb)(hs:∀x,foldedSetIterable iter X.env x=pure x:=by intro _;rfl):PS X (.For tg iter body [] pos) (c4u wi g tb):=by
 intro pins s σ H D I h;refine wpAny_For (thn (hi pins s σ H _ I h) λv s1 h1=>thn h1 λitv s2 h2=>?_) hs;obtain⟨it,fp,tn,J,H2,e,I2,T,st2,f2,W,⟨m0,w0⟩,turn⟩:=h2;subst e;have stat:∀{H':Hp},(∀b∈fp,H' b=none)->∀b∈fp,b2u X pins H' b:=λhn b hb=>⟨hn b hb,(f2 b hb).2⟩;refine codeAny_forLoop_any (λn s'=>∃i σ' H',Inv X pins σ' H' s'/\tn i s'.heap/\(∀b∈fp,H' b=none)/\W i n σ' H') ?_ m0 ⟨0,σ,H2,I2,st2,λb hb=>(f2 b hb).1,w0⟩;rintro n s3 ⟨i,σ3,H3,I3,st3,fr3,w3⟩;rcases turn i n σ3 H3 w3 with ⟨stop,qn⟩|⟨go,N,hN,step⟩
 ·refine wpAny_passesOwn hp (thn (T.done X rfl rfl rfl hc i pins s3 σ3 H3 X.xe I3 (stat fr3) st3 stop) λr s4 z0_=>?_)
  obtain⟨hr,I4⟩:=z0_;subst hr;exact wpAny_execs_nil ⟨σ3,H3,I4,qn⟩
 ·refine wpAny_passesOwn hp (thn (T.item X rfl rfl rfl hc i pins s3 σ3 H3 X.xe I3 (stat fr3) st3 go) λr s4 z0_=>?_)
  obtain⟨u,hr,h4⟩:=z0_;subst hr;refine wpAny_passesOwn hp (thn h4 λ_ s5 z0_=>?_);obtain⟨x,H5,I5,r5,y5,st5,fr5⟩:=z0_;have I5':=I5.pinned (stat fr5) (T.obj _ _ st5);refine wpAny_passesOwn hp (thn (hg _ s5 σ3 H5 x u _ I5' r5 (step x H5 y5)) λ_ s6 z0_=>?_);obtain⟨σ6,H6,I6,q6⟩:=z0_;refine wpAny_passesOwn hp (thn (hb _ s6 σ6 H6 _ I6 q6) λf s7 q7=>?_);have again:∀{σ7:St}{H7:Hp},Inv X (pins++a8i fp s5.heap) σ7 H7 s7->N σ7 H7->∃m,m<n/\∃i σ' H',Inv X pins σ' H' s7/\tn i s7.heap/\(∀b∈fp,H' b=none)/\W i m σ' H':=λ{σ7 H7} I7 n7=>by
   obtain⟨m',hm,w7⟩:=hN σ7 H7 n7;refine⟨m',hm,i+1,σ7,H7,I7.unpinned,T.keep _ _ _ st5 λb hb o e=>(I7.pin (b,o) (List.mem_append_right _ (List.mem_append_right _ (y6 hb e)))).1,λb hb=>?_,w7⟩;obtain⟨o,e,d⟩:=T.obj _ _ st5 b hb;exact(I7.pin (b,o) (List.mem_append_right _ (List.mem_append_right _ (y6 hb e)))).2.1
  cases f with
  | next=>obtain⟨σ7,H7,I7,n7⟩:=q7;exact again I7 n7
  | cont=>obtain⟨σ7,H7,I7,n7⟩:=q7;exact again I7 n7
  | brk=>obtain⟨σ7,H7,I7,q7⟩:=q7;exact⟨σ7,H7,I7.unpinned,q7⟩
  | ret v=>obtain⟨x7,σ7,H7,I7,r7,q7⟩:=q7;exact⟨x7,σ7,H7,I7.unpinned,r7,q7⟩
end
theorem a4m{K:Frag}{a:Addr}{xs:List V}{g:TG}{tb:TS}{D:Ends}{σ:St}{H:Hp}(Pv:Nat->St->Hp->Prop)(h0:Pv 0 σ H)(hl:∀i σ H,i<=xs.length->Pv i σ H->SqL K H a xs)(hs:∀i x σ H,xs[i]?=some x->Pv i σ H->g x σ H λσ2 H2=>tb { D with nx:=Pv (i+1),ct:=Pv (i+1),bk:=D.nx } σ2 H2)(hd:∀σ H,Pv xs.length σ H->D.nx σ H):
  ∃W:Nat->Nat->St->Hp->Prop,(∃m,W 0 m σ H)/\∀i m σ H,W i m σ H ->
   ((Itl K a).stop i H/\D.nx σ H)\/((Itl K a).go i H/\∃N:St->Hp->Prop,(∀σ' H',N σ' H'->∃m',m'<m/\W (i+1) m' σ' H')/\∀x H',(Itl K a).yld i H x H'->g x σ H' λσ2 H2=>tb { D with nx:=N,ct:=N,bk:=D.nx } σ2 H2):=by
 refine⟨λi m σ H=>m=xs.length-i/\i<=xs.length/\Pv i σ H,⟨xs.length,by simp,Nat.zero_le _,h0⟩,?_⟩
 rintro i m σ H ⟨rfl,hi,p⟩;have q:=hl i σ H hi p;by_cases hlt:i<xs.length
 ·refine .inr ⟨⟨xs,xs[i],q,by simp[hlt]⟩,Pv (i+1),λσ' H' p'=>⟨xs.length-(i+1),by lia,rfl,hlt,p'⟩,λx H' y=>?_⟩
  obtain⟨e,y⟩:=y;subst e;exact hs i x σ _ (y xs q) p
 ·have e:i=xs.length:=by lia
  subst e;exact .inl ⟨⟨xs,q,Nat.le_refl _⟩,hd σ H p⟩
theorem c0c{K:Frag}{a:Addr}{xs:List V}{g:TG}{tb:TS}{D:Ends}{σ:St}{H:Hp}(Pv:Nat->St->Hp->Prop)(h0:Pv 0 σ H)(hl:∀i σ H,i<=xs.length->Pv i σ H->SqT K H a xs)(hs:∀i x σ H,xs[i]?=some x->Pv i σ H->g x σ H λσ2 H2=>tb { D with nx:=Pv (i+1),ct:=Pv (i+1),bk:=D.nx } σ2 H2)(hd:∀σ H,Pv xs.length σ H->D.nx σ H):
  ∃W:Nat->Nat->St->Hp->Prop,(∃m,W 0 m σ H)/\∀i m σ H,W i m σ H ->
   ((Itt K a).stop i H/\D.nx σ H)\/((Itt K a).go i H/\∃N:St->Hp->Prop,(∀σ' H',N σ' H'->∃m',m'<m/\W (i+1) m' σ' H')/\∀x H',(Itt K a).yld i H x H'->g x σ H' λσ2 H2=>tb { D with nx:=N,ct:=N,bk:=D.nx } σ2 H2):=by
 refine⟨λi m σ H=>m=xs.length-i/\i<=xs.length/\Pv i σ H,⟨xs.length,by simp,Nat.zero_le _,h0⟩,?_⟩
 rintro i m σ H ⟨rfl,hi,p⟩;have q:=hl i σ H hi p;by_cases hlt:i<xs.length
 ·refine .inr ⟨⟨xs,xs[i],q,by simp[hlt]⟩,Pv (i+1),λσ' H' p'=>⟨xs.length-(i+1),by lia,rfl,hlt,p'⟩,λx H' y=>?_⟩
  obtain⟨e,y⟩:=y;subst e;exact hs i x σ _ (y xs q) p
 ·have e:i=xs.length:=by lia
  subst e;exact .inl ⟨⟨xs,q,Nat.le_refl _⟩,hd σ H p⟩
theorem m3{lo:Int}{n:Nat}{g:TG}{tb:TS}{D:Ends}{σ:St}{H:Hp}(Pv:Nat->St->Hp->Prop)(h0:Pv 0 σ H)(hs:∀i σ H,i<n->Pv i σ H->g (.int (lo+i)) σ H λσ2 H2=>tb { D with nx:=Pv (i+1),ct:=Pv (i+1),bk:=D.nx } σ2 H2)(hd:∀σ H,Pv n σ H->D.nx σ H):
  ∃W:Nat->Nat->St->Hp->Prop,(∃m,W 0 m σ H)/\∀i m σ H,W i m σ H ->
   ((Itr lo n).stop i H/\D.nx σ H)\/((Itr lo n).go i H/\∃N:St->Hp->Prop,(∀σ' H',N σ' H'->∃m',m'<m/\W (i+1) m' σ' H')/\∀x H',(Itr lo n).yld i H x H'->g x σ H' λσ2 H2=>tb { D with nx:=N,ct:=N,bk:=D.nx } σ2 H2):=by
 refine⟨λi m σ H=>m=n-i/\i<=n/\Pv i σ H,⟨n,by simp,Nat.zero_le _,h0⟩,?_⟩
 rintro i m σ H ⟨rfl,hi,p⟩;by_cases hlt:i<n
 ·refine .inr ⟨hlt,Pv (i+1),λσ' H' p'=>⟨n-(i+1),by lia,rfl,hlt,p'⟩,λx H' y=>?_⟩
  obtain⟨e,y⟩:=y;subst e y;exact hs i σ _ hlt p
 ·have e:i=n:=by lia
  subst e;exact .inl ⟨Nat.le_refl _,hd σ H p⟩
end L2
namespace L2
open PySem PySem.Spec PyProof.Rows
abbrev R2:=V->V->Hp->VK->Prop
def OpR(X:Cx)(f:Value->Value->Sem Value)(r:R2):Prop :=
 ∀(pins:List (Addr×Obj))(s:Shared)(σ:St)(H:Hp)(x y:V)(v u:Value)(Q:VK),Inv X pins σ H s->RelV x v->RelV y u->r x y H Q ->
  wpAny (model X.prog X.w) X.A (f v u) (EP X pins σ Q) X.xe s
def UnR(X:Cx)(f:Value->Sem Value)(r:V->Hp->VK->Prop):Prop :=
 ∀(pins:List (Addr×Obj))(s:Shared)(σ:St)(H:Hp)(x:V)(v:Value)(Q:VK),Inv X pins σ H s->RelV x v->r x H Q ->
  wpAny (model X.prog X.w) X.A (f v) (EP X pins σ Q) X.xe s
def a0m(X:Cx)(f:Value)(r:List V->Hp->VK->Prop):Prop :=
 ∀(pins:List (Addr×Obj))(s:Shared)(σ:St)(H:Hp)(xs:List V)(us:List Value)(Q:VK),Inv X pins σ H s->Vals xs us->r xs H Q ->
  wpAny (model X.prog X.w) X.A (call f us) (EP X pins σ Q) X.xe s
def tOp(r:R2)(ta tb:TE):TE:=λσ H Q=>ta σ H λx H1=>tb σ H1 λy H2=>r x y H2 Q
def tUn(r:V->Hp->VK->Prop)(ta:TE):TE:=λσ H Q=>ta σ H λx H1=>r x H1 Q
def rI(C:Int->Int->Prop)(g:Int->Int->V):R2:=λx y H Q=>∃i j,x=.int i/\y=.int j/\C i j/\Q (g i j) H
def rI0(g:Int->Int->V):R2:=λx y H Q=>∃i j,x=.int i/\y=.int j/\Q (g i j) H
def rU(g:Int->V):V->Hp->VK->Prop:=λx H Q=>∃i,x=.int i/\Q (g i) H
section
variable{X:Cx}{a b c:Expr}{ta tb tc:TE}{pos:Pos}
theorem c4i(ha:PE X a ta)(hb:PE X b tb){pins:List (Addr×Obj)}{s:Shared}{σ:St}{H:Hp}{R:V->V->Hp->Prop}(I:Inv X pins σ H s)(h:ta σ H λx H1=>tb σ H1 λy H2=>R x y H2){Q:Value->Shared->Prop}{f:Value->Value->Sem Value}(hf:∀v u s2 x y H2,Inv X pins σ H2 s2->RelV x v->RelV y u->R x y H2->wpAny (model X.prog X.w) X.A (f v u) Q X.xe s2):
  wpAny (model X.prog X.w) X.A (eval a X.env) (λv s₁=>wpAny (model X.prog X.w) X.A (eval b X.env) (λu s₂=>wpAny (model X.prog X.w) X.A (f v u) Q X.xe s₂) X.xe s₁) X.xe s:=by
 refine thn (ha pins s σ H _ I h) λv s1 z0_=>?_;obtain⟨x,H1,I1,r1,q1⟩:=z0_;refine thn (hb pins s1 σ H1 _ I1 q1) λu s2 z0_=>?_;obtain⟨y,H2,I2,r2,q2⟩:=z0_;exact hf v u s2 x y H2 I2 r1 r2 q2
theorem d9{op:Operator}{r:R2}(ho:OpR X (binaryOp op) r)(ha:PE X a ta)(hb:PE X b tb):PE X (.BinOp a op b pos) (tOp r ta tb):=by
 intro pins s σ H Q I h;exact wpAny_BinOp (c4i ha hb I h λv u s2 x y H2 I2 rx ry q=>ho pins s2 σ H2 x y v u Q I2 rx ry q)
theorem b6t{op:UnaryOp}{r:V->Hp->VK->Prop}(ho:UnR X (unaryOp op) r)(ha:PE X a ta):PE X (.UnaryOp op a pos) (tUn r ta):=by
 intro pins s σ H Q I h;exact UnaryOp_ (thn (ha pins s σ H _ I h) λv s1 z0_=>by obtain⟨x,H1,I1,r1,q1⟩:=z0_;exact ho pins s1 σ H1 x v Q I1 r1 q1)
theorem opI{f:Value->Value->Sem Value}{C:Int->Int->Prop}{g:Int->Int->Int}(rule:∀(i j:Int) (t u:Tok) (s:Shared) (Q:Value->Shared->Prop) (E:Value->Shared->Prop),C i j->Q (.int (g i j) s.toks) { s with toks:=s.toks+1 }->wpAny (model X.prog X.w) X.A (f (.int i t) (.int j u)) Q E s):
  OpR X f (rI C λi j=>.int (g i j)):=by
 intro pins s σ H x y v u Q I rx ry h;obtain⟨i,j,rfl,rfl,hc,q⟩:=h;obtain⟨t,rfl⟩:=rx;obtain⟨t',rfl⟩:=ry;exact rule i j t t' s _ _ hc ⟨.int (g i j),H,I.tok _,⟨_,rfl⟩,q⟩
theorem c5d{f:Value->Value->Sem Value}{g:Int->Int->Int}(rule:∀(i j:Int) (t u:Tok) (s:Shared) (Q:Value->Shared->Prop) (E:Value->Shared->Prop),Q (.int (g i j) s.toks) { s with toks:=s.toks+1 }->wpAny (model X.prog X.w) X.A (f (.int i t) (.int j u)) Q E s):
  OpR X f (rI0 λi j=>.int (g i j)):=by
 intro pins s σ H x y v u Q I rx ry h;obtain⟨i,j,rfl,rfl,q⟩:=h;obtain⟨t,rfl⟩:=rx;obtain⟨t',rfl⟩:=ry;exact rule i j t t' s _ _ ⟨.int (g i j),H,I.tok _,⟨_,rfl⟩,q⟩
theorem c3l{f:Value->Value->Sem Value}{g:Int->Int->Bool}(rule:∀(i j:Int) (t u:Tok) (s:Shared) (Q:Value->Shared->Prop) (E:Value->Shared->Prop),Q (.bool (g i j)) s->wpAny (model X.prog X.w) X.A (f (.int i t) (.int j u)) Q E s):
  OpR X f (rI0 λi j=>.bl (g i j)):=by
 intro pins s σ H x y v u Q I rx ry h;obtain⟨i,j,rfl,rfl,q⟩:=h;obtain⟨t,rfl⟩:=rx;obtain⟨t',rfl⟩:=ry;exact rule i j t t' s _ _ ⟨.bl (g i j),H,I,rfl,q⟩
def c6c(i j:Int):Prop:=0<=j/\j<=1000000/\i.natAbs<2 ^ 64
def CMul(i j:Int):Prop:=(-(2 ^ 64)<i/\i<2 ^ 64)\/(-(2 ^ 64)<j/\j<2 ^ 64)
theorem CMul.ok{i j:Int}(h:CMul i j):IntMulOk i j:=by
 rcases h with ⟨h1,h2⟩|⟨h1,h2⟩
 ·exact .of_left (intBits_le_64 h1 h2)
 ·exact .of_right (intBits_le_64 h1 h2)
theorem i9:OpR X (binaryOp .Add) (rI0 λi j=>.int (i+j)):=c5d λ_ _ _ _ _ _ _ q=>add_int q
theorem y0:OpR X (binaryOp .Sub) (rI0 λi j=>.int (i-j)):=c5d λ_ _ _ _ _ _ _ q=>sub_int q
theorem m9:OpR X (binaryOp .Mult) (rI CMul λi j=>.int (i*j)):=opI λ_ _ _ _ _ _ _ hc q=>mul_int q hc.ok
theorem a2e:OpR X (binaryOp .Mod) (rI (λ_ j=>0<j) λi j=>.int (i % j)):=opI λi j _ _ _ _ _ hc q=>by
 have h1:(0:Int)<j:=hc;exact mod_int' (by lia) (by rw[Int.fmod_eq_emod_of_nonneg i (by lia)];exact q)
theorem b1u:OpR X (binaryOp .Pow) (rI c6c λi j=>.int (i ^ j.toNat)):=opI λ_ _ _ _ _ _ _ hc q=>pow_int_small hc.1 hc.2.1 hc.2.2 q
theorem unI{f:Value->Sem Value}{g:Int->Int}(rule:∀(i:Int) (t:Tok) (s:Shared) (Q:Value->Shared->Prop) (E:Value->Shared->Prop),Q (.int (g i) s.toks) { s with toks:=s.toks+1 }->wpAny (model X.prog X.w) X.A (f (.int i t)) Q E s):
  UnR X f (rU λi=>.int (g i)):=by
 intro pins s σ H x v Q I rx h;obtain⟨i,rfl,q⟩:=h;obtain⟨t,rfl⟩:=rx;exact rule i t s _ _ ⟨.int (g i),H,I.tok _,⟨_,rfl⟩,q⟩
theorem b1m:UnR X (unaryOp .USub) (rU λi=>.int (-i)):=unI λ_ _ _ _ _ q=>neg_int q
end
def c2u:V->V->Bool
 | .non,.non=>true|.non,.int _=>true|.int _,.non=>true|.non,.bl _=>true|.bl _,.non=>true|.non,.str _=>true|.str _,.non=>true
 | .int _,.int _=>true|.bl _,.bl _=>true|.str _,.str _=>true|.byt _,.byt _=>true
 | .int _,.str _=>true|.str _,.int _=>true|.bl _,.str _=>true|.str _,.bl _=>true
 | _,_=>false
def rEq:R2:=λx y H Q=>c2u x y=true/\Q (.bl (decide (x=y))) H
def rNe:R2:=λx y H Q=>c2u x y=true/\Q (.bl (!decide (x=y))) H
theorem b5u{i j:Int}:decide (V.int i=V.int j)=(i == j):=by
 rw[Bool.eq_iff_iff];simp
theorem b8m{i j:Bool}:decide (V.bl i=V.bl j)=(i == j):=by
 rw[Bool.eq_iff_iff];simp
theorem b5t{i j:Str}:decide (V.str i=V.str j)=(i == j):=by
 rw[Bool.eq_iff_iff];simp
theorem b5v{i j:Array UInt8}:decide (V.byt i=V.byt j)=(i.toList == j.toList):=by
 rw[Bool.eq_iff_iff];cases i;cases j;simp
section
variable{X:Cx}{a b c:Expr}{ta tb tc:TE}{pos:Pos}
theorem j0{pins:List (Addr×Obj)}{σ:St}{H:Hp}{s:Shared}{Q:VK}{k k':Bool}(I:Inv X pins σ H s)(q:Q (.bl k) H)(e:k=k'):EP X pins σ Q (.bool k') s:=by
 subst e;exact⟨.bl k,H,I,rfl,q⟩
theorem a3e:OpR X (compareOp .Eq) rEq:=by
 intro pins s σ H x y v u Q I rx ry h;obtain⟨hs,q⟩:=h;cases x with
 | non=>
  cases rx;cases y with
  | non=>cases ry;exact PySem.EqNone.eq_none_none (j0 I q (by simp))
  | bl j=>cases ry;exact PySem.EqNone.eq_none_bool (j0 I q (by simp))
  | int j=>obtain⟨t',rfl⟩:=ry;exact PySem.EqNone.eq_none_int (j0 I q (by simp))
  | str j=>obtain⟨t',rfl⟩:=ry;exact PySem.EqNone.eq_none_str (j0 I q (by simp))
  | _=>exact absurd (show false=true from hs) Bool.false_ne_true
 | bl i=>
  cases rx;cases y with
  | non=>cases ry;exact PySem.EqNone.eq_bool_none (j0 I q (by simp))
  | bl j=>cases ry;exact eq_bool (j0 I q b8m)
  | str j=>obtain⟨t',rfl⟩:=ry;exact PySem.EqMixed.eq_bool_str (j0 I q (by simp))
  | _=>exact absurd (show false=true from hs) Bool.false_ne_true
 | int i=>
  obtain⟨t,rfl⟩:=rx;cases y with
  | non=>cases ry;exact PySem.EqNone.eq_int_none (j0 I q (by simp))
  | int j=>obtain⟨t',rfl⟩:=ry;exact eq_int (j0 I q b5u)
  | str j=>obtain⟨t',rfl⟩:=ry;exact PySem.EqMixed.eq_int_str (j0 I q (by simp))
  | _=>exact absurd (show false=true from hs) Bool.false_ne_true
 | str i=>
  obtain⟨t,rfl⟩:=rx;cases y with
  | non=>cases ry;exact PySem.EqNone.eq_str_none (j0 I q (by simp))
  | bl j=>cases ry;exact PySem.EqMixed.eq_str_bool (j0 I q (by simp))
  | int j=>obtain⟨t',rfl⟩:=ry;exact PySem.EqMixed.eq_str_int (j0 I q (by simp))
  | str j=>obtain⟨t',rfl⟩:=ry;exact eq_str (j0 I q b5t)
  | _=>exact absurd (show false=true from hs) Bool.false_ne_true
 | byt i=>
  obtain⟨t,rfl⟩:=rx;cases y with
  | byt j=>obtain⟨t',rfl⟩:=ry;exact PySem.W.eq_bytes (j0 I q b5v)
  | _=>exact absurd (show false=true from hs) Bool.false_ne_true
 | _=>cases y <;> exact absurd (show false=true from hs) Bool.false_ne_true
theorem b3b:OpR X (compareOp .NotEq) rNe:=by
 intro pins s σ H x y v u Q I rx ry h;obtain⟨hs,q⟩:=h;cases x with
 | non=>
  cases rx;cases y with
  | non=>cases ry;exact PySem.EqNone.ne_none_none (j0 I q (by simp))
  | bl j=>cases ry;exact PySem.EqNone.ne_none_bool (j0 I q (by simp))
  | int j=>obtain⟨t',rfl⟩:=ry;exact PySem.EqNone.ne_none_int (j0 I q (by simp))
  | str j=>obtain⟨t',rfl⟩:=ry;exact PySem.EqNone.ne_none_str (j0 I q (by simp))
  | _=>exact absurd (show false=true from hs) Bool.false_ne_true
 | bl i=>
  cases rx;cases y with
  | non=>cases ry;exact PySem.EqNone.ne_bool_none (j0 I q (by simp))
  | bl j=>cases ry;exact ne_bool (j0 I q (congrArg not b8m))
  | str j=>obtain⟨t',rfl⟩:=ry;exact PySem.EqMixed.ne_bool_str (j0 I q (by simp))
  | _=>exact absurd (show false=true from hs) Bool.false_ne_true
 | int i=>
  obtain⟨t,rfl⟩:=rx;cases y with
  | non=>cases ry;exact PySem.EqNone.ne_int_none (j0 I q (by simp))
  | int j=>obtain⟨t',rfl⟩:=ry;exact ne_int (j0 I q (congrArg not b5u))
  | str j=>obtain⟨t',rfl⟩:=ry;exact PySem.EqMixed.ne_int_str (j0 I q (by simp))
  | _=>exact absurd (show false=true from hs) Bool.false_ne_true
 | str i=>
  obtain⟨t,rfl⟩:=rx;cases y with
  | non=>cases ry;exact PySem.EqNone.ne_str_none (j0 I q (by simp))
  | bl j=>cases ry;exact PySem.EqMixed.ne_str_bool (j0 I q (by simp))
  | int j=>obtain⟨t',rfl⟩:=ry;exact PySem.EqMixed.ne_str_int (j0 I q (by simp))
  | str j=>obtain⟨t',rfl⟩:=ry;exact ne_str (j0 I q (congrArg not b5t))
  | _=>exact absurd (show false=true from hs) Bool.false_ne_true
 | byt i=>
  obtain⟨t,rfl⟩:=rx;cases y with
  | byt j=>obtain⟨t',rfl⟩:=ry;exact PySem.W.ne_bytes (j0 I q (congrArg not b5v))
  | _=>exact absurd (show false=true from hs) Bool.false_ne_true
 | _=>cases y <;> exact absurd (show false=true from hs) Bool.false_ne_true
theorem a7e:OpR X (compareOp .Lt) (rI0 λi j=>.bl (decide (i<j))):=c3l λ_ _ _ _ _ _ _ q=>lt_int q
theorem b0q:OpR X (compareOp .Gt) (rI0 λi j=>.bl (decide (j<i))):=c3l λ_ _ _ _ _ _ _ q=>gt_int q
theorem b4q:OpR X (compareOp .GtE) (rI0 λi j=>.bl (decide (j<=i))):=c3l λ_ _ _ _ _ _ _ q=>ge_int q
theorem a8q:OpR X (compareOp .In) (λx y H Q=>∃i j,x=.str i/\y=.str j/\Q (.bl (!(Builtin.Str.occurrences j i 0 j.length 1).isEmpty)) H):=by
 intro pins s σ H x y v u Q I rx ry h;obtain⟨i,j,rfl,rfl,q⟩:=h;obtain⟨t,rfl⟩:=rx;obtain⟨t',rfl⟩:=ry;exact in_str (j0 I q rfl)
theorem g5(b:Expr){op:CmpOp}(h:op≠.In:=by decide)(h2:op≠.NotIn:=by decide):behindInMarks op b=false:=by
 have e1:(op == CmpOp.In)=false:=by cases op <;> first|rfl|exact absurd rfl h
 have e2:(op == CmpOp.NotIn)=false:=by cases op <;> first|rfl|exact absurd rfl h2
 cases b <;> simp[behindInMarks,e1,e2]
theorem a0y{op:CmpOp}{r:R2}(ho:OpR X (compareOp op) r)(ha:PE X a ta)(hb:PE X b tb)(hm:behindInMarks op b=false):PE X (.Compare a [op] [b] pos) (tOp r ta tb):=by
 intro pins s σ H Q I h;exact wpAny_Compare1 (c4i ha hb I h λv u s2 x y H2 I2 rx ry q=>ho pins s2 σ H2 x y v u Q I2 rx ry q) hm
def c0p(t:TE):TT:=λσ H Q=>t σ H λx H'=>∃k,x=.bl k/\Q k H'
theorem f7{op:CmpOp}{r:R2}(ho:OpR X (compareOp op) r)(ha:PE X a ta)(hb:PE X b tb)(hm:behindInMarks op b=false):PT X (.Compare a [op] [b] pos) (c0p (tOp r ta tb)):=by
 intro pins s σ H Q I h;refine wpAny_isTrue_Compare1 (thn (ha pins s σ H _ I h) λv s1 ⟨x,H1,I1,r1,q1⟩=>thn (hb pins s1 σ H1 _ I1 q1) λu s2 ⟨y,H2,I2,r2,q2⟩=>
  thn (ho pins s2 σ H2 x y v u _ I2 r1 r2 q2) λc s3 ⟨z,H3,I3,r3,k,e,q3⟩=>?_) hm
 subst e;cases r3;exact wpAny_truthy_bool ⟨H3,I3,q3⟩
theorem a6j:(sizeLine:Nat)<2 ^ 63:=by rw[sizeLine_eq];decide
theorem b3c:OpR X (binaryOp .Add) (λx y H Q=>∃i j,x=.str i/\y=.str j/\i.length+j.length<=sizeLine/\Q (.str (i++j)) H):=by
 intro pins s σ H x y v u Q I rx ry h;obtain⟨i,j,rfl,rfl,hz,q⟩:=h;obtain⟨t,rfl⟩:=rx;obtain⟨t',rfl⟩:=ry;exact add_str (λt' tk=>⟨.str (i++j),H,I.tok _,⟨_,rfl⟩,q⟩) hz
theorem a7y{x:V}{us:List Value}(r:Vals [x] us):∃u,us=[u]/\RelV x u:=by
 cases r with
 | cons r1 r2=>cases r2;exact⟨_,rfl,r1⟩
theorem c0l{x y:V}{us:List Value}(r:Vals [x,y] us):∃u w',us=[u,w']/\RelV x u/\RelV y w':=by
 cases r with
 | cons r1 r2=>
  cases r2 with
  | cons r3 r4=>cases r4;exact⟨_,_,rfl,r1,r3⟩
theorem a9w(hc:X.calm=true):a0m X (.builtin "max") (λxs H Q=>∃i j,xs=[.int i,.int j]/\Q (.int (if j > i then j else i)) H):=by
 intro pins s σ H xs us Q I r h;obtain⟨i,j,rfl,q⟩:=h;obtain⟨u,w',rfl,⟨t,rfl⟩,⟨t',rfl⟩⟩:=c0l r;refine max_two_ints (I.ok.hd hc) λh' tk k=>⟨_,H,I.kept k,?_,q⟩;by_cases hj:j > i
 ·rw[if_pos hj,if_pos hj];exact⟨_,rfl⟩
 ·rw[if_neg hj,if_neg hj];exact⟨_,rfl⟩
theorem b5y(hc:X.calm=true):a0m X (.builtin "min") (λxs H Q=>∃i j,xs=[.int i,.int j]/\Q (.int (if j<i then j else i)) H):=by
 intro pins s σ H xs us Q I r h;obtain⟨i,j,rfl,q⟩:=h;obtain⟨u,w',rfl,⟨t,rfl⟩,⟨t',rfl⟩⟩:=c0l r;refine min_two_ints (I.ok.hd hc) λh' tk k=>⟨_,H,I.kept k,?_,q⟩;by_cases hj:j<i
 ·rw[if_pos hj,if_pos hj];exact⟨_,rfl⟩
 ·rw[if_neg hj,if_neg hj];exact⟨_,rfl⟩
theorem b6a:a0m X (.type "int") (λxs H Q=>(∃i,xs=[.int i]/\Q (.int i) H) \/ ∃k,xs=[.bl k]/\Q (.int (if k then 1 else 0)) H):=by
 intro pins s σ H xs us Q I r h;rcases h with ⟨i,rfl,q⟩|⟨k,rfl,q⟩
 ·obtain⟨u,rfl,t,rfl⟩:=a7y r
  exact call_int_int ⟨.int i,H,I,⟨_,rfl⟩,q⟩
 ·obtain⟨u,rfl,r1⟩:=a7y r
  cases r1;exact call_int_bool ⟨.int (if k then 1 else 0),H,I.tok _,⟨_,rfl⟩,q⟩
theorem a4d:a0m X (.type "str") (λxs H Q=>∃i,xs=[.int i]/\i.natAbs.log2<1920/\Q (.str (toString i)) H):=by
 intro pins s σ H xs us Q I r h;obtain⟨i,rfl,hz,q⟩:=h;obtain⟨u,rfl,t,rfl⟩:=a7y r;exact PySem.P.str_of_int hz ⟨.str _,H,I.tok _,⟨_,rfl⟩,q⟩
end
end L2
namespace L2
open PySem PySem.Spec PyProof.Rows
structure ObjM(h:Heap)(x dx C:Addr)(mA:Str->Option Value):Prop where
 obj:h.get? x=some (PySem.W.instObj C dx)
 ns:h.Ns1 dx mA
 ne:dx≠x
theorem b4x{h:Heap}{dx:Addr}{mA:Str->Option Value}(n:h.Ns1 dx mA):∃od,h.get? dx=some od/\∀name,PySem.W.lookIn name od=some (mA name):=by
 obtain⟨o,es,ep,ho,hd,hk,_,hm⟩:=n;refine⟨o,ho,λname=>?_⟩;have e:=hm name;unfold nsFind findBy at e;rw[<- Array.find?_toList] at e;unfold PySem.W.lookIn;rw[hd];dsimp only;split
 ·rename_i y q
  rw[q] at e;exact congrArg some e
 ·rename_i q
  rw[q] at e;have a:es.toList.any (·.refKey)=false:=by
   rw[List.any_eq_false];intro y hy;obtain⟨z,t,hkey⟩:=hk y (Array.mem_toList_iff.mp hy);simp[DictEntry.refKey,hkey]
  have a':¬ es.toList.any (·.refKey)=true:=by rw[a];exact Bool.false_ne_true
  rw[if_neg a'];exact congrArg some e
theorem ObjM.look{h:Heap}{x dx C:Addr}{mA:Str->Option Value}(I:ObjM h x dx C mA):∃od,PySem.W.InstAt h x (PySem.W.instObj C dx) C (some od)/\∀name,PySem.W.lookIn name od=some (mA name) :=
 let ⟨od,ho,hl⟩:=b4x I.ns
 ⟨od,⟨I.obj,rfl,rfl,ho⟩,hl⟩
section
variable{prog:Program}{w:World}{A:Around}{E:Value->Shared->Prop}{s:Shared}{K:Frag}{x dx C f:Addr}{mA:Str->Option Value}{name:Str}{v:Value}
end
section
variable{P:Program}{w:World}{H H':Hp}{h h':Heap}{a C dx:Addr}{fs fs':List (Str×V)}
theorem b9q(hok:HOk P w H h)(e:H a=some (.ins C dx fs)):∃mA,ObjM h a dx C mA/\(∀f,c4k (fs.lookup f) (mA f))/\PySem.Within mA (fs.map (·.1))/\fs.length<=1000/\H dx=some (.own a):=by
 obtain⟨d,z,ne,ob,mA,n,r,q⟩:=(show ObjOk P w H h a (.ins C dx fs) from hok a _ e);exact⟨mA,⟨ob,n,ne⟩,r,q,z,d⟩
end
structure Cls(K:Frag)(C:Addr):Prop where
 pg:plainGet K C Str.empty=true
 hd:hasDictIn K C=true
 po:plainOver K C=true
 sa:findIn K (.ref C) "__setattr__" = some (some (.builtin "object.__setattr__"))
theorem Cls.get{K:Frag}{C:Addr}(c:Cls K C)(f:Str):plainGet K C f=true:=c.pg
section
variable{X:Cx}{pins:List (Addr×Obj)}{σ:St}{H:Hp}{s:Shared}{a C dx:Addr}{fs:List (Str×V)}{f:Str}{v:V}{A:Around}{E:Value->Shared->Prop}
end
section
variable{X:Cx}{o e value:Expr}{f:Str}{pos pos' tpos:Pos}{ta tv:TE}
end
section
variable{X:Cx}{pins:List (Addr×Obj)}{σ:St}{H:Hp}{s:Shared}{A:Around}{E:Value->Shared->Prop}{Q:Value->Shared->Prop}{c:Value}{b:Bool}
inductive b3n(K:Frag)(H:Hp):V->Value->Prop where
 | non:b3n K H .non (.type "NoneType")
 | bl (x:Bool):b3n K H (.bl x) (.type "bool")
 | int (i:Int):b3n K H (.int i) (.type "int")
 | str (x:Str):b3n K H (.str x) (.type "str")
 | flt (x:UInt64):b3n K H (.flt x) (.type "float")
 | lst {a:Addr} {xs:List V} (e:H a=some (.lst xs)):b3n K H (.ref a) (.type "list")
 | frz {a:Addr} {o:Obj} {xs:List V} (e:H a=some (.frz o (.lst xs))):b3n K H (.ref a) (.type "list")
 | tup {a:Addr} {xs:List V} (e:H a=some (.tup xs)):b3n K H (.ref a) (.type "tuple")
 | dK {a:Addr} {kvs:List (Key×V)} (e:H a=some (.dK kvs)):b3n K H (.ref a) (.type "dict")
 | dT {a:Addr} {kvs:List (List Key×V)} (e:H a=some (.dT kvs)):b3n K H (.ref a) (.type "dict")
 | ins {a C dx:Addr} {fs:List (Str×V)} (e:H a=some (.ins C dx fs)) (cl:Cls K C) (ha:findIn K (.ref C) "__class__" = some (some (.builtin "object.__class__")))
   (hn:specialIn K (.builtin "object.__class__") "__get__" = some (some (.builtin "getset_descriptor.__get__"))) (htk:PySem.W.takesIn K (.builtin "object.__class__")=some true)
   (hm:mroIn K C (.type "object")=some true):b3n K H (.ref a) (.ref C)
theorem b5d{x:V}{u t:Value}(I:Inv X pins σ H s)(rx:RelV x u)(ty:b3n X.K H x t)(e:kitOne X.K t c=some b)(h:∀tk,Q (.bool b) { s with toks:=tk }):
  wpAny (model X.prog X.w) A (call (.builtin "isinstance") [u,c]) Q E s:=by
 cases ty with
 | non=>cases (show u=Value.none from rx);exact kia_one PySem.W.kitx_none I.kIn True.intro e (λz=>nomatch z) h
 | bl y=>cases (show u=Value.bool y from rx);exact kia_one PySem.W.kitx_bool I.kIn True.intro e (λz=>nomatch z) h
 | int i=>obtain⟨t,q⟩:=(show ∃t,u=Value.int i t from rx);cases q;exact kia_one PySem.W.kitx_int I.kIn True.intro e (λz=>nomatch z) h
 | str y=>obtain⟨t,q⟩:=(show ∃t,u=Value.str y t from rx);cases q;exact kia_one PySem.W.kitx_str I.kIn True.intro e (λz=>nomatch z) h
 | flt y=>obtain⟨t,q⟩:=(show ∃t,u=Value.float y t from rx);cases q;exact kia_one PySem.W.kitx_float I.kIn True.intro e (λz=>nomatch z) h
 | @lst a xs ea=>
  cases (show u=Value.ref a from rx);obtain⟨_,_,n,_,h1⟩:=(show ObjOk X.prog X.w H s.heap a (.lst xs) from I.hok a _ ea);exact kia_one PySem.W.kitx_list I.kIn ⟨_,h1,rfl⟩ e (λz=>nomatch z) h
 | @frz a ob xs ea=>
  cases (show u=Value.ref a from rx);obtain⟨_,_,_,n,_,h1⟩:=(show ObjOk X.prog X.w H s.heap a (.frz ob (.lst xs)) from I.hok a _ ea);exact kia_one PySem.W.kitx_list I.kIn ⟨_,h1,rfl⟩ e (λz=>nomatch z) h
 | @tup a xs ea=>
  cases (show u=Value.ref a from rx);obtain⟨_,_,_,p⟩:=(show ObjOk X.prog X.w H s.heap a (.tup xs) from I.hok a _ ea);obtain⟨o,h1,h2,_⟩:=p;exact kia_one PySem.W.kitx_tuple I.kIn ⟨o,h1,h2⟩ e (λz=>nomatch z) h
 | @dK a kvs ea=>
  cases (show u=Value.ref a from rx);obtain⟨_,_,vs,_,p⟩:=(show ObjOk X.prog X.w H s.heap a (.dK kvs) from I.hok a _ ea);obtain⟨o,es,ep,h1,h2,_⟩:=p;exact kia_one PySem.W.kitx_dict I.kIn ⟨o,h1,h2.1⟩ e (λz=>nomatch z) h
 | @dT a kvs ea=>
  cases (show u=Value.ref a from rx);obtain⟨_,_,xs,_,o,es,ep,h1,h2,_⟩:=(show ObjOk X.prog X.w H s.heap a (.dT kvs) from I.hok a _ ea);exact kia_one PySem.W.kitx_dict I.kIn ⟨o,h1,h2.1⟩ e (λz=>nomatch z) h
 | @ins a C dx fs ea cl ha hn htk hm=>
  cases (show u=Value.ref a from rx);obtain⟨mA,O,_⟩:=b9q I.hok ea;obtain⟨od,J,_⟩:=O.look;exact kia_one (PySem.W.kitx_own (cl.get _) cl.hd ha hn htk hm) I.kIn J e (λz=>nomatch z) h
end
end L2
namespace L2
open PySem PySem.Spec PyProof.Rows
structure Room(k:Nat)(A:Around):Prop where
 hd:A.handled=none
 dp:A.depth+3*k+5<recursionLimit
 un:A.units+16*k+200<cLine
theorem Room.mono{j k:Nat}{A:Around}(r:Room k A)(h:j<=k):Room j A:=⟨r.hd,by have:=r.dp;lia,by have:=r.un;lia⟩
theorem Room.deeper{k:Nat}{A:Around}(r:Room (k+1) A)(env:Env):Room k (A.deeper env) :=
 ⟨r.hd,by have:=r.dp;show A.depth+1+3*k+5<_;lia,by have:=r.un;show A.units+3+16*k+200<_;lia⟩
theorem Room.depth{k:Nat}{A:Around}(r:Room k A):A.depth<recursionLimit:=by have:=r.dp;lia
def c4r:TA:=λ_ H Q=>Q [] H
def c0t(ta:TE)(tr:TA):TA:=λσ H Q=>ta σ H λx H1=>tr σ H1 λxs H2=>Q (x::xs) H2
section
variable{X:Cx}{e:Expr}{es:List Expr}{te:TE}{t:TA}{pos:Pos}
theorem d3:PA X [] c4r:=λ_ _ _ _ H Q I h=>Calls.spliced_nil ⟨[],H,I,.nil,h⟩
theorem b0(ha:PE X e te)(hr:PA X es t)(hs:starEach (e::es) X.env=(false,eval e X.env)::starEach es X.env:=by rfl):PA X (e::es) (c0t te t):=by
 intro pos pins s σ H Q I h;rw[hs];show wpAny _ _ (spliced ((false,eval e X.env)::backTo pos (starEach es X.env))) _ _ s;refine Calls.spliced_cons (thn (ha pins s σ H _ I h) λu s1 z0_=>?_);obtain⟨x,H1,I1,r1,q1⟩:=z0_;exact thn (hr pos pins s1 σ H1 _ I1 q1) λus s2 z0_=>by obtain⟨xs,H2,I2,r2,q2⟩:=z0_;exact⟨x::xs,H2,I2,.cons r1 r2,q2⟩
def c4n(t:TA):TE:=λσ H Q=>t σ H λxs H1=>xs.length<=sizeLine/\∀p,H1 p=none->Q (.ref p) (upd H1 p (.tup xs))
def c4s(t:TA):TE:=λσ H Q=>t σ H λxs H1=>xs.length<=sizeLine/\∀p,H1 p=none->Q (.ref p) (upd H1 p (.lst xs))
theorem a5f{x1}(h:PA X es t):PE X (.Tuple es x1 pos) (c4n t):=by
 intro pins s σ H Q I hq;refine wpAny_Tuple_spliced (thn (h pos pins s σ H _ I hq) λus s1 ⟨xs,H1,I1,r,z,q⟩=>⟨by rw[<- r.length];exact z,?_⟩)
 have hf:H1 s1.heap.objs.size=none:=I1.hok.fresh (Nat.le_refl _);refine⟨.ref s1.heap.objs.size,upd H1 s1.heap.objs.size (.tup xs),I1.laid (t':=s1.toks) (λb u e=>Heap.get?_push_of_some _ e) (Nat.le_refl _) ?_,rfl,q _ hf⟩;exact⟨z,us,r,⟨_,Heap.get?_push_size _ rfl,rfl,_,rfl⟩⟩
theorem j8(h:PA X es t):PE X (.List es pos) (c4s t):=by
 intro pins s σ H Q I hq;refine wpAny_List_spliced (thn (h pos pins s σ H _ I hq) λus s1 ⟨xs,H1,I1,r,z,q⟩=>⟨by rw[<- r.length];exact z,?_⟩)
 have hf:H1 s1.heap.objs.size=none:=I1.hok.fresh (Nat.le_refl _);refine⟨.ref s1.heap.objs.size,upd H1 s1.heap.objs.size (.lst xs),I1.laid (t':=s1.toks) (λb u e=>Heap.get?_push_of_some _ e) (Nat.le_refl _) ?_,rfl,q _ hf⟩;exact⟨z,us,0,r,Heap.get?_push_size _ rfl⟩
end
abbrev Sp:=List V->Hp->VK->XK->Prop
abbrev CXT:=List Env->Hp->Shared->XK->Value->Shared->Prop
structure c2z(P:Program)(w:World)(K:Frag)(mg:Str->Option Value)(base:Heap)(A:Around)(outer:List Env)(s:Shared)(H:Hp):Prop where
 frames:A.frames=some outer
 mod:Mod K mg base
 bs:∀b o,base.get? b=some o->s.heap.get? b=some o/\H b=none
 bsz:base.objs.size<=s.heap.objs.size
 funs:s.heap.FunFrames base outer
 frf:∀b∈frs outer,H b=none
 hok:HOk P w H s.heap
 bare:AllBare s.gens
def CE(outer:List Env)(P:Program)(w:World)(H:Hp)(s:Shared)(Q:VK)(u:Value)(s':Shared):Prop :=
 ∃v H',s'.os=s.os/\AllBare s'.gens/\Un (frs outer) [] H H' s.heap s'.heap/\HOk P w H' s'.heap/\RelV v u/\Q v H'
def CR(CX:CXT)(outer:List Env)(P:Program)(w:World)(H:Hp)(s:Shared)(Q:VK)(E:XK)(r:Result)(s':Shared):Prop :=
 match r with
 | .ok (.ret u)=>CE outer P w H s Q u s'
 | .ok _=>False
 | .error e=>CX outer H s E e s'
structure b6c(P:Program)(w:World)(K:Frag)(mg:Str->Option Value)(base:Heap)(CX:CXT)(k:Nat)(f:Addr)(fd:FuncData)(ps:List Str)(sp:Sp):Prop where
 len:∀vs H Q E,sp vs H Q E->vs.length=ps.length
 run:∀(A:Around)(outer:List Env)(s:Shared)(H:Hp)(args:Args)(us:List Value)(vs:List V)(Q:VK)(E:XK),Room k A->c2z P w K mg base A outer s H->BindsTo s fd args (ps.zip us)->Vals vs us->sp vs H Q E ->
  codeAny (model P w) A (.call (.ref f) args) (CR CX outer P w H s Q E) s
section
variable{X:Cx}{pins:List (Addr×Obj)}{σ:St}{H:Hp}{s s':Shared}
theorem Inv.env0(I:Inv X pins σ H s):c2z X.prog X.w X.K X.mg X.base X.A X.stack s H :=
 ⟨I.ok.frames,I.ok.mod,I.bs,Nat.le_trans I.ok.bsz I.sz,I.stack,I.stkFree,I.hok,I.bare⟩
theorem Inv.after{Q:VK}{u:Value}(I:Inv X pins σ H s)(h:CE X.stack X.prog X.w H s Q u s'):EP X pins σ Q u s':=by
 obtain⟨v,H',os,bare,un,hok,r,q⟩:=h;obtain⟨hh,g,d,t,os'⟩:=s';obtain rfl:os'=s.os:=os;exact⟨v,H',I.call (h':=hh) (g':=g) (d':=d) (t':=t) (ch:=[]) un hok bare (λb z=>absurd z (by simp)),r,q⟩
end
def c3c(sp:Sp)(dvs:List V)(E:XK)(t:TA):TE:=λσ H Q=>t σ H λvs H1=>sp (vs++dvs) H1 Q E
def Binds(K:Frag)(fd:FuncData)(ps:List Str)(ds:List Value):Prop :=
 ∀(s:Shared)(us:List Value),K.In s.heap->(us++ds).length=ps.length->BindsTo s fd ⟨us,[]⟩ (ps.zip (us++ds))
theorem Binds.all{K:Frag}{fd:FuncData}{ps:List Str}(h:∀us:List Value,us.length=ps.length->bindArgs fd ⟨us,[]⟩=pure (ps.zip us)):Binds K fd ps []:=λs us _ hl=>by
 rw[List.append_nil] at hl ⊢;exact .of_eq (h us hl)
def a6s(CX:CXT)(X:Cx)(E:XK):Prop:=∀(pins:List (Addr×Obj))(σ:St)(H:Hp)(s:Shared)(e:Value)(s':Shared),Inv X pins σ H s->CX X.stack H s E e s'->X.xe e s'
section
variable{X:Cx}{CX:CXT}{k:Nat}{f C:Addr}{fd:FuncData}{ps:List Str}{sp:Sp}{dvs:List V}{ds:List Value}{E:XK}{x m:Str}{p pos apos:Pos}{e o:Expr}{es:List Expr}{ta:TE}{t:TA}
theorem c0w{pins:List (Addr×Obj)}{σ:St}{H:Hp}{s:Shared}{Q:VK}{us:List Value}{vs:List V}(F:b6c X.prog X.w X.K X.mg X.base CX k f fd ps sp)(hr:Room k X.A)(hb:Binds X.K fd ps ds)(hd:Vals dvs ds)(hx:a6s CX X E)(I:Inv X pins σ H s)(r:Vals vs us)(h:sp (vs++dvs) H Q E):wpAny (model X.prog X.w) X.A (call (.ref f) us) (EP X pins σ Q) X.xe s:=by
 have r2:Vals (vs++dvs) (us++ds):=r.append hd;have hl:(us++ds).length=ps.length:=by rw[<- r2.length];exact F.len _ _ _ _ h
 refine wpAny_call (codeAny_mono (F.run X.A X.stack s H ⟨us,[]⟩ (us++ds) (vs++dvs) Q E hr I.env0 (hb s us I.kIn hl) r2 h) λr s' hq=>?_);cases r with
 | error e=>exact hx pins σ H s e s' I hq
 | ok fl=>
  cases fl with
  | ret u=>exact I.after hq
  | next=>exact False.elim hq
  | brk=>exact False.elim hq
  | cont=>exact False.elim hq
theorem b9f(F:b6c X.prog X.w X.K X.mg X.base CX k f fd ps sp)(hr:Room k X.A)(hg:Gl X x)(hm:X.mg x=some (.ref f))(hk:keepIn X.K (.ref f)=true)(hb:Binds X.K fd ps ds)(hd:Vals dvs ds)(hx:a6s CX X E)(ha:PA X (e::es) t)(hdb:(x == ("__debug__":Str))=false:=by decide)(he:starEach (e::es) X.env=(false,eval e X.env)::starEach es X.env:=by rfl)(hpl:(backTo pos (starEach es X.env)).any (·.1)=false:=by rfl):
  PE X (.Call (.Name x p) (e::es) [] pos) (c3c sp dvs E t):=by
 intro pins s σ H Q I h;refine wpAny_Call_Name_kw (a5n I hg hm ?_ hdb);refine callWith_K (h₀:=X.base) I.ok.mod.kin hk (thn (ha pos pins s σ H _ I h) λus s1 z0_=>?_) he hpl;obtain⟨vs,H1,I1,r,q⟩:=z0_;refine⟨I1.kIn,?_⟩;exact c0w F hr hb hd hx I1 r q
end
section
variable{X:Cx}{CX:CXT}{k:Nat}{f C:Addr}{fd:FuncData}{ps ks:List Str}{sp:Sp}{E:XK}{x m:Str}{p pos apos kpos:Pos}{e o:Expr}{es:List Expr}{kws:List Keyword}{te ta:TE}{t tk:TA}{nm:Option Str}
variable{g:List Value->List Value->List Value}{gV:List V->List V->List V}
end
structure g6(N P:List Str)(sc:Scope):Prop where
 kind:sc.kind=.function
 co:sc.isCoroutine=false
 gen:sc.isGenerator=false
 nd:N.Nodup
 pre:N.take P.length=P
 par:∀x∈P,sc.names.lookup x=some .local\/sc.names.lookup x=some .cell
 nofree:∀y∈sc.names,y.2≠.free
theorem b0b{kindOf:Str->Option NameKind}{x:Str}:∀{binds:List (Str×Value)}{m:Str->Option Value},(∀v,(x,v) ∉ binds)->bindL kindOf binds m x=m x
 | [],_,_=>rfl
 | (n,v)::r,m,h=>by
  unfold bindL;rw[b0b λw hw=>h w (List.mem_cons_of_mem _ hw)];split
  ·have:x≠n:=by rintro rfl;exact h v List.mem_cons_self
   simp[this]
  ·rfl
theorem b0d{kindOf:Str->Option NameKind}{x:Str}:∀{binds:List (Str×Value)}{m:Str->Option Value},(∀v,(x,v) ∉ binds)->bindC kindOf binds m x=m x
 | [],_,_=>rfl
 | (n,v)::r,m,h=>by
  unfold bindC;rw[b0d λw hw=>h w (List.mem_cons_of_mem _ hw)];split
  ·rfl
  ·have:x≠n:=by rintro rfl;exact h v List.mem_cons_self
   simp[this]
theorem b0c{kindOf:Str->Option NameKind}{x:Str}{v:Value}:∀{P:List Str}{vs:List Value}{i:Nat}{m:Str->Option Value},P.Nodup->P[i]?=some x->vs[i]?=some v->kindOf x=some .local ->
  bindL kindOf (P.zip vs) m x=some v
 | [],_,_,_,_,h,_,_=>by simp at h
 | _::_,[],_,_,_,_,h,_=>by simp at h
 | p::P,w::vs,0,m,nd,h1,h2,hk=>by
  simp at h1 h2;subst h1;subst h2;show bindL kindOf ((p,w)::P.zip vs) m p=_;unfold bindL;rw[b0b λv hv=>(List.nodup_cons.mp nd).1 (List.of_mem_zip hv).1,if_pos hk];simp
 | p::P,w::vs,i+1,m,nd,h1,h2,hk=>by
  show bindL kindOf ((p,w)::P.zip vs) m x=_;unfold bindL;exact b0c (i:=i) (List.nodup_cons.mp nd).2 (by simpa using h1) (by simpa using h2) hk
theorem b0e{kindOf:Str->Option NameKind}{x:Str}{v:Value}:∀{P:List Str}{vs:List Value}{i:Nat}{m:Str->Option Value},P.Nodup->P[i]?=some x->vs[i]?=some v->kindOf x≠some .local ->
  bindC kindOf (P.zip vs) m x=some v
 | [],_,_,_,_,h,_,_=>by simp at h
 | _::_,[],_,_,_,_,h,_=>by simp at h
 | p::P,w::vs,0,m,nd,h1,h2,hk=>by
  simp at h1 h2;subst h1;subst h2;show bindC kindOf ((p,w)::P.zip vs) m p=_;unfold bindC;rw[b0d λv hv=>(List.nodup_cons.mp nd).1 (List.of_mem_zip hv).1,if_neg hk];simp
 | p::P,w::vs,i+1,m,nd,h1,h2,hk=>by
  show bindC kindOf ((p,w)::P.zip vs) m x=_;unfold bindC;exact b0e (i:=i) (List.nodup_cons.mp nd).2 (by simpa using h1) (by simpa using h2) hk
def start(N:List Str)(vs:List V):St:=vs.map some++List.replicate (N.length-vs.length) none
def a4h(CX:CXT)(P:Program)(w:World)(K:Frag)(mg:Str->Option Value)(base:Heap)(N:List Str)(qual:Str)(scope:Scope)(f:Addr)(cd:Value)(A:Around)(outer:List Env)(s:Shared)(H:Hp)(E:XK):Cx where
 prog:=P
 w:=w
 K:=K
 mg:=mg
 base:=base
 A:=A.deeper (envOfC qual scope s.heap.objs.size f cd)
 N:=N
 s₀:=s
 H₀:=H
 env:=envOfC qual scope s.heap.objs.size f cd
 outer:=outer
 stack:=envOfC qual scope s.heap.objs.size f cd::outer
 ex:=[]
 calm:=true
 fn:=λ_=>true
 pn:=[]
 xe:=λe s'=>wpAny (model P w) (A.deeper (envOfC qual scope s.heap.objs.size f cd)) (leaving (envOfC qual scope s.heap.objs.size f cd) e) (λ_ s''=>CX outer H s E e s'') (λe' s''=>CX outer H s E e' s'') s'
theorem b2q{sc:Scope}{n:Nat}{x:Str}(h:sc.names.lookup x=some .cell):∃c,(cellsFrom n sc.names []).lookup x=some c:=by
 have q:=PySem.W.cellsFrom_some sc.names n [] (.inl h);exact Option.isSome_iff_exists.mp q
theorem b5e{CX:CXT}{P:Program}{w:World}{K:Frag}{mg:Str->Option Value}{base:Heap}{N ps:List Str}{qual:Str}{scope:Scope}{f:Addr}{cd:Value}{A:Around}{outer:List Env}{s s1:Shared}{H:Hp}{E:XK}{us:List Value}{vs:List V}(S:g6 N ps scope)(hd:A.handled=none)(e0:c2z P w K mg base A outer s H)(hl:vs.length=ps.length)(r:Vals vs us)(x:InCallC s s.heap.objs.size (bindL (envOfC qual scope s.heap.objs.size f cd).kindOf (ps.zip us) λ_=>none) (cellsFrom (s.heap.objs.size+1) scope.names []) (bindC (envOfC qual scope s.heap.objs.size f cd).kindOf (ps.zip us) λ_=>none) s1):
  Inv (a4h CX P w K mg base N qual scope f cd A outer s H E) [] (start N vs) H s1:=by
 have hpl:ps.length<=N.length:=by have:=congrArg List.length S.pre;rw[List.length_take] at this;lia
 obtain⟨h1,tk,rfl,hk⟩:=x.done;have noA:∀b:Addr,b ∉ (a4h CX P w K mg base N qual scope f cd A outer s H E).ex:=λb z=>absurd (show b∈([]:List Addr) from z) (by simp)
 refine⟨⟨e0.mod,S.kind,rfl,rfl,Nat.le_refl _,λy z c h1 h2=>?_,λy hy=>?_,λy c _ h=>?_,λ_=>hd,Around.frames_deeper e0.frames,.inr ⟨rfl,rfl⟩,λb z=>absurd z (noA b),e0.bs,e0.bsz,λb _ _=>noA b,λb z=>absurd z (noA b),e0.funs,e0.frf⟩,
  rfl,e0.bare,Un.kept hk,⟨_,x.toInCall.ns,λi y v h1 h2 h3=>?_⟩,λy c h=>⟨_,x.cell y c h⟩,e0.hok.fresh (Nat.le_refl _),λy c h=>?_,λp hp=>absurd (show p∈([]:List (Addr×Obj)) from hp) (by simp),e0.hok.kept hk,?_⟩
 ·exact name_of_addr x.apart (PySem.mem_of_lookup h1) (PySem.mem_of_lookup h2)
 ·have hy:scope.names.lookup y=some .cell\/scope.names.lookup y=some .free:=hy
  rcases hy with hy|hy
  ·exact b2q hy
  ·exact absurd rfl (S.nofree _ (PySem.mem_of_lookup hy))
 ·exact Nat.le_of_lt (x.above y c (PySem.mem_of_lookup h))
 ·have hi:i<vs.length:=by
   unfold start at h2;by_cases hi:i<vs.length
   ·exact hi
   ·rw[List.getElem?_append_right (by simpa using hi)] at h2
    rw[List.getElem?_replicate] at h2;split at h2 <;> cases h2
  have ha:vs[i]?=some v:=by
   unfold start at h2;rw[List.getElem?_append_left (by simpa using hi),List.getElem?_map] at h2
   cases e:vs[i]? with
   | none=>rw[e] at h2;cases h2
   | some a=>rw[e] at h2;cases h2;rfl
  obtain⟨u,hu,rv⟩:=r.get ha;have hp:ps[i]?=some y:=by
   rw[<- S.pre,List.getElem?_take_of_lt (by lia)];exact h1
  have ndP:ps.Nodup:=by rw[<- S.pre];exact S.nd.sublist (List.take_sublist _ _)
  refine⟨u,rv,?_⟩;rcases S.par y (List.mem_of_getElem? hp) with k|k
  ·exact .inl ⟨k,b0c ndP hp hu k⟩
  ·obtain⟨c,e⟩:=b2q (n:=s.heap.objs.size+1) k
   refine .inr ⟨.inl k,c,e,?_⟩;have q:=x.cell y c e;rw[b0e ndP hp hu (by show scope.names.lookup y≠_;rw[k];decide)] at q
   exact q
 ·exact e0.hok.fresh (Nat.le_of_lt (x.above y c (PySem.mem_of_lookup h)))
 ·unfold start
  show _=N.length;rw[List.length_append,List.length_map,List.length_replicate];lia
theorem c4h{CX:CXT}{P:Program}{w:World}{K:Frag}{mg:Str->Option Value}{base:Heap}{k:Nat}{f:Addr}{name qual:Str}{params:Arguments}{body:List Stmt}{scope:Scope}{dV kV doc pm cdv ct oc:Value}{an od:Option Addr}{osl:Array (Option Value)}{N ps:List Str}{sp:Sp}(lk:K.lookup f=some ⟨oc,od,.func (PySem.W.fnOf name qual params body scope dV kV doc pm an cdv ct),osl⟩)(hcd:codeIn K cdv qual=true)(S:g6 N ps scope)(len:∀vs H Q E,sp vs H Q E->vs.length=ps.length)(hbody:∀(A:Around) (outer:List Env) (s:Shared) (H:Hp) (vs:List V) (Q:VK) (E:XK),Room k (A.deeper (envOfC qual scope s.heap.objs.size f cdv))->sp vs H Q E ->
   ∃t,PSs (a4h CX P w K mg base N qual scope f cdv A outer s H E) body t/\t { nx:=λ_ H'=>Q .non H',rt:=Q } (start N vs) H):
  b6c P w K mg base CX (k+1) f (PySem.W.fnOf name qual params body scope dV kV doc pm an cdv ct) ps sp:=by
 refine⟨len,λA outer s H args us vs Q E hr e0 hb r hsp=>?_⟩;have hl:=len _ _ _ _ hsp;have KX:K.In s.heap:=e0.mod.kin.keeps λb o e=>(e0.bs b o e).1;have lim:s.heap.NoLimit:=e0.mod.nolimit.keeps λb o e=>(e0.bs b o e).1;have hkind:∀y∈ps.zip us,scope.names.lookup y.1=some .local\/(scope.names.lookup y.1=some .cell/\((cellsFrom (s.heap.objs.size+1) scope.names []).lookup y.1).isSome=true):=λ⟨n,v⟩ hy=>by
  rcases S.par n (List.of_mem_zip hy).1 with q|q
  ·exact .inl q
  ·exact .inr ⟨q,PySem.W.cellsFrom_some _ _ _ (.inl q)⟩
 refine codeAny_call_function hr.depth (KX _ _ lk) rfl S.co S.gen rfl (PySem.W.codeRec_of KX hcd) (hb _ _ _ _ ?_);refine wpAny_newFunctionEnv_cells S.kind hkind λenv he s1 x=>?_;subst he;refine⟨lim.keeps x.toInCall.keep,codeAny_func ?_⟩;obtain⟨t,ht,hq⟩:=hbody A outer s H vs Q E (hr.deeper _) hsp;have I:Inv (a4h CX P w K mg base N qual scope f cdv A outer s H E) [] (start N vs) H s1:=b5e S hr.hd e0 hl r x;refine wpAny_mono (ht [] s1 (start N vs) H _ I hq) (λfl s' hs=>?_) λe s' hs=>hs;have fin:∀{σ':St}{H':Hp}{v:V}{u:Value},Inv (a4h CX P w K mg base N qual scope f cdv A outer s H E) [] σ' H' s'->RelV v u->Q v H'->CE outer P w H s Q u s' :=
  λ{σ' H' v u} J rv q=>⟨v,H',J.os,J.bare,J.base,J.hok,rv,q⟩
 cases fl with
 | ret u=>
  obtain⟨v,σ',H',J,rv,q⟩:=hs;exact fin J rv q
 | next=>
  obtain⟨σ',H',J,q⟩:=hs;exact fin (v:=V.non) (u:=Value.none) J rfl q
 | brk=>
  obtain⟨_,_,_,q⟩:=hs;exact False.elim q
 | cont=>
  obtain⟨_,_,_,q⟩:=hs;exact False.elim q
end L2
namespace L2
open PySem PySem.Spec PyProof.Rows
section
variable{X:Cx}{x:Str}{p pos:Pos}{e:Expr}{es:List Expr}{t:TA}{id T:String}{r:List V->Hp->VK->Prop}
def tCB(r:List V->Hp->VK->Prop)(t:TA):TE:=λσ H Q=>t σ H λvs H1=>r vs H1 Q
theorem f9(hc:a0m X (.builtin id) r)(hg:Gl X x)(hm:X.mg x=none)(hv:bootBuiltins x=some (.builtin id))(ha:PA X (e::es) t)(hn:x≠"__name__":=by decide)(hdb:(x == ("__debug__":Str))=false:=by decide)(he:starEach (e::es) X.env=(false,eval e X.env)::starEach es X.env:=by rfl)(hpl:(backTo pos (starEach es X.env)).any (·.1)=false:=by rfl):PE X (.Call (.Name x p) (e::es) [] pos) (tCB r t):=by
 intro pins s σ H Q I h;refine wpAny_Call_Name_kw (a6k I hg hm hv ?_ hn hdb);exact PyProof.Rows.callWith_builtin1 (thn (ha pos pins s σ H _ I h) λus s1 z0_=>by obtain⟨vs,H1,I1,r1,q1⟩:=z0_;exact hc pins s1 σ H1 vs us Q I1 r1 q1) he hpl
theorem p8(hc:a0m X (.type T) r)(hg:Gl X x)(hm:X.mg x=none)(hv:bootBuiltins x=some (.type T))(ha:PA X (e::es) t)(hn:x≠"__name__":=by decide)(hdb:(x == ("__debug__":Str))=false:=by decide)(he:starEach (e::es) X.env=(false,eval e X.env)::starEach es X.env:=by rfl)(hpl:(backTo pos (starEach es X.env)).any (·.1)=false:=by rfl):PE X (.Call (.Name x p) (e::es) [] pos) (tCB r t):=by
 intro pins s σ H Q I h;refine wpAny_Call_Name_kw (a6k I hg hm hv ?_ hn hdb);exact PyProof.Rows.callWith_type1 (thn (ha pos pins s σ H _ I h) λus s1 z0_=>by obtain⟨vs,H1,I1,r1,q1⟩:=z0_;exact hc pins s1 σ H1 vs us Q I1 r1 q1) he hpl
end
end L2
namespace HT
open PySem PyProof.Rows
section
open PySem.SeqAt
open PySem.AutoSeq1 (wpAny_loadPart')
open PySem.MeetsSeq PySem.MeetsSeq2 PySem.MeetsSeq3
end
section
variable{prog:Program}{w:World}{A:Around}{E:Value->Shared->Prop}{s:Shared}
def sIx(n d:Nat):Option Int->Nat
 | none=>d
 | some v=>if v<0 then (v+(n:Int)).toNat else min v.toNat n
end
end HT
namespace L2
open PySem PySem.Spec PyProof.Rows
abbrev TO:=St->Hp->(Option Int->Hp->Prop)->Prop
def PO(X:Cx)(e:Option Expr)(t:TO):Prop :=
 ∀(pins:List (Addr×Obj))(s:Shared)(σ:St)(H:Hp)(Q:Option Int->Hp->Prop),Inv X pins σ H s->t σ H Q ->
  wpAny (model X.prog X.w) X.A (evalPart e X.env) (λu s'=>∃o H',Inv X pins σ H' s'/\IsPart u o/\Q o H') X.xe s
def b3v:TO:=λ_ H Q=>Q none H
def c0q(t:TE):TO:=λσ H Q=>t σ H λx H1=>∃i,x=.int i/\Q (some i) H1
section
variable{X:Cx}{e:Expr}{te:TE}{lo hi:Option Expr}{tl th:TO}{pos p2:Pos}
theorem z0:PO X none b3v:=by
 intro pins s σ H Q I h;rw[evalPart_none];exact wpAny_pure ⟨none,H,I,.none,h⟩
theorem m4(h:PE X e te):PO X (some e) (c0q te):=by
 intro pins s σ H Q I hw;rw[evalPart_some];refine thn (h pins s σ H _ I hw) λu s1 z0_=>?_;obtain⟨x,H1,I1,r1,q1⟩:=z0_;obtain⟨i,rfl,q⟩:=q1;obtain⟨t,rfl⟩:=r1;exact⟨some i,H1,I1,.int i t,q⟩
def SlR(X:Cx)(r:V->Option Int->Option Int->Hp->VK->Prop):Prop :=
 ∀(pins:List (Addr×Obj))(s:Shared)(σ:St)(H:Hp)(x:V)(v vl vu:Value)(lo hi:Option Int)(sl:Addr)(Q:VK),Inv X pins σ H s->RelV x v->s.heap.IsSliceOf sl vl vu .none->IsPart vl lo->IsPart vu hi->r x lo hi H Q ->
  ∃T id,typeLookup (.type T) "__getitem__" = pure (some (.builtin id))/\s.TypeIs v T/\wpAny (model X.prog X.w) X.A (getItem v (.ref sl)) (EP X pins σ Q) X.xe s
def tSl(r:V->Option Int->Option Int->Hp->VK->Prop)(te:TE)(tl th:TO):TE:=λσ H Q=>te σ H λx H1=>tl σ H1 λl H2=>th σ H2 λu H3=>r x l u H3 Q
theorem n6{r:V->Option Int->Option Int->Hp->VK->Prop}(hr:SlR X r)(he:PE X e te)(hl:PO X lo tl)(hu:PO X hi th):PE X (.Subscript e (.Slice lo hi none p2) pos) (tSl r te tl th):=by
 intro pins s σ H Q I h;refine Subscript_ (thn (he pins s σ H _ I h) λv s1 z0_=>?_);obtain⟨x,H1,I1,r1,q1⟩:=z0_;refine wpAny_Slice (thn (hl pins s1 σ H1 _ I1 q1) λvl s2 z0_=>?_);obtain⟨l,H2,I2,pl,q2⟩:=z0_;refine thn (hu pins s2 σ H2 _ I2 q2) λvu s3 z1_=>?_;obtain⟨u,H3,I3,pu,q3⟩:=z1_;rw[evalPart_none];refine wpAny_pure ?_;have I4:Inv X pins σ H3 { s3 with heap:=s3.heap.push { cls:=.type "slice",data:=.fields #[vl,vu,.none] } }:=I3.kept (t':=s3.toks) λb ob q=>Heap.get?_push_of_some _ q
 obtain⟨T,id,hT,ht,hg⟩:=hr pins { s3 with heap:=s3.heap.push { cls:=.type "slice",data:=.fields #[vl,vu,.none] } } σ H3 x v vl vu l u s3.heap.objs.size Q I4 r1 (Heap.IsSliceOf.new ..) pl pu q3
 show wpAny (model X.prog X.w) X.A (subscriptTail e (.Slice lo hi none p2) v (.ref s3.heap.objs.size)) (EP X pins σ Q) X.xe { s3 with heap:=s3.heap.push { cls:=.type "slice",data:=.fields #[vl,vu,.none] } }
 exact tail_any (ops:=[.ref s3.heap.objs.size,v]) ht hT hg (by with_unfolding_all rfl)
def b7r(xs:List V)(lo hi:Option Int):List V:=(xs.drop (HT.sIx xs.length 0 lo)).take (HT.sIx xs.length xs.length hi-HT.sIx xs.length 0 lo)
theorem b1b(xs:List V)(lo hi:Option Int):(b7r xs lo hi).length<=xs.length:=by
 unfold b7r;rw[List.length_take,List.length_drop];lia
end
end L2
namespace L2
open PySem PySem.Spec PyProof.Rows
def ixN(n:Nat)(i:Int):Option Nat:=if 0<=i then (if i<n then some i.toNat else none) else if -(n:Int)<=i then some (i+n).toNat else none
def atI{α:Type}(xs:List α)(i:Int):Option α:=(ixN xs.length i).bind λj=>xs[j]?
theorem b5b{n:Nat}{i:Int}{j:Nat}(h:ixN n i=some j):seqIndex? i n=some j/\j<n/\-(n:Int)<=i/\i<n:=by
 unfold ixN at h;by_cases h0:0<=i
 ·rw[if_pos h0] at h
  by_cases h1:i<n
  ·rw[if_pos h1] at h
   have e:i.toNat=j:=Option.some.inj h;exact⟨by rw[seqIndex_of h0 h1,e],by lia,by lia,h1⟩
  ·rw[if_neg h1] at h;cases h
 ·rw[if_neg h0] at h
  by_cases h1:-(n:Int)<=i
  ·rw[if_pos h1] at h
   have e:(i+n).toNat=j:=Option.some.inj h;exact⟨by rw[seqIndex_neg (by lia) h1,e],by lia,h1,by lia⟩
  ·rw[if_neg h1] at h;cases h
theorem b1i{α:Type}{xs:List α}{i:Int}{v:α}(h:atI xs i=some v):∃j,seqIndex? i xs.length=some j/\xs[j]?=some v/\j<xs.length/\-(xs.length:Int)<=i/\i<xs.length:=by
 unfold atI at h;cases e:ixN xs.length i with
 | none=>rw[e] at h;cases h
 | some j=>
  rw[e] at h;obtain⟨h1,h2,h3,h4⟩:=b5b e;exact⟨j,h1,h,h2,h3,h4⟩
def c0g(b:Expr):Prop:=∀o i,subscripted b false o i=operate [o,i] (getItem o i)
def IxR(X:Cx)(r:R2):Prop :=
 ∀(value slice:Expr)(pins:List (Addr×Obj))(s:Shared)(σ:St)(H:Hp)(x y:V)(v u:Value)(Q:VK),Inv X pins σ H s->RelV x v->RelV y u->r x y H Q ->
  subscripted slice false v u=operate [v,u] (getItem v u)->wpAny (model X.prog X.w) X.A (subscriptTail value slice v u) (EP X pins σ Q) X.xe s
def MtR(X:Cx)(id:String)(r:V->List V->Hp->VK->Prop):Prop :=
 ∀(pins:List (Addr×Obj))(s:Shared)(σ:St)(H:Hp)(x:V)(xs:List V)(v:Value)(us:List Value)(Q:VK),Inv X pins σ H s->RelV x v->Vals xs us->r x xs H Q ->
  wpAny (model X.prog X.w) X.A (call (.builtin id) (v::us)) (EP X pins σ Q) X.xe s
section
variable{X:Cx}{a b:Expr}{ta tb:TE}{pos:Pos}
theorem o0{r:R2}(hr:IxR X r)(ha:PE X a ta)(hb:PE X b tb)(hs:c0g b):PE X (.Subscript a b pos) (tOp r ta tb):=by
 intro pins s σ H Q I h;exact Subscript_ (c4i ha hb I h λv u s2 x y H2 I2 rx ry q=>hr a b pins s2 σ H2 x y v u Q I2 rx ry q (hs _ _))
def c3h(K:Frag):R2:=λx y H Q=>∃p xs i v,x=.ref p/\y=.int i/\SqL K H p xs/\atI xs i=some v/\Q v H
def c3g(K:Frag):R2:=λx y H Q=>∃p xs i v,x=.ref p/\y=.int i/\SqT K H p xs/\atI xs i=some v/\Q v H
def c5l:R2:=λx y H Q=>∃z i c,x=.str z/\y=.int i/\z.length<=sizeLine/\atI z.cps.toList i=some c/\Q (.str ⟨#[c]⟩) H
theorem b9o:IxR X (c3h X.K):=by
 intro value slice pins s σ H x y v u Q I rx ry h hs;obtain⟨p,xs,i,z,rfl,rfl,hq,he,q⟩:=h;cases rx;obtain⟨t,rfl⟩:=ry;obtain⟨its,r,pl,hz⟩:=I.list hq;obtain⟨j,h1,h2,h3,h4,h5⟩:=b1i he;obtain⟨w,ew,rw'⟩:=r.get h2;have hl:=r.length;have hn:=a6j;have fin:EP X pins σ Q w s:=⟨z,H,I,rw',q⟩;by_cases h0:0<=i
 ·have hj:i.toNat=j:=by
   rw[seqIndex_of h0 h5] at h1;exact Option.some.inj h1
  exact item_listR pl.isList h0 (by lia) (by rw[hj];simpa using ew) fin hs
 ·have hj:(i+(its.toArray.size:Int)).toNat=j:=by
   rw[seqIndex_neg (by lia) h4] at h1
   rw[List.size_toArray,<- hl];exact Option.some.inj h1
  exact subscriptTail_builtinR (x:=w) pl.isList.typeIs slot_list_getitem.lookup
   (wpAny_getItem_list_neg (Q:=λr s'=>r=w/\EP X pins σ Q r s') pl.isList (by lia) (by rw[List.size_toArray] <;> lia) (by lia) (by rw[hj];simpa using ew) ⟨rfl,fin⟩) hs
theorem c1q:IxR X (c3g X.K):=by
 intro value slice pins s σ H x y v u Q I rx ry h hs;obtain⟨p,xs,i,z,rfl,rfl,hq,he,q⟩:=h;cases rx;obtain⟨t,rfl⟩:=ry;obtain⟨its,r,pl,hz⟩:=I.tuple hq;obtain⟨j,h1,h2,h3,h4,h5⟩:=b1i he;obtain⟨w,ew,rw'⟩:=r.get h2;have hl:=r.length;have hn:=a6j;have fin:EP X pins σ Q w s:=⟨z,H,I,rw',q⟩;exact subscriptTail_builtinR (x:=w) pl.typeIs slot_tuple_getitem.lookup
  (getItem_tuple (j:=j) (Q:=λr s'=>r=w/\EP X pins σ Q r s') pl (by lia) (by lia) (by rw[List.size_toArray,<- hl];exact h1) (by simpa using ew) ⟨rfl,fin⟩) hs
theorem b5a:IxR X c5l:=by
 intro value slice pins s σ H x y v u Q I rx ry h hs;obtain⟨z,i,c,rfl,rfl,hz,he,q⟩:=h;obtain⟨t,rfl⟩:=rx;obtain⟨t',rfl⟩:=ry;obtain⟨j,h1,h2,h3,h4,h5⟩:=b1i he;have hl:z.cps.toList.length=z.length:=by simp[Str.length]
 rw[hl] at h1 h4 h5;have hn:=a6j;exact tail_any (typeIs_str s z t) slot_str_getitem.lookup (getItem_str (c:=c) (by
  have e1:decide (i < -(2 ^ 63:Int))=false:=decide_eq_false (by lia)
  have e2:decide (i >= 2 ^ 63)=false:=decide_eq_false (by lia)
  rw[e1,e2,Bool.or_false]) (by rw[h1];simpa using h2) ⟨.str ⟨#[c]⟩,H,I.tok _,⟨_,rfl⟩,q⟩) hs
theorem b3i(its:List Value)(n j:Nat)(u:Value):Obj.mapSeq (·.setIfInBounds j u) { cls:=.type "list",data:=.seq its.toArray n }={ cls:=.type "list",data:=.seq (its.set j u).toArray n }:=by
 simp[Obj.mapSeq]
theorem Inv.lst{pins:List (Addr×Obj)}{σ:St}{H:Hp}{s:Shared}{p:Addr}{xs:List V}(I:Inv X pins σ H s)(h:H p=some (.lst xs)):
  ∃(its:List Value)(n:Nat),Vals xs its/\s.heap.get? p=some { cls:=.type "list",data:=.seq its.toArray n }/\xs.length<=sizeLine:=by
 obtain⟨z,its,n,r,e⟩:=I.hok p _ h;exact⟨its,n,r,e,z⟩
theorem Inv.lstUpd{pins:List (Addr×Obj)}{σ:St}{H:Hp}{s:Shared}{p:Addr}{xs ys:List V}{its its':List Value}{n n':Nat}{f:Obj->Obj}(I:Inv X pins σ H s)(h:H p=some (.lst xs))(ho:s.heap.get? p=some { cls:=.type "list",data:=.seq its.toArray n })(hf:f { cls:=.type "list",data:=.seq its.toArray n }={ cls:=.type "list",data:=.seq its'.toArray n' })(r:Vals ys its')(hz:ys.length<=sizeLine)(t:Nat):
  Inv X pins σ (upd H p (.lst ys)) { s with heap:=s.heap.update p f,toks:=t }:=by
 have e:(s.heap.update p f).get? p=some { cls:=.type "list",data:=.seq its'.toArray n' }:=by
  rw[Heap.get?_update_self f ho (by rw[hf] <;> rfl),hf]
 refine I.write (x:=p) (e:=p) (by rw[h];trivial) (.inl rfl) (λb u hb q=>(Heap.get?_update_other _ _ (Ne.symm hb)).trans q) ⟨_,e⟩ ?_
 exact⟨hz,its',n',r,e⟩
def c0x:V->V->V->Hp->(Hp->Prop)->Prop:=λo i v H Q=>∃p xs k j,o=.ref p/\i=.int k/\H p=some (.lst xs)/\ixN xs.length k=some j/\Q (upd H p (.lst (xs.set j v)))
theorem y1:c5h X c0x:=by
 intro pins s σ H o i v ov iv u Q I ro ri rv h;obtain⟨p,xs,k,j,rfl,rfl,hp,hj,q⟩:=h;cases ro;obtain⟨t,rfl⟩:=ri;obtain⟨its,n,r,ho,hz⟩:=I.lst hp;obtain⟨h1,h2,h3,h4⟩:=b5b hj;have hl:=r.length;have hn:=a6j;have I':Inv X pins σ (upd H p (.lst (xs.set j v))) { s with heap:=s.heap.update p (Obj.mapSeq (·.setIfInBounds j u)) } :=
  I.lstUpd hp ho (b3i its n j u) (r.set rv j) (by rw[List.length_set];exact hz) s.toks
 by_cases h0:0<=k
 ·have hk:k.toNat=j:=by
   rw[seqIndex_of h0 h4] at h1;exact Option.some.inj h1
  exact PySem.W.ki_setAt ho h0 (by lia) (by rw[List.size_toArray,<- hl];exact h4) (by rw[hk];exact⟨_,I',q⟩)
 ·have hk:(k+(its.toArray.size:Int)).toNat=j:=by
   rw[seqIndex_neg (by lia) h3] at h1
   rw[List.size_toArray,<- hl];exact Option.some.inj h1
  exact PySem.W.ki_setBack ho (by lia) (by rw[List.size_toArray,<- hl];exact h3) (by lia) (by rw[hk];exact⟨_,I',q⟩)
theorem a8c(lo hi:Option Int)(n:Nat):(sliceBounds lo hi none n).1=((HT.sIx n 0 lo:Nat):Int)/\(sliceBounds lo hi none n).2.1=((HT.sIx n n hi:Nat):Int)/\(sliceBounds lo hi none n).2.2=1:=by
 refine⟨?_,?_,rfl⟩
 ·cases lo with
  | none=>simp[sliceBounds,HT.sIx]
  | some i=>
   simp only[sliceBounds,HT.sIx,Option.getD_none,show(1:Int) > 0 by decide,if_true]
   by_cases h:i<0
   ·simp only[h,if_true] <;> lia
   ·simp only[h,if_false] <;> lia
 ·cases hi with
  | none=>simp[sliceBounds,HT.sIx]
  | some i=>
   simp only[sliceBounds,HT.sIx,Option.getD_none,show(1:Int) > 0 by decide,if_true]
   by_cases h:i<0
   ·simp only[h,if_true] <;> lia
   ·simp only[h,if_false] <;> lia
theorem a6u(its:List Value)(lo hi:Option Int):slicePick its.toArray lo hi none=((its.drop (HT.sIx its.length 0 lo)).take (HT.sIx its.length its.length hi-HT.sIx its.length 0 lo)).toArray:=by
 obtain⟨h1,h2,h3⟩:=a8c lo hi its.toArray.size;unfold slicePick;rw[h1,h2,h3];simp only[sliceRange_one,pick_run,List.size_toArray] <;> rfl
def c4x(K:Frag):V->Option Int->Option Int->Hp->VK->Prop:=λx lo hi H Q=>∃a xs,x=.ref a/\SqL K H a xs/\∀p,H p=none->Q (.ref p) (upd H p (.lst (b7r xs lo hi)))
theorem b8u:SlR X (c4x X.K):=by
 intro pins s σ H x v vl vu lo hi sl Q I rx hs pl pu h;obtain⟨a,xs,rfl,hx,q⟩:=h;cases rx;obtain⟨its,r,ht,hz⟩:=I.list hx;have hlen:=r.length;refine⟨"list",_,slot_list_getitem.lookup,ht.isList.typeIs,?_⟩;refine wpAny_getItem_list_slice ht.isList hs pl pu .none (by simp) ?_ (by rw[List.size_toArray] <;> lia)
 rw[a6u,<- hlen];refine⟨.ref s.heap.objs.size,_,I.laid (t':=s.toks) (o:=.lst (b7r xs lo hi)) (λb ob q=>Heap.get?_push_of_some _ q) (Nat.le_refl _) ?_,rfl,q _ (I.hok.fresh (Nat.le_refl _))⟩;exact⟨Nat.le_trans (b1b xs lo hi) hz,_,0,(r.drop (HT.sIx xs.length 0 lo)).take (HT.sIx xs.length xs.length hi-HT.sIx xs.length 0 lo),Heap.get?_push_size _ rfl⟩
def z9:V->Bool
 | .non=>true
 | .bl _=>true
 | .int _=>true
 | .str _=>true
 | _=>false
def eqV:V->V->Bool
 | .non,.non=>true
 | .bl a,.bl b=>a == b
 | .bl a,.int b=>(if a then 1 else 0) == b
 | .int a,.bl b=>a == (if b then 1 else 0)
 | .int a,.int b=>a == b
 | .str a,.str b=>a == b
 | _,_=>false
theorem b8l{A:Around}{s:Shared}{y x:V}{u v:Value}(ry:RelV y u)(rx:RelV x v)(fy:z9 y=true)(fx:z9 x=true):SeqAt.EqAt A s u v (eqV y x):=by
 cases y with
 | non=>
  cases ry;cases x with
  | non=>cases rx;exact SeqAt.EqAt.same _
  | bl b=>cases rx;exact SeqAt.EqAt.none_bool b
  | int b=>obtain⟨t,rfl⟩:=rx;exact SeqAt.EqAt.none_int b t
  | str b=>obtain⟨t,rfl⟩:=rx;exact SeqAt.EqAt.none_str b t
  | _=>exact absurd (show false=true from fx) Bool.false_ne_true
 | bl a=>
  cases ry;cases x with
  | non=>cases rx;exact SeqAt.EqAt.bool_none a
  | bl b=>cases rx;exact SeqAt.EqAt.bool_bool a b
  | int b=>obtain⟨t,rfl⟩:=rx;exact SeqAt.EqAt.bool_int a b t
  | str b=>obtain⟨t,rfl⟩:=rx;exact SeqAt.EqAt.bool_str a b t
  | _=>exact absurd (show false=true from fx) Bool.false_ne_true
 | int a=>
  obtain⟨t',rfl⟩:=ry;cases x with
  | non=>cases rx;exact SeqAt.EqAt.int_none a t'
  | bl b=>cases rx;exact SeqAt.EqAt.int_bool a t' b
  | int b=>obtain⟨t,rfl⟩:=rx;exact SeqAt.EqAt.int_int a t' b t
  | str b=>obtain⟨t,rfl⟩:=rx;exact SeqAt.EqAt.int_str a t' b t
  | _=>exact absurd (show false=true from fx) Bool.false_ne_true
 | str a=>
  obtain⟨t',rfl⟩:=ry;cases x with
  | non=>cases rx;exact SeqAt.EqAt.str_none a t'
  | bl b=>cases rx;exact SeqAt.EqAt.str_bool a t' b
  | int b=>obtain⟨t,rfl⟩:=rx;exact SeqAt.EqAt.str_int a t' b t
  | str b=>obtain⟨t,rfl⟩:=rx;exact SeqAt.EqAt.str_str a t' b t
  | _=>exact absurd (show false=true from fx) Bool.false_ne_true
 | _=>exact absurd (show false=true from fy) Bool.false_ne_true
def eqU(x:V)(u:Value):Bool:=match u with
 | .none=>eqV .non x
 | .bool b=>eqV (.bl b) x
 | .int i _=>eqV (.int i) x
 | .str z _=>eqV (.str z) x
 | _=>false
theorem b2k{x y:V}{u:Value}(r:RelV y u)(f:z9 y=true):eqU x u=eqV y x:=by
 cases y with
 | non=>cases r;rfl
 | bl b=>cases r;rfl
 | int i=>obtain⟨t,rfl⟩:=r;rfl
 | str z=>obtain⟨t,rfl⟩:=r;rfl
 | _=>exact absurd (show false=true from f) Bool.false_ne_true
theorem a5u{x:V}:∀{xs:List V}{us:List Value},Vals xs us->xs.all z9=true->us.any (eqU x)=xs.any λy=>eqV y x
 | _,_,.nil,_=>rfl
 | y::xs,u::us,.cons r t,f=>by
  rw[List.all_cons,Bool.and_eq_true] at f;rw[List.any_cons,List.any_cons,b2k r f.1,a5u t f.2]
theorem a1v{A:Around}{s:Shared}{x:V}{v:Value}(rx:RelV x v)(fx:z9 x=true):∀{xs:List V}{us:List Value},Vals xs us->xs.all z9=true->∀u∈us,SeqAt.EqAt A s u v (eqU x u)
 | _,_,.nil,_=>λu hu=>by cases hu
 | y::xs,u::us,.cons r t,f=>λu' hu=>by
  rw[List.all_cons,Bool.and_eq_true] at f;rcases List.mem_cons.mp hu with rfl|hu
  ·rw[b2k r f.1];exact b8l r rx f.1 fx
  ·exact a1v rx fx t f.2 u' hu
def inV(x:V)(xs:List V):Bool:=xs.any λy=>eqV y x
def rIn(K:Frag)(neg:Bool):R2:=λx y H Q=>∃p xs,y=.ref p/\(SqL K H p xs\/SqT K H p xs)/\z9 x=true/\xs.all z9=true/\Q (.bl (if neg then !inV x xs else inV x xs)) H
theorem b4p:OpR X (compareOp .In) (rIn X.K false):=by
 intro pins s σ H x y v u Q I rx ry h;obtain⟨p,xs,rfl,hq,fx,fs,q⟩:=h;cases ry;rcases hq with hq|hq
 ·obtain⟨its,r,pl,hz⟩:=I.list hq
  refine SeqAt.in_listAt (eqU x) pl.isList (λw hw=>a1v rx fx r fs w (by simpa using hw)) ⟨.bl _,H,I,rfl,?_⟩
  rw[show its.toArray.any (eqU x)=its.any (eqU x) by simp,a5u r fs]
  exact q
 ·obtain⟨its,r,pl,hz⟩:=I.tuple hq
  refine SeqAt.in_tupleAt (eqU x) pl (λw hw=>a1v rx fx r fs w (by simpa using hw)) ⟨.bl _,H,I,rfl,?_⟩
  rw[show its.toArray.any (eqU x)=its.any (eqU x) by simp,a5u r fs]
  exact q
theorem a8o:OpR X (compareOp .NotIn) (rIn X.K true):=by
 intro pins s σ H x y v u Q I rx ry h;obtain⟨p,xs,rfl,hq,fx,fs,q⟩:=h;cases ry;rcases hq with hq|hq
 ·obtain⟨its,r,pl,hz⟩:=I.list hq
  refine SeqAt.notIn_listAt (eqU x) pl.isList (λw hw=>a1v rx fx r fs w (by simpa using hw)) ⟨.bl _,H,I,rfl,?_⟩
  rw[show its.toArray.any (eqU x)=its.any (eqU x) by simp,a5u r fs]
  exact q
 ·obtain⟨its,r,pl,hz⟩:=I.tuple hq
  refine SeqAt.notIn_tupleAt (eqU x) pl (λw hw=>a1v rx fx r fs w (by simpa using hw)) ⟨.bl _,H,I,rfl,?_⟩
  rw[show its.toArray.any (eqU x)=its.any (eqU x) by simp,a5u r fs]
  exact q
theorem a9y:a0m X (.builtin "len") (λxs H Q=>∃p ys,xs=[.ref p]/\(SqL X.K H p ys\/SqT X.K H p ys)/\Q (.int ys.length) H):=by
 intro pins s σ H xs us Q I r h;obtain⟨p,ys,rfl,hq,q⟩:=h;obtain⟨u,rfl,rx⟩:=a7y r;cases rx;have hn:=a6j;rcases hq with hq|hq
 ·obtain⟨its,r',pl,hz⟩:=I.list hq
  have hlen:=r'.length;exact Calls.call_len_list pl.isList (by simp only[List.size_toArray] <;> lia) ⟨.int ys.length,H,I.tok _,⟨s.toks+1,by rw[List.size_toArray,hlen]⟩,q⟩
 ·obtain⟨its,r',pl,hz⟩:=I.tuple hq
  have hlen:=r'.length;exact len_tuple pl (by simp only[List.size_toArray] <;> lia) ⟨.int ys.length,H,I.tok _,⟨s.toks+1,by rw[List.size_toArray,hlen]⟩,q⟩
theorem u0:a0m X (.builtin "len") (λxs H Q=>∃z,xs=[.str z]/\z.length<=sizeLine/\Q (.int z.length) H):=by
 intro pins s σ H xs us Q I r h;obtain⟨z,rfl,hz,q⟩:=h;obtain⟨u,rfl,t,rfl⟩:=a7y r;have hn:=a6j;exact len_str (by lia) ⟨.int z.length,H,I.tok _,⟨_,rfl⟩,q⟩
theorem a9x:a0m X (.type "list") (λxs H Q=>∃p ys,xs=[.ref p]/\(SqL X.K H p ys\/SqT X.K H p ys)/\∀l,H l=none->Q (.ref l) (upd H l (.lst ys))):=by
 intro pins s σ H xs us Q I r h;obtain⟨p,ys,rfl,hq,q⟩:=h;obtain⟨u,rfl,rx⟩:=a7y r;cases rx;have fin:∀(its:List Value),Vals ys its->ys.length<=sizeLine->∀(h':Heap)(c':Nat),(∀b o',s.heap.get? b=some o'->h'.get? b=some o') ->
   h'.get? s.heap.objs.size=some { cls:=.type "list",dict:=none,data:=.seq its.toArray c',slots:=#[] }->EP X pins σ Q (.ref s.heap.objs.size) { s with heap:=h' }:=λits r' hz h' c' kp e=>
  ⟨.ref s.heap.objs.size,_,I.laid (t':=s.toks) kp (Nat.le_refl _) (show ObjOk X.prog X.w _ h' _ (.lst ys) from⟨hz,its,c',r',e⟩),rfl,q _ (I.hok.fresh (Nat.le_refl _))⟩
 rcases hq with hq|hq
 ·obtain⟨its,r',pl,hz⟩:=I.list hq
  have hlen:=r'.length;obtain⟨o,ho,hc,n,hd⟩:=pl.isList;exact call_list_seq p (.inl rfl) ho hc hd (λh' c' kp e=>fin its r' hz h' c' kp e) (by simp only[List.size_toArray] <;> lia)
 ·obtain⟨its,r',pl,hz⟩:=I.tuple hq
  have hlen:=r'.length;obtain⟨o,ho,hc,n,hd⟩:=pl;exact call_list_seq p (.inr rfl) ho hc hd (λh' c' kp e=>fin its r' hz h' c' kp e) (by simp only[List.size_toArray] <;> lia)
theorem a7s:a0m X (.type "tuple") (λxs H Q=>∃p ys,xs=[.ref p]/\((SqL X.K H p ys/\∀l,H l=none->Q (.ref l) (upd H l (.tup ys)))\/(SqT X.K H p ys/\Q (.ref p) H))):=by
 intro pins s σ H xs us Q I r h;obtain⟨p,ys,rfl,h⟩:=h;obtain⟨u,rfl,rx⟩:=a7y r;cases rx;rcases h with ⟨hq,q⟩|⟨hq,q⟩
 ·obtain⟨its,r',pl,hz⟩:=I.list hq
  have hlen:=r'.length;refine call_tuple_list pl.isList (λh' kp=>?_) (by simp only[List.size_toArray] <;> lia)
  have I1:Inv X pins σ H { s with heap:=h' }:=I.kept (t':=s.toks) kp
  have I2:Inv X pins σ (upd H h'.objs.size (.tup ys)) { s with heap:=h'.push { cls:=.type "tuple",data:=.seq its.toArray } } :=
   I1.laid (t':=s.toks) (λb o e=>Heap.get?_push_of_some _ e) (Nat.le_refl _) (show ObjOk X.prog X.w _ _ _ (.tup ys) from⟨hz,its,r',IsTup.new _ _⟩)
  exact⟨.ref h'.objs.size,_,I2,rfl,q _ (I1.hok.fresh (Nat.le_refl _))⟩
 ·obtain⟨its,r',pl,hz⟩:=I.tuple hq
  exact call_tuple_same pl ⟨.ref p,H,I,rfl,q⟩
def tyV(K:Frag)(T:String)(x:V)(H:Hp):Prop:=match x with
 | .str _=>T="str"
 | .int _=>T="int"
 | .ref p=>(T="list"/\∃xs,SqL K H p xs)\/(T="tuple"/\∃o,K.lookup p=some o/\o.cls=.type "tuple"/\o.dict=none) \/
   (T="dict"/\((∃kvs,H p=some (.dK kvs)) \/ ∃kvs,H p=some (.dT kvs)))\/(T="set"/\∃S n,H p=some (.set S n))
 | _=>False
theorem b7y{pins:List (Addr×Obj)}{σ:St}{H:Hp}{s:Shared}{T:String}{x:V}{v:Value}(I:Inv X pins σ H s)(r:RelV x v)(ty:tyV X.K T x H):
  s.TypeIs v T/\∀a,v=.ref a->∃ob,s.heap.get? a=some ob/\ob.dict=none:=by
 cases x with
 | str z=>
  obtain⟨t,rfl⟩:=r;cases (show T="str" from ty);exact⟨typeIs_str s z t,λ_ e=>nomatch e⟩
 | int i=>
  obtain⟨t,rfl⟩:=r;cases (show T="int" from ty);exact⟨typeIs_int s i t,λ_ e=>nomatch e⟩
 | ref p=>
  cases r;rcases ty with ⟨rfl,xs,hq⟩|⟨rfl,o,hk,hc,hd⟩|⟨rfl,hk⟩|⟨rfl,S,n,hk⟩
  ·obtain⟨its,_,pl,_⟩:=I.list hq
   refine⟨pl.isList.typeIs,λa e=>?_⟩;cases e;obtain⟨o,n,e,c,hd,_⟩:=pl;exact⟨o,e,hd⟩
  ·refine⟨⟨o,I.kIn p o hk,hc⟩,λa e=>?_⟩
   cases e;exact⟨o,I.kIn _ o hk,hd⟩
  ·have z:∃o,s.heap.get? p=some o/\o.ExactDict:=by
    rcases hk with ⟨kvs,hk⟩|⟨kvs,hk⟩
    ·obtain⟨_,_,_,_,o,_,_,e,ex,_⟩:=I.hok p _ hk
     exact⟨o,e,ex⟩
    ·obtain⟨_,_,_,_,o,_,_,e,ex,_⟩:=I.hok p _ hk
     exact⟨o,e,ex⟩
   obtain⟨o,e,ex⟩:=z;refine⟨⟨o,e,ex.1⟩,λa e2=>?_⟩;cases e2;exact⟨o,e,ex.2.1⟩
  ·obtain⟨o,_,_,_,e,ex,_⟩:=I.hok p _ hk
   refine⟨⟨o,e,ex.1⟩,λa e2=>?_⟩;cases e2;exact⟨o,e,ex.2.1⟩
 | _=>exact False.elim ty
def c3d(K:Frag)(T:String)(r:V->List V->Hp->VK->Prop)(to:TE):TE:=λσ H Q=>to σ H λx H1=>tyV K T x H1/\r x [] H1 Q
def tBM(K:Frag)(T:String)(r:V->List V->Hp->VK->Prop)(to:TE)(t:TA):TE:=λσ H Q=>to σ H λx H1=>tyV K T x H1/\t σ H1 λxs H2=>r x xs H2 Q
variable{o e:Expr}{es:List Expr}{to:TE}{t:TA}{name:Str}{apos cpos:Pos}{T id:String}{r:V->List V->Hp->VK->Prop}
theorem c1d(pa:PlainAttrs T)(slot:Slot T name id)(hty:typeOf (.builtin id)=pure (.type "method_descriptor"))(hm:MtR X id r)(ho:PE X o to)(hbase:attributeBase o name X.env (eval o X.env)=eval o X.env:=by rfl)(hline:(apos.endLine == cpos.line)=true:=by rfl):PE X (.Call (.Attribute o name apos) [] [] cpos) (c3d X.K T r to):=by
 intro pins s σ H Q I h;refine wpAny_Call_method0_late hbase hline (thn (ho pins s σ H _ I h) λv s1 z0_=>?_);obtain⟨x,H1,I1,r1,ty,q1⟩:=z0_;obtain⟨h1,h2⟩:=b7y I1 r1 ty;exact⟨T,id,pa,slot,hty,h1,h2,Calls.callWith_builtin rfl (PySem.evalArgs_none (hm pins s1 σ H1 x [] v [] Q I1 r1 .nil q1))⟩
theorem a8m(pa:PlainAttrs T)(slot:Slot T name id)(hty:typeOf (.builtin id)=pure (.type "method_descriptor"))(hm:MtR X id r)(ho:PE X o to)(ha:PA X (e::es) t)(hbase:attributeBase o name X.env (eval o X.env)=eval o X.env:=by rfl)(hfew:((backTo cpos (starEach (e::es) X.env)).all (λx=>!x.1) && (backToKw cpos (keywordEach [] X.env)).all (λx=>x.1.isSome)
   && decide ((e::es).length+([]:List Keyword).length+(if ([]:List Keyword).isEmpty then 0 else 1)<30))=true:=by rfl)(hline:(apos.endLine == cpos.line)=true:=by rfl)(hs:starEach (e::es) X.env=(false,eval e X.env)::starEach es X.env:=by rfl)(hplain:(backTo cpos (starEach es X.env)).any (·.1)=false:=by rfl):
  PE X (.Call (.Attribute o name apos) (e::es) [] cpos) (tBM X.K T r to t):=by
 intro pins s σ H Q I h;refine wpAny_Call_method_late hbase hfew hline rfl (thn (ho pins s σ H _ I h) λv s1 z0_=>?_);obtain⟨x,H1,I1,r1,ty,q1⟩:=z0_;obtain⟨h1,h2⟩:=b7y I1 r1 ty;refine⟨T,id,pa,slot,hty,h1,h2,?_⟩;have hA:=ha cpos pins s1 σ H1 _ I1 q1;rw[hs] at hA ⊢;refine Calls.callWith_builtin (by show(false || (backTo cpos (starEach es X.env)).any (·.1))=false;rw[hplain] <;> rfl) (Calls.evalArgs_plain ?_)
 exact thn hA λus s2 z0_=>by obtain⟨vs,H2,I2,r2,q2⟩:=z0_;exact hm pins s2 σ H2 x vs v us Q I2 r1 r2 q2
end
end L2
namespace L2
open PySem PySem.Spec PyProof.Rows
def MtM(X:Cx)(id:String)(r:V->List V->Hp->VK->Prop):Prop :=
 ∀(pins:List (Addr×Obj))(s:Shared)(σ:St)(H:Hp)(x:V)(xs:List V)(v:Value)(us:List Value)(Q:VK),Inv X pins σ H s->RelV x v->Vals xs us->r x xs H Q ->
  wpAny (model X.prog X.w) X.A (call (.builtin id) (v::us)) (EP X pins σ Q) X.xe s
theorem Vals.one{x:V}{us:List Value}(h:Vals [x] us):∃u,us=[u]/\RelV x u:=by
 cases h with|cons r t=>cases t;exact⟨_,rfl,r⟩
theorem Vals.two{x y:V}{us:List Value}(h:Vals [x,y] us):∃u v,us=[u,v]/\RelV x u/\RelV y v:=by
 cases h with|cons r t=>cases t with|cons q t=>cases t;exact⟨_,_,rfl,r,q⟩
theorem Vals.zero:∀{us:List Value},Vals [] us->us=[]
 | _,.nil=>rfl
theorem Vals.eraseIdx:∀{xs:List V}{us:List Value}(i:Nat),Vals xs us->Vals (xs.eraseIdx i) (us.eraseIdx i)
 | _,_,_,.nil=>.nil
 | _,_,0,.cons _ t=>t
 | _,_,i+1,.cons r t=>.cons r (Vals.eraseIdx i t)
theorem Vals.rep{xs:List V}{us:List Value}(h:Vals xs us):∀k:Nat,Vals (List.replicate k xs).flatten (List.replicate k us).flatten
 | 0=>.nil
 | k+1=>by
  rw[List.replicate_succ,List.replicate_succ,List.flatten_cons,List.flatten_cons];exact Vals.append h (Vals.rep h k)
theorem a9f{α:Type}:∀(l:List α)(i:Nat),(l.eraseIdx i).length<=l.length
 | [],_=>Nat.le_refl _
 | _::_,0=>Nat.le_succ _
 | _::r,i+1=>Nat.succ_le_succ (a9f r i)
theorem a9k(its:List Value):∀(k:Nat)(acc:List Value),
  List.foldl (λx1 x2=>x1++x2) acc.toArray (List.replicate k its.toArray)=(acc++(List.replicate k its).flatten).toArray
 | 0,acc=>by simp
 | k+1,acc=>by
  have e:acc.toArray++its.toArray=(acc++its).toArray:=by simp
  have e2:(acc++its)++(List.replicate k its).flatten=acc++(List.replicate (k+1) its).flatten:=by
   rw[List.replicate_succ,List.flatten_cons,List.append_assoc]
  rw[<- e2,<- a9k its k (acc++its),<- e,List.replicate_succ,List.foldl_cons]
section
variable{X:Cx}{pins:List (Addr×Obj)}{σ:St}{H:Hp}{s:Shared}{l b:Addr}{xs ys zs:List V}
theorem Inv.lset{its its':List Value}{n:Nat}{f:Array Value->Array Value}{t':Nat}(I:Inv X pins σ H s)(hH:H l=some (.lst xs))(e:s.heap.get? l=some { cls:=.type "list",data:=.seq its.toArray n })(hf:f its.toArray=its'.toArray)(hv:Vals ys its')(hz:ys.length<=sizeLine):
  Inv X pins σ (upd H l (.lst ys)) { s with heap:=s.heap.update l (Obj.mapSeq f),toks:=t' }:=by
 have q:=PySem.IsL.update e f;rw[hf] at q;refine I.write (x:=l) (e:=l) (by rw[hH];exact trivial) (.inl rfl) (λb' u hb hu=>(Heap.get?_update_other s.heap (Obj.mapSeq f) (Ne.symm hb)).trans hu) ⟨_,q⟩ ?_
 exact⟨hz,its',_,hv,q⟩
theorem Inv.lnew{its:List Value}{t':Nat}(I:Inv X pins σ H s)(hv:Vals ys its)(hz:ys.length<=sizeLine):
  Inv X pins σ (upd H s.heap.objs.size (.lst ys)) { s with heap:=s.heap.push { cls:=.type "list",data:=.seq its.toArray },toks:=t' } :=
 I.laid (λ_ _ q=>Heap.get?_push_of_some _ q) (Nat.le_refl _) ⟨hz,its,0,hv,Heap.get?_push_size _ rfl⟩
theorem Inv.fresh(I:Inv X pins σ H s):H s.heap.objs.size=none:=I.hok.fresh (Nat.le_refl _)
theorem Inv.lstM(I:Inv X pins σ H s)(hH:H l=some (.lst xs)):xs.length<=sizeLine/\∃(its:List Value)(n:Nat),Vals xs its/\xs.length=its.length/\s.heap.get? l=some { cls:=.type "list",data:=.seq its.toArray n }:=by
 obtain⟨z,its,n,r,e⟩:=I.hok l _ hH;exact⟨z,its,n,r,r.length,e⟩
theorem b1y{n:Nat}(h:n<=sizeLine):Builtin.List.listTooLong n=false:=by
 unfold Builtin.List.listTooLong;exact decide_eq_false (by lia)
end
section
variable{X:Cx}
def a7a:V->List V->Hp->VK->Prop:=λx vs H Q=>∃l xs y,x=.ref l/\vs=[y]/\H l=some (.lst xs)/\xs.length<sizeLine/\Q .non (upd H l (.lst (xs++[y])))
theorem a5l:MtM X "list.append" a7a:=by
 intro pins s σ H x vs v us Q I rx rv h;obtain⟨l,xs,y,rfl,rfl,hH,hz,q⟩:=h;cases rx;obtain⟨u,rfl,ru⟩:=rv.one;obtain⟨z,its,n,r,hl,e⟩:=I.lstM hH;refine call_meets F.slot_list_append ⟨_,e,rfl⟩ F.entry_list_append (F.args_list_append_2 _ _) (PySem.list_append l its.toArray n u (by rw[List.size_toArray];lia)) ⟨e,?_⟩
 refine⟨.non,_,I.lset (its':=its++[u]) hH e (by simp) (r.append (.cons ru .nil)) ?_,rfl,q⟩
 rw[List.length_append,List.length_singleton];lia
def b4b:V->List V->Hp->VK->Prop:=λx vs H Q=>∃l xs i k y,x=.ref l/\vs=[.int i]/\H l=some (.lst xs)/\-(2 ^ 63)<=i/\i<2 ^ 63/\seqIndex? i xs.length=some k/\xs[k]?=some y/\Q y (upd H l (.lst (xs.eraseIdx k)))
theorem b7d:MtM X "list.pop" b4b:=by
 intro pins s σ H x vs v us Q I rx rv h;obtain⟨l,xs,i,k,y,rfl,rfl,hH,h1,h2,hk,hy,q⟩:=h;cases rx;obtain⟨u,rfl,ru⟩:=rv.one;obtain⟨t,rfl⟩:=ru;obtain⟨z,its,n,r,hl,e⟩:=I.lstM hH;obtain⟨w,hw,rw'⟩:=r.get hy;refine call_meets F.slot_list_pop ⟨_,e,rfl⟩ F.entry_list_pop (F.args_list_pop_2 _ _)
  (MeetsSeq.list_pop_at l its.toArray n i t k w (fitsIndex_both h1 h2) (by rw[List.size_toArray,<- hl];exact hk) (by rw[<- Array.getElem?_toList];exact hw) (by rw[List.size_toArray];lia)) ⟨e,?_⟩
 refine⟨y,_,I.lset (its':=its.eraseIdx k) hH e ?_ (r.eraseIdx k) ?_,rw',q⟩
 ·show its.toArray.eraseIdxIfInBounds k=(its.eraseIdx k).toArray
  rw[List.eraseIdxIfInBounds_toArray]
 ·have:=a9f xs k
  lia
def b4d:V->List V->Hp->VK->Prop:=λx vs H Q=>∃l xs,x=.ref l/\vs=[]/\H l=some (.lst xs)/\Q .non (upd H l (.lst []))
theorem b7e:MtM X "list.clear" b4d:=by
 intro pins s σ H x vs v us Q I rx rv h;obtain⟨l,xs,rfl,rfl,hH,q⟩:=h;cases rx;have hus:=rv.zero;subst hus;obtain⟨z,its,n,r,hl,e⟩:=I.lstM hH;refine call_meets F.slot_list_clear ⟨_,e,rfl⟩ F.entry_list_clear (F.args_list_clear_1 _) (AutoSeq1.list_clear_list_0 l its.toArray n (by rw[List.size_toArray];lia)) ⟨e,?_⟩
 exact⟨.non,_,I.lset (its':=[]) (ys:=[]) hH e rfl .nil (Nat.zero_le _),rfl,q⟩
def c5c:R2:=λx y H Q=>∃l b xs zs,x=.ref l/\y=.ref b/\H l=some (.lst xs)/\H b=some (.lst zs)/\xs.length+zs.length<=sizeLine/\∀p,H p=none->Q (.ref p) (upd H p (.lst (xs++zs)))
theorem a8r:OpR X (binaryOp .Add) c5c:=by
 intro pins s σ H x y v u Q I rx ry h;obtain⟨l,b,xs,zs,rfl,rfl,hH,hB,hz,q⟩:=h;cases rx;cases ry;obtain⟨z,its,n,r,hl,e⟩:=I.lstM hH;obtain⟨z2,its2,n2,r2,hl2,e2⟩:=I.lstM hB;refine PySem.P.add_list e e2 ?_ (by rw[List.size_toArray,List.size_toArray];lia)
 have ea:its.toArray++its2.toArray=(its++its2).toArray:=by simp
 rw[ea];exact⟨.ref _,_,I.lnew (t':=s.toks) (r.append r2) (by rw[List.length_append];lia),rfl,q _ I.fresh⟩
def c5k:R2:=λx y H Q=>∃l k xs,x=.ref l/\y=.int k/\H l=some (.lst xs)/\-(2 ^ 63)<=k/\k<2 ^ 63/\xs.length*k.toNat<=sizeLine /\
 ∀p,H p=none->Q (.ref p) (upd H p (.lst (List.replicate k.toNat xs).flatten))
theorem b0x{α:Type}(xs:List α)(k:Nat):(List.replicate k xs).flatten.length=k*xs.length:=by
 induction k with
 | zero=>simp
 | succ k ih=>rw[List.replicate_succ,List.flatten_cons,List.length_append,ih,Nat.succ_mul,Nat.add_comm]
theorem c1f:OpR X (binaryOp .Mult) c5k:=by
 intro pins s σ H x y v u Q I rx ry h;obtain⟨l,k,xs,rfl,rfl,hH,h1,h2,hz,q⟩:=h;cases rx;obtain⟨t,rfl⟩:=ry;obtain⟨z,its,n,r,hl,e⟩:=I.lstM hH;have hlen:its.toArray.size*k.toNat<=sizeLine:=by rw[List.size_toArray,<- hl];exact hz
 have hcap:¬ its.toArray.size*k.toNat > (2 ^ 63-1) / 8:=by
  have:(sizeLine:Nat)<=(2 ^ 63-1) / 8:=by decide
  lia
 have hfit:¬ (!Builtin.List.listFitsIndex k)=true:=by
  rw[fitsIndex_both h1 h2];exact Bool.false_ne_true
 have hlong:¬ Builtin.List.listTooLong (its.toArray.size*k.toNat)=true:=by
  rw[b1y hlen];exact Bool.false_ne_true
 have hnew:List.foldl (λx1 x2=>x1++x2) #[] (List.replicate (if its.toArray.isEmpty=true then 0 else k.toNat) its.toArray)=(List.replicate k.toNat its).flatten.toArray:=by
  have f0:∀m:Nat,List.foldl (λx1 x2=>x1++x2) #[] (List.replicate m its.toArray)=(List.replicate m its).flatten.toArray:=λm=>by
   have:=a9k its m [];rw[List.nil_append] at this;exact this
  rw[f0];cases its with
  | nil=>simp
  | cons a r'=>rw[if_neg (by simp)]
 refine wpAny_binaryOp_repeat_ref (T:="list") (U:="int") (by decide) ⟨_,e,rfl⟩ (λs'=>typeIs_int s' k t) noFill_list_mul F.fills_int_mul F.slot_int_rmul repeat_list F.slot_int_index.lookup
  (call_meets F.slot_int_rmul (typeIs_int s k t) F.entry_int_rmul (F.args_int_rmul_2 _ _) (int___rmul___int_list k t l its.toArray n)
   ⟨e,rfl,⟨_,e,rfl⟩,call_meets F.slot_list_mul ⟨_,e,rfl⟩ F.entry_list_mul (F.args_list_mul_2 _ _) (AutoListH.list___mul___list_int_3 l its.toArray n k t hfit hcap hlong) ⟨e,?_⟩⟩)
 rw[hnew];exact⟨.ref _,_,I.lnew (t':=s.toks) (r.rep k.toNat) (by rw[b0x,Nat.mul_comm];exact hz),rfl,q _ I.fresh⟩
end
section
variable{prog:Program}{w:World}{A:Around}{E:Value->Shared->Prop}{s:Shared}
set_option maxRecDepth 100000 in
end
section
variable{X:Cx}
end
end L2
namespace Att
open PySem PySem.W PySem.Calls PyProof.Rows
theorem a5p{P:Params}{h:Heap}:∀(ns:List Int)(vs:List Value),WellAll P h vs (ns.map WData.int)->IntsAre vs ns:=by
 intro ns
 induction ns with
 | nil=>
  intro vs w;rw[List.map_nil] at w;cases w;exact .nil
 | cons n ns ih=>
  intro vs w;rw[List.map_cons] at w;cases w with
  | cons a b=>
   cases a;exact .cons _ _ (ih _ b)
theorem b3y{l:OpenLaw}{n:Nat}(hn:l.most=some n){P:Params}{h:Heap}{args:List WData}{vals:List Value}(hpre:l.row.toRowW.claim.pre args=true)(hwl:WellAll P h vals args):
  ∃a vs ns,vals=[Value.ref a]/\args=[WData.list (ns.map WData.int)]/\h.get? a=some { cls:=.type "list",data:=.seq vs.toArray }/\IntsAre vs ns/\ns.length<=n:=by
 have hsh:WShape.hasAll [] args [.list .int]=true:=(pre_splitW hpre).1;have hc:l.pre.holds [] { args:=args }=true:=(pre_splitW hpre).2;obtain⟨d,r,rfl,h1,h2⟩:=hasAllW_cons hsh;obtain rfl:=hasAllW_nil h2;obtain⟨xs,rfl,h3⟩:=hasW_list h1;obtain⟨ns,rfl⟩:=items_int h3;have hlen:ns.length<=n:=by
  unfold OpenLaw.pre at hc;have h4:(WTm.not (.lt (.lit (.int (n:Int))) (.len (.arg 0)))).holds [] { args:=[.list (ns.map .int)] }=true:=by
   have h4:=(holds_andW hc).1;rw[hn] at h4;exact h4
  have h5:=condW_of h4 (w_not (w_lt w_lit (w_len_list (w_arg rfl))));rw[List.length_map] at h5;refine Nat.le_of_not_lt λq=>?_;have q':(n:Int)<((ns.length:Nat):Int):=by lia
  first
   | (rw[decide_eq_true q'] at h5;exact absurd h5 (by decide))
   | (simp at h5;lia)
 cases hwl with
 | cons w1 w2=>
  cases w2;cases w1 with
  | list ho hall=>exact⟨_,_,ns,rfl,rfl,ho,a5p ns _ hall,hlen⟩
theorem b4h(l:OpenLaw)(args:List WData):l.row.toRowW.claim.post args (.bool true) args=true :=
 postW_of (r:=l.row.toRowW) (X:=(true == true))
  (show WShape.has [] (.bool true) .bool=true by first|rfl|decide|simp[WShape.has,WShape.arms,WShape.armsAll])
  (show(WTm.eq .res (.lit (.bool true))).value [] { args:=args,res:=some (.bool true),after:=args }=some (.bool (true == true)) from w_eq_bool (w_res rfl) w_lit) rfl
theorem attach_call{l:OpenLaw}{n:Nat}{q:Program}{loose:List Str}{XP:(Str->Option Value)->Heap->Prop}{YP:World->Heap->Prop}{d:DefRec}(hn:l.most=some n)(hdf:d.params.defaults=[])(call:∀(w:World) (s₀ s₁:Shared) (mg mb:Str->Option Value) (fa:Addr) (o:Obj) (pm cd doc:Value) (a:Addr) (vs:List Value) (ns:List Int),
   Ground q loose [] XP w s₀ mg mb s₁.heap->YP w s₁.heap ->
   s₁.heap.get? fa=some o->o.data=.func (docDef d.name d.params d.body d.scope pm cd doc)->s₁.heap.CodeRec cd d.name->mg d.name=some (.ref fa) ->
   s₁.heap.get? a=some { cls:=.type "list",data:=.seq vs.toArray }->IntsAre vs ns->ns.length<=n->s₁.gens=#[] ->
   codeAny (model l.prog w) callerA (.call (.ref fa) ⟨[.ref a],[]⟩) (λr s'=>r=.ok (.ret (.bool true))/\OldK s₁.heap s'.heap/\s'.os=s₁.os/\AllBare s'.gens) s₁):
  WalkO q loose XP YP l.row.toRowW d [] (λf vs=>PySem.call f vs):=by
 intro w s₀ s₁ mg mb G Y fa o pm cd doc dV kV ho hd hcd hD hmg hg args vals as hpre hlay hrd hwl hlo;obtain rfl:dV=.none:=Dflts.none hD hdf;obtain rfl:kV=.none:=Dflts.noKw hD;obtain⟨a,vs,ns,rfl,rfl,hobj,hints,hlen⟩:=b3y hn hpre hwl;refine enter_call (codeAny_mono (call w s₀ s₁ mg mb fa o pm cd doc a vs ns G Y ho (fd_plain hd) hcd hmg hobj hints hlen hg) λr s' hq=>?_);obtain⟨rfl,h2,h3,h4⟩:=hq;exact⟨.inl ⟨.bool true,.bool true,[],rfl,λ_=>rfl,.bool true,b4h l _,λ_=>⟨List.Pairwise.nil,λ_ hm=>(nomatch hm)⟩⟩,h2,h3,h4⟩
section
variable{prog:Program}{w:World}{A:Around}{E:Value->Shared->Prop}{s:Shared}{K:Frag}
end
end Att
namespace L2
open PySem PySem.Spec PyProof.Rows
theorem a7x:∀{vs:List Value}{ns:List Int},IntsAre vs ns->Vals (ns.map V.int) vs
 | _,_,.nil=>.nil
 | _,_,.cons n t h=>.cons ⟨t,rfl⟩ (a7x h)
def c4l(H:Hp):Prop:=∀b,H b=none \/ ∃o xs,H b=some (.frz o (.lst xs))
theorem b7g{P:Program}{w:World}{K:Frag}{mg mb:Str->Option Value}{CX:CXT}{k:Nat}{fa a:Addr}{fd:FuncData}{x:Str}{sp:Sp}{s₁:Shared}{vs:List Value}{ns:List Int}(KX:K.In s₁.heap)(hns:s₁.heap.Ns mainGlobals mg)(hb:s₁.heap.Ns builtinsNs mb)(hbb:∀x:Str,x≠"__name__"->mb x=bootBuiltins x)(hlim:s₁.heap.NoLimit)(hg:s₁.gens=#[])(ha:s₁.heap.get? a=some { cls:=.type "list",data:=.seq vs.toArray })(hi:IntsAre vs ns)(hl:ns.length<=sizeLine)(hr:Room k callerA)(F:∀base:Heap,K.In base->base.Ns mainGlobals mg->b6c P w K mg base CX k fa fd [x] sp)(hbind:∀(s:Shared) (u:Value),BindsTo s fd ⟨[u],[]⟩ [(x,u)])(hsp:∀H:Hp,c4l H->SqL K H a (ns.map V.int)->sp [.ref a] H (λv _=>v=.bl true) λ_ _ _=>False)(hCX:∀H e s',CX [] H s₁ (λ_ _ _=>False) e s'->False):
  codeAny (model P w) callerA (.call (.ref fa) ⟨[.ref a],[]⟩) (λr s'=>r=.ok (.ret (.bool true))/\OldK s₁.heap s'.heap/\s'.os=s₁.os/\AllBare s'.gens) s₁:=by
 have rv:=a7x hi;have lenV:=hi.length;have core:∀H:Hp,c4l H->SqL K H a (ns.map V.int)->HOk P w H s₁.heap->(∀b,H b≠none->b=a)->(H a≠none->K.lookup a=none) ->
   codeAny (model P w) callerA (.call (.ref fa) ⟨[.ref a],[]⟩) (λr s'=>r=.ok (.ret (.bool true))/\OldK s₁.heap s'.heap/\s'.os=s₁.os/\AllBare s'.gens) s₁:=by
  intro H hO hS hok hA hK;have base_of:∀{b:Addr}{o:Obj},s₁.heap.get? b=some o->H b=none->(b7i s₁.heap H).get? b=some o:=λe n=>b7h e n;have noA:∀{b:Addr}{o:Obj}{es:Array DictEntry}{ep:Nat},s₁.heap.get? b=some o->o.data=.dict es ep->H b=none:=λ{b o es ep} e d=>by
   cases q:H b with
   | none=>rfl
   | some u=>
    have e':b=a:=hA b (by rw[q];simp)
    subst e';rw[ha] at e;cases e;have d':Data.seq vs.toArray _=Data.dict es ep:=d;cases d'
  have nsK:∀{b:Addr}{m:Str->Option Value},s₁.heap.Ns b m->(b7i s₁.heap H).Ns b m:=λ{b m} ⟨o,es,ep,e,d,r⟩=>⟨o,es,ep,base_of e (noA e d),d,r⟩;have hKb:K.In (b7i s₁.heap H):=λb o e=>base_of (KX b o e) (by
   cases q:H b with
   | none=>rfl
   | some u=>
    have e':b=a:=hA b (by rw[q];simp)
    subst e';rw[hK (by rw[q];simp)] at e;cases e)
  have hM:Mod K mg (b7i s₁.heap H):=⟨hKb,nsK hns,⟨mb,nsK hb,hbb⟩,let ⟨mc,h1,h2⟩:=hlim;⟨mc,nsK h1,h2⟩⟩
  have e0:c2z P w K mg (b7i s₁.heap H) callerA [] s₁ H:=⟨rfl,hM,λb o e=>b9i e,Nat.le_of_eq (b5g _ _),trivial,λb hb=>absurd (show b∈([]:List Addr) from hb) (by simp),hok,.of_eq hg⟩
  refine codeAny_mono ((F _ hKb (nsK hns)).run callerA [] s₁ H ⟨[.ref a],[]⟩ [.ref a] [.ref a] _ _ hr e0 (hbind s₁ (.ref a)) (.cons rfl .nil) (hsp H hO hS)) λr s' h=>?_;cases r with
  | error e=>exact(hCX H e s' h).elim
  | ok fl=>
   cases fl with
   | next=>exact False.elim h
   | brk=>exact False.elim h
   | cont=>exact False.elim h
   | ret u=>
    obtain⟨v,H',os,bare,un,hok',r',q⟩:=h;have q':v=.bl true:=q;subst q';obtain rfl:u=Value.bool true:=r';refine⟨rfl,OldK.of_keep λb o e=>?_,os,bare⟩;cases q:H b with
    | none=>exact un.keep b o e q (by intro z;exact absurd (show b∈([]:List Addr) from z) (by simp)) (by simp)
    | some u=>
     rcases hO b with z|⟨ob,xs,z⟩
     ·rw[q] at z;cases z
     ·have z2:=un.frzs b ob _ z
      obtain⟨e1,_⟩:=hok b _ z;obtain⟨e2,_⟩:=hok' b _ z2;rw[e] at e1;cases e1;exact e2
 cases hk:K.lookup a with
 | some o=>
  have e:=KX a o hk;rw[ha] at e;cases e;refine core (λ_=>none) (λ_=>.inl rfl) (.inr ⟨_,vs.toArray,_,hk,rfl,rfl,rfl,by rw[List.size_toArray,lenV];exact hl,by simpa using rv⟩) (λb u z=>by have z':(none:Option HO)=some u:=z;cases z') (λb z=>absurd rfl z) λz=>absurd rfl z
 | none=>
  refine core (λb=>if b=a then some (.frz { cls:=.type "list",data:=.seq vs.toArray } (.lst (ns.map V.int))) else none) (λb=>?_) (.inl (.inr ⟨{ cls:=.type "list",data:=.seq vs.toArray },if_pos rfl⟩)) (λb u z=>?_) (λb z=>?_) λ_=>hk
  ·by_cases hb:b=a
   ·exact .inr ⟨_,_,if_pos hb⟩
   ·exact .inl (if_neg hb)
  ·by_cases hb:b=a
   ·have z':=(if_pos hb).symm.trans z
    cases z';subst hb;exact⟨ha,by rw[List.length_map];exact hl,vs,_,rv,ha⟩
   ·have z':=(if_neg hb).symm.trans z
    cases z'
  ·by_cases hb:b=a
   ·exact hb
   ·exact absurd (if_neg hb) z
end L2
namespace L2
open PySem PySem.Spec PyProof.Rows
theorem walk_of{l:PySem.W.OpenLaw}{n k:Nat}{q:Program}{loose:List Str}{XP:(Str->Option Value)->Heap->Prop}{YP:World->Heap->Prop}{d:DefRec}{K:Params->Frag}{CX:World->CXT}{sp:World->Sp}{x:Str}(hn:l.most=some n)(hn2:n<=sizeLine)(hdf:d.params.defaults=[])(hr:Room k callerA)(hY:∀(w:World) (h:Heap),YP w h->(K w.params).In h)(F:∀(w:World) (mg:Str->Option Value) (fa:Addr) (h:Heap),(K w.params).In h->h.Ns mainGlobals mg->mg d.name=some (.ref fa) ->
   ∃fd:FuncData,(∀(s:Shared) (u:Value),BindsTo s fd ⟨[u],[]⟩ [(x,u)]) /\
    ∀base:Heap,(K w.params).In base->base.Ns mainGlobals mg->b6c l.prog w (K w.params) mg base (CX w) k fa fd [x] (sp w))(hsp:∀(w:World) (H:Hp) (a:Addr) (ns:List Int),ns.length<=n->c4l H->SqL (K w.params) H a (ns.map V.int)->sp w [.ref a] H (λv _=>v=.bl true) λ_ _ _=>False)(hCX:∀(w:World) (H:Hp) (s:Shared) (e:Value) (s':Shared),CX w [] H s (λ_ _ _=>False) e s'->False):
  PySem.W.WalkO q loose XP YP l.row.toRowW d [] (λf vs=>PySem.call f vs):=by
 refine Att.attach_call hn hdf λw s₀ s₁ mg mb fa o pm cd doc a vs ns G Y ho hd hcd hmg hobj hints hlen hg=>?_;have KX:=hY w _ Y;obtain⟨fd,hb,hF⟩:=F w mg fa _ KX G.T.g hmg;exact b7g KX G.T.g G.T.b G.T.builtins G.T.nolimit hg hobj hints (Nat.le_trans hlen hn2) hr hF hb (λH hO hS=>hsp w H a ns hlen hO hS) λH e s'=>hCX w H s₁ e s'
end L2
namespace L2
open PySem PySem.Spec PyProof.Rows
def v9(s:Stmt):Arguments:=match s with
 | .FunctionDef _ a _ _ _ _ _ _ _ _=>a
 | _=>{ posonlyargs:=[],args:=[],vararg:=none,kwonlyargs:=[],kw_defaults:=[],kwarg:=none,defaults:=[] }
def u3(s:Stmt):List Stmt:=match s with
 | .FunctionDef _ _ b _ _ _ _ _ _ _=>b
 | _=>[]
def d8(s:Stmt):Scope:=match s with
 | .FunctionDef _ _ _ _ _ _ sc _ _ _=>sc
 | _=>{ kind:=.function,names:=[],isGenerator:=false,isCoroutine:=false }
abbrev E0:XK:=λ_ _ _=>False
structure Fun(K:Frag)(x qual:Str)(st:Stmt)(f:Addr)(fd:FuncData):Prop where
 ex:∃(oc:Value)(od:Option Addr)(kV doc pm:Value)(an:Option Addr)(cdv ct:Value)(osl:Array (Option Value)),
  fd=PySem.W.fnOf x qual (v9 st) (u3 st) (d8 st) .none kV doc pm an cdv ct/\K.lookup f=some ⟨oc,od,.func fd,osl⟩/\codeIn K cdv qual=true
 kp:keepIn K (.ref f)=true
section
variable{P:Program}{w:World}{K:Frag}{mg:Str->Option Value}{base:Heap}
theorem Fun.binds{x qual:Str}{st:Stmt}{f:Addr}{fd:FuncData}{ps:List Str}(F:Fun K x qual st f fd)(h:∀(kV doc pm:Value) (an:Option Addr) (cdv ct:Value) (us:List Value),us.length=ps.length->bindArgs (PySem.W.fnOf x qual (v9 st) (u3 st) (d8 st) .none kV doc pm an cdv ct) ⟨us,[]⟩=pure (ps.zip us)):Binds K fd ps []:=by
 obtain⟨oc,od,kV,doc,pm,an,cdv,ct,osl,rfl,lk,hcd⟩:=F.ex;exact .all (h kV doc pm an cdv ct)
theorem b8k{x qual:Str}{st:Stmt}{f:Addr}{oc:Value}{od an:Option Addr}{osl:Array (Option Value)}{kV doc pm cdv ct:Value}(l:K.lookup f=some ⟨oc,od,.func (PySem.W.fnOf x qual (v9 st) (u3 st) (d8 st) .none kV doc pm an cdv ct),osl⟩)(c:codeIn K cdv qual=true)(k:keepIn K (.ref f)=true):Fun K x qual st f (PySem.W.fnOf x qual (v9 st) (u3 st) (d8 st) .none kV doc pm an cdv ct):=⟨⟨oc,od,kV,doc,pm,an,cdv,ct,osl,rfl,l,c⟩,k⟩
end
section
variable{X:Cx}
theorem pv(i:Nat){x:Str}{pos:Pos}(hN:X.N[i]?=some x:=by rfl)(hv:Vis X.env.scope x:=by first|exact Or.inl rfl|exact Or.inr (Or.inl rfl)|exact Or.inr (Or.inr rfl))(hd:(x == ("__debug__":Str))=false:=by decide)(hcd:(x == ("__classdict__":Str))=false:=by decide):PE X (.Name x pos) (c3b i):=c1a hN hv hd hcd
end
theorem c2w{A B:Prop}(h:B):if false=true then A else B:=by
 rw[if_neg Bool.false_ne_true];exact h
theorem c2v{A B:Prop}(h:A):if true=true then A else B:=by
 rw[if_pos rfl];exact h
theorem b5c{c A B:Prop}[Decidable c](h1:c->A)(h2:¬ c->B):if c then A else B:=by
 by_cases h:c
 ·rw[if_pos h]
  exact h1 h
 ·rw[if_neg h]
  exact h2 h
def Same(H H':Hp):Prop:=∀b o,H b=some o->H' b=some o
theorem Same.refl(H:Hp):Same H H:=λ_ _ h=>h
theorem Same.trans{H H1 H2:Hp}(a:Same H H1)(b:Same H1 H2):Same H H2:=λc o h=>b c o (a c o h)
theorem Same.free{H H':Hp}(e:Same H H'){l:Addr}(h:H' l=Option.none):H l=Option.none:=by
 cases q:H l with
 | none=>rfl
 | some o=>
  rw[e l o q] at h;cases h
theorem Same.seq{K:Frag}{H H':Hp}{a:Addr}{xs:List V}(e:Same H H')(h:SqL K H a xs):SqL K H' a xs:=by
 rcases h with (h|⟨o,h⟩)|h
 ·exact .inl (.inl (e _ _ h))
 ·exact .inl (.inr ⟨o,e _ _ h⟩)
 ·exact .inr h
end L2
namespace L2
open PySem PySem.Spec PyProof.Rows
theorem z6{P:Program}{w:World}{H:Hp}{h h':Heap}(x:HOk P w H h)(k:∀b o u,H b=some o->h.get? b=some u->h'.get? b=some u):HOk P w H h' :=
 λb u e=>(x b u e).stay (λc v hc q=>by
  rcases hc with z|z
  ·subst z;exact k _ _ _ e q
  ·exact k _ _ _ z q) (λ_ q=>q) λ_ _ q=>q
structure b0f(B:Heap)(l:List Env)(H H':Hp)(h:Heap):Prop where
 tr:∀b o,H' b=some o->∃ob,B.get? b=some ob
 un:∀b o,h.get? b=some o->H b=none->b ∉ frs l->B.get? b=some o
 th:∀b o,h.get? b=some o->b ∉ frs l->∃ob,B.get? b=some ob
structure Fly(P:Program)(w:World)(l:List Env)(H H':Hp)(s s':Shared)(a:Addr)(C:Value):Prop where
 os:s'.os=s.os
 bare:AllBare s'.gens
 un:Un (frs l) [] H H' s.heap s'.heap
 hok:HOk P w H' s'.heap
 fl:∃(B:Heap)(a0:Value),Heap.FlyingW B l a C a0 s'.heap/\b0f B l H H' s.heap
def CXK(P:Program)(w:World):CXT:=λouter H s E e s'=>∃(a:Addr)(C:Value)(H':Hp),e=.ref a/\Fly P w outer H H' s s' a C/\E C none H'
theorem b8r{l:List Env}{H H':Hp}{h h' h'' B:Heap}{a:Addr}{C a0:Value}(u:Un (frs l) [] H H' h h')(fl:Heap.FlyingW B l a C a0 h')(k:b0f B l H H' h)(st:B.StaysIn h'')(up:h'.UpToSlots h''):Un (frs l) [] H H' h h'' where
 keep:=λb o q n hb _=>st b o (k.un b o q n hb)
 slot:=λb o q n hb hx=>by
  obtain⟨sl,e1⟩:=u.slot b o q n hb hx;obtain⟨_,o',ho',hd⟩:=fl.2.2.1.mem hb;rw[e1] at ho';cases ho';obtain⟨sl',e2⟩:=up b _ e1 hd;exact⟨sl',e2⟩
 free:=u.free
 there:=λb o q hx=>by
  by_cases hb:b∈frs l
  ·obtain⟨_,o',ho',hd⟩:=fl.2.2.1.mem hb
   obtain⟨sl',e2⟩:=up b _ ho' hd;exact⟨_,e2⟩
  ·obtain⟨ob,e⟩:=k.th b o q hb
   exact⟨ob,st b ob e⟩
 tups:=u.tups
 frzs:=u.frzs
 tbls:=u.tbls
theorem b5f{P:Program}{w:World}{l:List Env}{H H':Hp}{h h' h'' B:Heap}{a:Addr}{C a0:Value}(x:HOk P w H' h')(fl:Heap.FlyingW B l a C a0 h')(k:b0f B l H H' h)(st:B.StaysIn h''):HOk P w H' h'' :=
 z6 x λb o u e q=>by
  obtain⟨ob,e1⟩:=k.tr b o e;have e2:=fl.1 b ob e1;rw[q] at e2;cases e2;exact st b _ e1
section
variable{X:Cx}{pins:List (Addr×Obj)}{σ:St}{H H':Hp}{s:Shared}{h' h'' B:Heap}{a:Addr}{C a0:Value}
theorem Inv.left(I:Inv X pins σ H s)(hex:X.ex=[])(hst:X.stack=X.env::X.outer)(u:Un (frs X.stack) [] H H' s.heap h')(fl:Heap.FlyingW B X.stack a C a0 h')(k:b0f B X.stack H H' s.heap)(st:B.StaysIn h'')(up:h'.UpToSlots h''):Un X.fs [] X.H₀ H' X.s₀.heap h''/\b0f B X.outer X.H₀ H' X.s₀.heap:=by
 have u2:=b8r u fl k st up;have nx:∀b:Addr,b ∉ X.ex:=λb z=>by rw[hex] at z;cases z
 have sub:∀b o,X.s₀.heap.get? b=some o->b ∉ X.fs->b ∉ frs X.stack:=λb o e hb z=>by
  rcases List.mem_cons.mp (I.stkSub b z) with y|y
  ·exact absurd (Nat.lt_of_lt_of_le (Heap.lt_size e) I.ok.above) (by rw[y];exact Nat.lt_irrefl _)
  ·exact hb y
 have infs:∀b,b∈X.fs->b∈frs X.stack:=λb hb=>by
  rw[hst];obtain⟨env,he,hf⟩:=List.mem_filterMap.mp hb;exact List.mem_filterMap.mpr ⟨env,List.mem_cons_of_mem _ he,hf⟩
 refine⟨⟨λb o q n hb _=>?_,λb o q n hb _=>?_,λb o q n _=>?_,λb o q _=>?_,λb xs q=>u2.tups b xs (I.base.tups b xs q),λb o xs q=>u2.frzs b o xs (I.base.frzs b o xs q),λb ps q=>?_⟩,⟨k.tr,λb o q n hb=>?_,λb o q hb=>?_⟩⟩
 ·exact u2.keep b o (I.base.keep b o q n hb (nx b)) (I.base.free b o q n (nx b)) (sub b o q hb) (by simp)
 ·obtain⟨sl,e1⟩:=I.base.slot b o q n hb (nx b)
  obtain⟨sl',e2⟩:=u2.slot b _ e1 (I.base.free b o q n (nx b)) (infs b hb) (by simp)
  exact⟨sl',e2⟩
 ·obtain⟨o',e1⟩:=I.base.there b o q (nx b)
  exact u2.free b o' e1 (I.base.free b o q n (nx b)) (by simp)
 ·obtain⟨o',e1⟩:=I.base.there b o q (nx b)
  exact u2.there b o' e1 (by simp)
 ·obtain⟨m1,e1⟩:=I.base.tbls b ps q
  obtain⟨m2,e2⟩:=u2.tbls b _ e1;exact⟨m1++m2,by rw[e2,Array.append_assoc]⟩
 ·exact k.un b o (I.base.keep b o q n hb (nx b)) (I.base.free b o q n (nx b)) (sub b o q hb)
 ·obtain⟨o',e1⟩:=I.base.there b o q (nx b)
  exact k.th b o' e1 (sub b o q hb)
theorem Inv.keeps0(I:Inv X pins σ H s):b0f (PySem.W.hideAll s.heap (frs X.stack)) X.stack H H s.heap where
 tr:=λb o e=>by
  obtain⟨ob,q⟩:=Option.isSome_iff_exists.mp (show(s.heap.get? b).isSome=true by
   have:=I.hok.lt e;cases z:s.heap.get? b with
   | some _=>rfl
   | none=>exact absurd z (by
     obtain⟨u,hu⟩:∃u,s.heap.get? b=some u:=by
      have x:=I.hok b o e;cases o with
      | lst xs=>obtain⟨_,_,_,_,q⟩:=(show _/\_ from x);exact⟨_,q⟩
      | tup xs=>obtain⟨_,_,_,o,q,_⟩:=(show _/\_ from x);exact⟨_,q⟩
      | dK kvs=>obtain⟨_,_,_,_,o,_,_,q,_⟩:=(show _/\_ from x);exact⟨_,q⟩
      | dT kvs=>obtain⟨_,_,_,_,o,_,_,q,_⟩:=(show _/\_ from x);exact⟨_,q⟩
      | set S n=>obtain⟨o,_,_,_,q,_⟩:=(show Heap.SetOf _ _ _ _ _ from x);exact⟨_,q⟩
      | ins C dx fs=>obtain⟨_,_,_,q,_⟩:=(show _/\_ from x);exact⟨_,q⟩
      | own y=>obtain⟨o,q⟩:=(show ∃o,_ from x);exact⟨_,q⟩
      | xd fs=>obtain⟨mA,n,_⟩:=(show ∃mA,_ from x);obtain⟨o,_,_,q,_⟩:=n;exact⟨_,q⟩
      | rng lo hi=>obtain⟨_,_,_,q⟩:=(show ∃_ _ _,_ from x);exact⟨_,q⟩
      | frz o u=>obtain⟨q,_⟩:=(show _/\_ from x);exact⟨_,q⟩
      | tbl ps=>exact⟨_,x⟩
      | met f y=>exact⟨_,x⟩
      | ext φ=>obtain⟨_,⟨o,q⟩,_⟩:=(show _/\_ from x);exact⟨_,q⟩
     rw[hu];simp))
  refine⟨ob,PySem.W.hideAll_get _ q λz=>?_⟩;rw[I.stkFree b z] at e;cases e
 un:=λb o q _ hb=>PySem.W.hideAll_get _ q hb
 th:=λb o q hb=>⟨o,PySem.W.hideAll_get _ q hb⟩
end
section
variable{P:Program}{w:World}{K:Frag}{mg:Str->Option Value}{base:Heap}{N:List Str}{qual:Str}{scope:Scope}{f:Addr}{cd:Value}{A:Around}{outer:List Env}{s₀:Shared}{H₀:Hp}{E₀:XK}
theorem a8h{pins:List (Addr×Obj)}{σ:St}{H:Hp}{s:Shared}{h':Heap}{e:Addr}{C:Value}{vs:List Value}(I:Inv (a4h (CXK P w) P w K mg base N qual scope f cd A outer s₀ H₀ E₀) pins σ H s)(hx:Heap.MadeExcOf s.heap h' e C vs)(q:E₀ C none H):(a4h (CXK P w) P w K mg base N qual scope f cd A outer s₀ H₀ E₀).xe (.ref e) { s with heap:=h' }:=by
 have hin:∀env∈(a4h (CXK P w) P w K mg base N qual scope f cd A outer s₀ H₀ E₀).stack,∀b,env.frame=some b->b∈frs (a4h (CXK P w) P w K mg base N qual scope f cd A outer s₀ H₀ E₀).stack:=λenv he b hb=>List.mem_filterMap.mpr ⟨env,he,hb⟩;have FF:=PySem.W.funFrames_hide I.stack hin;have k0:=I.keeps0;refine wpAny_leaves_madeW (base:=PySem.W.hideAll s.heap (frs (a4h (CXK P w) P w K mg base N qual scope f cd A outer s₀ H₀ E₀).stack)) (h:=s.heap) I.ok.frames rfl (λb o z=>PySem.W.of_hideAll _ z) FF hx λh'' t x1 x2 x3 x4=>?_;have up:s.heap.UpToSlots h'':=(Heap.UpToSlots.of_keeps hx.keeps).trans x4;have FW:∀b∈frs (a4h (CXK P w) P w K mg base N qual scope f cd A outer s₀ H₀ E₀).stack,∃o,s.heap.get? b=some o/\∀vs,o.data≠.fields vs:=λb hb=>(I.stack.mem hb).2;have nx:∀b:Addr,b ∉ (a4h (CXK P w) P w K mg base N qual scope f cd A outer s₀ H₀ E₀).ex:=λb z=>by cases z
 have sub:∀b o,s₀.heap.get? b=some o->b ∉ frs outer->b ∉ frs (a4h (CXK P w) P w K mg base N qual scope f cd A outer s₀ H₀ E₀).stack:=λb o e' hb z=>by
  rcases List.mem_cons.mp (I.stkSub b z) with y|y
  ·exact absurd (Nat.lt_of_lt_of_le (Heap.lt_size e') I.ok.above) (by rw[y];exact Nat.lt_irrefl _)
  ·exact hb y
 have infs:∀b,b∈frs outer->b∈frs (a4h (CXK P w) P w K mg base N qual scope f cd A outer s₀ H₀ E₀).stack:=λb hb=>by
  obtain⟨env,he,hf⟩:=List.mem_filterMap.mp hb;exact List.mem_filterMap.mpr ⟨env,List.mem_cons_of_mem _ he,hf⟩
 refine⟨e,C,H,rfl,⟨I.os,I.bare,⟨λb o z n hb _=>?_,λb o z n hb _=>?_,λb o z n _=>I.base.free b o z n (nx b),λb o z _=>?_,I.base.tups,I.base.frzs,I.base.tbls⟩,?_,⟨_,_,x1,⟨k0.tr,λb o z n hb=>?_,λb o z hb=>?_⟩⟩⟩,q⟩
 ·exact x1.1 b o (k0.un b o (I.base.keep b o z n hb (nx b)) (I.base.free b o z n (nx b)) (sub b o z hb))
 ·obtain⟨sl,e1⟩:=I.base.slot b o z n hb (nx b)
  obtain⟨o',e2,hd⟩:=FW b (infs b hb);rw[e1] at e2;cases e2;obtain⟨sl',e3⟩:=up b _ e1 hd;exact⟨sl',e3⟩
 ·obtain⟨o',e1⟩:=I.base.there b o z (nx b)
  by_cases hb:b∈frs outer
  ·obtain⟨o'',e2,hd⟩:=FW b (infs b hb)
   obtain⟨sl',e3⟩:=up b _ e2 hd;exact⟨_,e3⟩
  ·obtain⟨ob,e2⟩:=k0.th b o' e1 (sub b o z hb)
   exact⟨ob,x1.1 b ob e2⟩
 ·refine z6 I.hok λb o u z y=>?_
  obtain⟨ob,e1⟩:=k0.tr b o z;have e2:=PySem.W.of_hideAll _ e1;rw[y] at e2;cases e2;exact x1.1 b _ e1
 ·exact k0.un b o (I.base.keep b o z n hb (nx b)) (I.base.free b o z n (nx b)) (sub b o z hb)
 ·obtain⟨o',e1⟩:=I.base.there b o z (nx b)
  exact k0.th b o' e1 (sub b o z hb)
theorem i4:a6s (CXK P w) (a4h (CXK P w) P w K mg base N qual scope f cd A outer s₀ H₀ E₀) E₀:=by
 intro pins σ H s e s' I h;obtain⟨a,C,H',rfl,F,q⟩:=h;obtain⟨B,a0,fl,k⟩:=F.fl;refine wpAny_leaves_onW (base:=B) I.ok.frames rfl fl λh'' x1 x2=>?_;obtain⟨u,k'⟩:=I.left rfl rfl F.un fl k x1.1 x2;exact⟨a,C,H',rfl,⟨F.os.trans I.os,F.bare,u,b5f F.hok fl k x1.1,⟨B,a0,x1,k'⟩⟩,q⟩
theorem j3:PassesOwn (model (a4h (CXK P w) P w K mg base N qual scope f cd A outer s₀ H₀ E₀).prog (a4h (CXK P w) P w K mg base N qual scope f cd A outer s₀ H₀ E₀).w) (a4h (CXK P w) P w K mg base N qual scope f cd A outer s₀ H₀ E₀).A (a4h (CXK P w) P w K mg base N qual scope f cd A outer s₀ H₀ E₀).env (a4h (CXK P w) P w K mg base N qual scope f cd A outer s₀ H₀ E₀).xe:=PassesOwn.leaving
end
end L2
namespace L2
open PySem PySem.Spec PyProof.Rows
theorem Cx.Ok.re{X:Cx}{A':Around}{calm':Bool}{pn':List (Addr×Obj)}{xe':Value->Shared->Prop}(ok:X.Ok)(hA:A'.frames=X.A.frames)(hc:calm'=true->A'.handled=none):({ X with A:=A',calm:=calm',pn:=pn',xe:=xe' }:Cx).Ok :=
 ⟨ok.mod,ok.kind,ok.glob,ok.blt,ok.above,ok.inj,ok.has,ok.cab,hc,hA.trans ok.frames,ok.stk,ok.exf,ok.bs,ok.bsz,ok.noex,ok.exfs,ok.funs,ok.frf⟩
theorem Inv.re{X:Cx}{pins pins':List (Addr×Obj)}{σ:St}{H:Hp}{s:Shared}{A':Around}{calm':Bool}{pn':List (Addr×Obj)}{xe':Value->Shared->Prop}(I:Inv X pins σ H s)(hA:A'.frames=X.A.frames)(hc:calm'=true->A'.handled=none)(hp:∀p∈pn'++pins',p∈X.pn++pins):Inv ({ X with A:=A',calm:=calm',pn:=pn',xe:=xe' }:Cx) pins' σ H s :=
 ⟨I.ok.re hA hc,I.os,I.bare,I.base,I.loc,I.cell,I.free,I.freeC,λp h=>I.pin p (hp p h),I.hok,I.len⟩
abbrev Cx.tryX(X:Cx)(pn':List (Addr×Obj))(E:Value->Shared->Prop):Cx:={ X with pn:=pn',xe:=E }
abbrev Cx.inH(X:Cx)(pn':List (Addr×Obj))(a:Addr):Cx:={ X with A:=X.A.mark (some (.ref a)),calm:=false,pn:=pn',xe:=λ_ _=>False }
theorem c0e{K:Frag}{h:Heap}{C:Addr}{bmB:List Value}{newId:String}(X:K.In h)(q:excIn K C bmB newId=true):
  ∃bm N nm qn bs hdct sn sub ab col dd k0 k1 k2 k3 k5 mN,h.get? C=some (excClassObj nm qn C N bs bm hdct sn sub ab col dd k0 k1 k2 k3 k5 newId)/\h.Ns N mN/\mN "__init__" = none/\OwnTail h bmB bm:=by
 unfold excIn at q;split at q
 case h_2=>cases q
 case h_1 dd cd sl ho=>
  split at q
  case h_2=>cases q
  case h_1 C' bm k0 k1 k2 k3 n k5 hm hs=>
   simp only[Bool.and_eq_true,beq_iff_eq,Bool.not_eq_true'] at q;obtain⟨⟨⟨⟨⟨q1,q2⟩,q3⟩,q4⟩,q5⟩,q6⟩:=q;obtain⟨nm,bs,mro,ns,qn,hd,sn,sub,ab,col,del⟩:=cd;dsimp only at hm q3 q5 q6;subst q1 q2 hm q3;obtain⟨l⟩:=sl;dsimp only at hs;subst hs;exact⟨bm,ns,nm,qn,bs,hd,sn,sub,ab,col,dd,k0,k1,k2,k3,k5,_,X _ _ ho,.of_isNs (PySem.W.isNs_of_in X q5),PySem.W.nsMap_none_of_in X q5 q6,PySem.W.tail_of_in X q4⟩
abbrev c0n:List Value:=[.type "ValueError",.type "Exception",.type "BaseException",.type "object"]
def c5j(K:Frag)(C:Addr):Prop:=excIn K C c0n "ValueError.__new__" = true
def b1j(X:Cx)(C:Addr)(E:XK):Prop:=∀(pins:List (Addr×Obj))(σ:St)(H:Hp)(s:Shared)(h':Heap)(e:Addr)(vs:List Value),Inv X pins σ H s->Heap.MadeExcOf s.heap h' e (.ref C) vs->E (.ref C) none H->X.xe (.ref e) { s with heap:=h' }
def b3u(C:Addr)(E:XK)(t:TA):TS:=λ_ σ H=>t σ H λvs H1=>vs.length<=sizeLine/\E (.ref C) none H1
section
variable{X:Cx}
theorem b6s{x:Str}{C:Addr}{E:XK}{np cpos pos:Pos}{e₀:Expr}{rest:List Expr}{t:TA}(hc:X.calm=true)(hg:Gl X x)(hm:X.mg x=some (.ref C))(hC:c5j X.K C)(hx:b1j X C E)(ha:PA X (e₀::rest) t)(hd:(x == ("__debug__":Str))=false:=by decide)(he:starEach (e₀::rest) X.env=(false,eval e₀ X.env)::starEach rest X.env:=by rfl)(hpl:(backTo cpos (starEach rest X.env)).any (·.1)=false:=by rfl):
  PS X (.Raise (some (.Call (.Name x np) (e₀::rest) [] cpos)) none pos) (b3u C E t):=by
 intro pins s σ H D I h;obtain⟨bm,N,nm,qn,bs,hdct,sn,sub,ab,col,dd,k0,k1,k2,k3,k5,mN,gC,gN,gi,gT⟩:=c0e I.ok.mod.kin hC;refine wpAny_Raise_call_subT (C:=C) (nm:=nm) (q:=qn) (N:=N) (bs:=bs) (bm:=bm) (hdct:=hdct) (sn:=sn) (sub:=sub) (ab:=ab) (col:=col) (dd:=dd) (k0:=k0) (k1:=k1) (k2:=k2) (k3:=k3) (k5:=k5)
  PySem.F.excBase_ValueError (mN:=mN) (gT.hasType (by decide)) (I.ok.hd hc) (by rw[he];show(false || (backTo cpos (starEach rest X.env)).any (·.1))=false;rw[hpl];rfl) gi (a5n I hg hm ⟨rfl,?_⟩ hd)
 have hp:=ha cpos pins s σ H _ I h;rw[he] at hp ⊢;refine Calls.evalArgs_plain (thn hp λus s1 z0_=>?_);obtain⟨vs,H1,I1,r,z,q⟩:=z0_;exact⟨rfl,by rw[<- r.length];exact z,I1.bk _ _ gC,gN.keeps I1.bk,gT.keeps I1.bk,λh' e hm'=>hx pins σ H1 s1 h' e us I1 hm' q⟩
end
def a7u(X:Cx)(J:St->XK):Prop:=∀(pins:List (Addr×Obj))(σ:St)(H:Hp)(s:Shared)(e:Value)(s':Shared),Inv X pins σ H s->CXK X.prog X.w X.stack H s (J σ) e s'->X.xe e s'
def b3w(sp:Sp)(J:St->XK)(t:TA):TE:=λσ H Q=>t σ H λvs H1=>sp vs H1 Q (J σ)
section
variable{X:Cx}{k:Nat}{f:Addr}{fd:FuncData}{ps:List Str}{sp:Sp}{J:St->XK}{x:Str}{p pos:Pos}{e:Expr}{es:List Expr}{t:TA}
theorem b6x(F:b6c X.prog X.w X.K X.mg X.base (CXK X.prog X.w) k f fd ps sp)(hr:Room k X.A)(hg:Gl X x)(hm:X.mg x=some (.ref f))(hk:keepIn X.K (.ref f)=true)(hb:Binds X.K fd ps [])(hx:a7u X J)(ha:PA X (e::es) t)(hdb:(x == ("__debug__":Str))=false:=by decide)(he:starEach (e::es) X.env=(false,eval e X.env)::starEach es X.env:=by rfl)(hpl:(backTo pos (starEach es X.env)).any (·.1)=false:=by rfl):
  PE X (.Call (.Name x p) (e::es) [] pos) (b3w sp J t):=by
 intro pins s σ H Q I h;refine wpAny_Call_Name_kw (a5n I hg hm ?_ hdb);refine callWith_K (h₀:=X.base) I.ok.mod.kin hk (thn (ha pos pins s σ H _ I h) λus s1 z0_=>?_) he hpl;obtain⟨vs,H1,I1,r,q⟩:=z0_;refine⟨I1.kIn,?_⟩;have hl:us.length=ps.length:=by rw[<- r.length];exact F.len _ _ _ _ q
 have hbd:=hb s1 us I1.kIn (by rw[List.append_nil];exact hl)
 rw[List.append_nil] at hbd;refine wpAny_call (codeAny_mono (F.run X.A X.stack s1 H1 ⟨us,[]⟩ us vs Q (J σ) hr I1.env0 hbd r q) λr' s' hq=>?_);cases r' with
 | error e=>exact hx pins σ H1 s1 e s' I1 hq
 | ok fl=>
  cases fl with
  | ret u=>exact I1.after hq
  | next=>exact False.elim hq
  | brk=>exact False.elim hq
  | cont=>exact False.elim hq
end
def b3j(a:Addr)(C:Value):HO:=.ext λh=>∃o,h.get? a=some o/\o.cls=C
theorem c0o{fs:List Addr}{H H':Hp}{h h':Heap}{a:Addr}{o:HO}(u:Un fs [] H H' h h')(hn:h.get? a=none)(hf:H' a=none):Un fs [] H (upd H' a o) h h' where
 keep:=u.keep
 slot:=u.slot
 free:=λb ob q n hx=>by
  have:b≠a:=λz=>by rw[z,hn] at q;cases q
  rw[f6 this];exact u.free b ob q n hx
 there:=u.there
 tups:=λb xs q=>by
  have z:=u.tups b xs q;rw[f6 (d6 z hf)];exact z
 frzs:=λb ob xs q=>by
  have z:=u.frzs b ob xs q;rw[f6 (d6 z hf)];exact z
 tbls:=λb ps q=>by
  obtain⟨m,z⟩:=u.tbls b ps q;refine⟨m,?_⟩;rw[f6 (d6 z hf)];exact z
theorem b9t{P:Program}{w:World}{H:Hp}{h:Heap}{a:Addr}{C:Value}(x:HOk P w H h)(hf:H a=none)(he:∃o,h.get? a=some o/\o.cls=C):HOk P w (upd H a (b3j a C)) h:=λb u e=>by
 by_cases hb:b=a
 ·subst hb
  rw[d0] at e;cases e;obtain⟨o,h1,h2⟩:=he;exact⟨⟨o,h1,h2⟩,⟨o,h1⟩,λ_ _ ⟨o,q1,q2⟩ k=>⟨o,k o q1,q2⟩⟩
 ·rw[f6 hb] at e
  exact(x b u e).stay (λc v _ q=>q) (λc q=>by rw[f6 (d6 q hf)];exact q) λc xs q=>by rw[f6 (d6 q hf)];exact q
theorem Inv.unname{X:Cx}{pins:List (Addr×Obj)}{σ:St}{H:Hp}{s:Shared}{i t:Nat}{x:Str}{m:Str->Option Value}{v:Option Value}{h':Heap}(I:Inv X pins σ H s)(hN:X.N.Nodup)(hi:X.N[i]?=some x)(hl:∀(j:Nat) (y:Str) (v:V),X.N[j]?=some y->σ[j]?=some (some v)->Vis X.env.scope y->∃u,RelV v u/\c5i X.env s.heap m y u)(hn':h'.Ns X.env.locals (λy=>if y=x then v else m y))(hs:Heap.SameBut X.env.locals s.heap h'):Inv X pins (σ.set i none) H { s with heap:=h',toks:=t }:=by
 have ne:∀b o,X.s₀.heap.get? b=some o->b≠X.env.locals:=λb o e=>Nat.ne_of_lt (Nat.lt_of_lt_of_le (Heap.lt_size e) I.ok.above);refine⟨I.ok,I.os,I.bare,⟨λb o e n hb hx=>?_,λb o e n hb hx=>?_,I.base.free,λb o e hx=>?_,I.base.tups,I.base.frzs,I.base.tbls⟩,⟨_,hn',λj y v' e1 e2 e3=>?_⟩,λy c e=>?_,I.free,I.freeC,λp hp=>?_,?_,by simpa using I.len⟩
 ·exact(hs.2 b (ne b o e)).trans (I.base.keep b o e n hb hx)
 ·obtain⟨sl,e1⟩:=I.base.slot b o e n hb hx
  exact⟨sl,(hs.2 b (ne b o e)).trans e1⟩
 ·obtain⟨o',e1⟩:=I.base.there b o e hx
  exact⟨o',(hs.2 b (ne b o e)).trans e1⟩
 ·have hj:j≠i:=λz=>by
   subst z;by_cases hlt:j<σ.length
   ·rw[List.getElem?_set_self hlt] at e2;cases e2
   ·rw[List.getElem?_eq_none_iff.mpr (by rw[List.length_set];lia)] at e2;cases e2
  rw[List.getElem?_set_ne (Ne.symm hj)] at e2;obtain⟨u',r',q⟩:=hl j y v' e1 e2 e3;refine⟨u',r',?_⟩;rcases q with ⟨k,e⟩|⟨k,c,e,z⟩
  ·refine .inl ⟨k,?_⟩
   have:y≠x:=λe=>hj (a7m hN e1 (e ▸ hi));simp[this,e]
  ·exact .inr ⟨k,c,e,z.sameBut hs (I.cne y c e)⟩
 ·obtain⟨w',z⟩:=I.cell y c e
  exact⟨w',z.sameBut hs (I.cne y c e)⟩
 ·obtain⟨e,n,ne,nf,d⟩:=I.pin p hp
  exact⟨(hs.2 p.1 ne).trans e,n,ne,nf,d⟩
 ·exact z6 I.hok λb o u e q=>(hs.2 b (λz=>by rw[z,I.free] at e;cases e)).trans q
def Ends.unset(D:Ends)(i:Nat):Ends:=⟨λσ H=>D.nx (σ.set i none) H,D.rt,λσ H=>D.bk (σ.set i none) H,λσ H=>D.ct (σ.set i none) H⟩
def b7z(K:Frag)(c:Addr)(i:Nat)(tb:(St->XK)->TS)(th:TS):TS:=λD σ H=>
 tb (λσ1 C _ H'=>exmOne K C (.ref c)=some true/\∀a,H' a=none->th (D.unset i) (σ1.set i (some (.ref a))) (upd H' a (b3j a C))) D σ H
section
variable{X:Cx}{body suite:List Stmt}{b₀:Stmt}{x n:Str}{np hpos pos:Pos}{c:Addr}{i:Nat}{tb:(St->XK)->TS}{th:TS}
theorem Fly.caught{pins:List (Addr×Obj)}{σ:St}{H H':Hp}{s s':Shared}{a:Addr}{C:Value}{B h'':Heap}{a0:Value}(I:Inv X pins σ H s)(F:Fly X.prog X.w X.stack H H' s s' a C)(fl:Heap.FlyingW B X.stack a C a0 s'.heap)(k:b0f B X.stack H H' s.heap)(st:B.StaysIn h'')(up:s'.heap.UpToSlots h''):Inv X pins σ H' { s' with heap:=h'' } :=
 I.call' (s':={ s' with heap:=h'' }) (ch:=[]) F.os (b8r F.un fl k st up) (b5f F.hok fl k st) F.bare (λ_ z=>nomatch z)
theorem Fly.caughtAs{pins:List (Addr×Obj)}{σ:St}{H H':Hp}{s s':Shared}{a:Addr}{C:Value}{B h'':Heap}{a0:Value}(I:Inv X pins σ H s)(F:Fly X.prog X.w X.stack H H' s s' a C)(fl:Heap.FlyingW B X.stack a C a0 s'.heap)(k:b0f B X.stack H H' s.heap)(fl2:Heap.FlyingW B X.stack a C a0 h'')(up:s'.heap.UpToSlots h''):H' a=none/\Inv X pins σ (upd H' a (b3j a C)) { s' with heap:=h'' }:=by
 have hn:H' a=none:=by
  cases q:H' a with
  | none=>rfl
  | some o=>
   obtain⟨ob,e⟩:=k.tr a o q;rw[fl.2.1] at e;cases e
 have ha:s.heap.get? a=none:=by
  cases q:s.heap.get? a with
  | none=>rfl
  | some o=>
   by_cases hb:a∈frs X.stack
   ·obtain⟨_,o',h1,h2⟩:=fl.2.2.1.mem hb
    obtain⟨oe,vs,h3,_,h4,_⟩:=fl.first;rw[h1] at h3;cases h3;exact absurd h4 (h2 vs)
   ·obtain⟨ob,e⟩:=k.th a o q hb
    rw[fl.2.1] at e;cases e
 refine⟨hn,I.call' (s':={ s' with heap:=h'' }) (ch:=[]) F.os (c0o (b8r F.un fl k fl2.1 up) ha hn) (b9t (b5f F.hok fl k fl2.1) hn fl2.there) F.bare (λ_ z=>nomatch z)⟩
theorem b6r(hcal:X.calm=true)(hst:X.stack=X.env::X.outer)(hfr:X.env.frame=some X.env.locals)(hg:Gl X x)(hm:X.mg x=some (.ref c))(hN:X.N.Nodup)(hi:X.N[i]?=some n)(hk:X.env.scope.names.lookup n=some .local)(hb:∀pn' E J,a7u (X.tryX pn' E) J->PSs (X.tryX pn' E) body (tb J))(hh:∀pn' a,PSs (X.inH pn' a) (b₀::suite) th)(hd:(x == ("__debug__":Str))=false:=by decide):
  PS X (.Try body [.ExceptHandler (some (.Name x np)) (some n) (b₀::suite) hpos] [] [] pos) (b7z X.K c i tb th):=by
 intro pins s σ H D I h;have hcl:X.calm=true->X.A.handled=none:=I.ok.hd;have hp:a7u (X.tryX (X.pn++pins) (λe s'=>∃pins' σ1 H1 s1,Inv (X.tryX (X.pn++pins) X.xe) pins' σ1 H1 s1/\CXK X.prog X.w X.stack H1 s1 ((λσ1 C _ H'=>exmOne X.K C (.ref c)=some true/\∀a,H' a=none->th (D.unset i) (σ1.set i (some (.ref a))) (upd H' a (b3j a C)):St->XK) σ1) e s'))
   (λσ1 C _ H'=>exmOne X.K C (.ref c)=some true/\∀a,H' a=none->th (D.unset i) (σ1.set i (some (.ref a))) (upd H' a (b3j a C))) :=
  λpins' σ1 H1 s1 e s' I1 q=>⟨pins',σ1,H1,s1,I1.re rfl hcl (λp z=>z),q⟩
 have b8n:∀{A':Around}{c':Bool}{xe':Value->Shared->Prop}{pins':List (Addr×Obj)}{σ1:St}{H1:Hp}{s1:Shared},X.A.frames=A'.frames->Inv ({ X with A:=A',calm:=c',pn:=X.pn++pins,xe:=xe' }:Cx) pins' σ1 H1 s1->Inv X pins σ1 H1 s1 :=
  λhA I1=>I1.re (pn':=X.pn) (calm':=X.calm) (A':=X.A) (xe':=X.xe) hA hcl (λp z=>List.mem_append_left _ z)
 refine wpAny_Try_except (wpAny_mono (hb _ _ _ hp [] s σ H D (I.re rfl hcl (λp z=>by simpa using z)) h) (λf s1 q=>?_) λe s1 q=>?_)
 ·cases f with
  | next=>obtain⟨σ',H',I',q⟩:=q;exact wpAny_execs_nil ⟨σ',H',b8n rfl I',q⟩
  | brk=>obtain⟨σ',H',I',q⟩:=q;exact⟨σ',H',b8n rfl I',q⟩
  | cont=>obtain⟨σ',H',I',q⟩:=q;exact⟨σ',H',b8n rfl I',q⟩
  | ret u=>obtain⟨v,σ',H',I',r,q⟩:=q;exact⟨v,σ',H',b8n rfl I',r,q⟩
 ·obtain⟨pins',σ1,H1,s2,I1,a,C,H',rfl,F,hx,hq⟩:=q
  have I1:Inv X pins σ1 H1 s2:=b8n rfl I1;obtain⟨B,a0,fl,k⟩:=F.fl;have hs:X.A.frames=some (X.env::X.outer):=by rw[<- hst];exact I1.ok.frames
  refine wpAny_looks_onW (base:=B) hs hfr (by rw[<- hst];exact fl) λh4 hh4 up4=>?_
  refine wpAny_landsW hh4 λh5 fl5 up5=>?_;have fl5':Heap.FlyingW B X.stack a C a0 h5:=by rw[hst];exact fl5
  have up:s1.heap.UpToSlots h5:=up4.trans up5;have I5:=F.caught I1 fl k fl5'.1 up;refine wpAny_handleBy_cons (codeAny_handlers_test ?_) (by intro q;cases q)
  have I5h:Inv (X.inH (X.pn++pins) a) [] σ1 H' { s1 with heap:=h5 }:=I5.re rfl (λz=>nomatch z) (λp z=>by simpa using z)
  refine a5n (X:=X.inH (X.pn++pins) a) I5h hg hm ?_ hd;have LT:PySem.W.Looks (model X.prog X.w) h5 (typeOf (.ref a)) C:=by
   obtain⟨ob,hob,hc⟩:=fl5'.there;subst hc;exact(PySem.W.Looks.ld hob).andThen .now
  refine (PySem.W.exm_one (K:=X.K) (h:=h5) I5.kIn LT hx).here ?_;refine codeAny_handlers_suite_as ?_;refine lands_againW fl5' λh6 fl6 up6=>?_;obtain⟨hn,I6⟩:=F.caughtAs I1 fl k fl6 (up.trans up6);have I6h:Inv (X.inH (X.pn++pins) a) [] σ1 (upd H' a (b3j a C)) { s1 with heap:=h6 }:=I6.re rfl (λz=>nomatch z) (λp z=>by simpa using z)
  refine a6t (X:=X.inH (X.pn++pins) a) (v:=.ref a) I6h hN hi (Or.inl hk) rfl (λs7 I7=>?_) (Or.inr hk);refine wpAny_mono (hh (X.pn++pins) a [] s7 _ _ _ I7 (hq a hn)) (λf s8 q8=>?_) (λ_ _ z=>z.elim);have goes:∀{σ':St}{H2:Hp}{R:Unit->Shared->Prop},Inv (X.inH (X.pn++pins) a) [] σ' H2 s8->(∀s9,Inv X pins (σ'.set i none) H2 s9->R () s9)->wpAny (model X.prog X.w) X.A (do bindName X.env n .none;unbindBehindTheSuite X.env n hpos) R X.xe s8:=λ{σ' H2 R} I8 k8=>by
   have I8:Inv X pins σ' H2 s8:=b8n (A':=X.A.mark (some (.ref a))) rfl I8;obtain⟨m,hn8,hl8⟩:=id I8.loc;refine wpAny_nameGoes_keeps hk hn8 (by rw[I8.ok.kind];rfl) λh9 v hn9 hs9=>k8 _ (I8.unname hN hi hl8 hn9 hs9)
  cases f with
  | next=>obtain⟨σ',H2,I8,q8⟩:=q8;exact goes I8 λs9 I9=>⟨_,H2,I9,q8⟩
  | brk=>obtain⟨σ',H2,I8,q8⟩:=q8;exact goes I8 λs9 I9=>⟨_,H2,I9,q8⟩
  | cont=>obtain⟨σ',H2,I8,q8⟩:=q8;exact goes I8 λs9 I9=>⟨_,H2,I9,q8⟩
  | ret u=>obtain⟨v,σ',H2,I8,r,q8⟩:=q8;exact goes I8 λs9 I9=>⟨v,_,H2,I9,r,q8⟩
end
end L2
namespace L2
open PySem PySem.Spec PyProof.Rows Builtin Builtin.ObjectAttr Builtin.Getset_descriptor
structure ExK(K:Frag)(C:Addr):Prop where
 ex:c5j K C
 ga:findIn K (.ref C) "__getattribute__" = some (some (.builtin "BaseException.__getattribute__"))
 gn:findIn K (.ref C) "__getattr__" = some none
 cl:findIn K (.ref C) "__class__" = some (some (.builtin "object.__class__"))
 mb:mroIn K C (.type "BaseException")=some true
 mo:mroIn K C (.type "object")=some true
 ic:(clsIn K C).isSome=true
 sg:specialIn K (.builtin "object.__class__") "__get__" = some (some (.builtin "getset_descriptor.__get__"))
 tk:PySem.W.takesIn K (.builtin "object.__class__")=some true
section
variable{prog:Program}{w:World}{A:Around}{E:Value->Shared->Prop}{R:Result->Shared->Prop}{K:Frag}{C x:Addr}{s:Shared}
theorem c0j(X:K.In s.heap)(L0:PySem.W.Looks (model prog w) s.heap (typeOf (.ref x)) (.ref C))(hm:mroIn K C (.type "object")=some true)(h:R (.ok (.ret (.ref C))) s):
  codeAny (model prog w) A (.call (.builtin "getset_descriptor.__get__") ⟨[.builtin "object.__class__",.ref x,.ref C],[]⟩) R s:=by
 obtain⟨hh,g,dr,t,os⟩:=s;have L1:=PySem.W.looks_mroIn (M:=model prog w) X hm;have pl:=PySem.W.KF.slot_gs.plain;refine codeAny_call_builtin pl PySem.W.KF.entry_gs (PySem.W.KF.slot_gs.check _ _ _ _ _ _ _ _ PySem.W.KF.type_class (PySem.W.KF.args_gs _ _ _) ?_);unfold Builtin.«getset_descriptor.__get__» descrGet;rw[PySem.W.dga_obj];refine wpAny_bind (wpAny_pure ?_);unfold descrGetter descrCheckInstance descrNameAndClass isInstance;simp only[PySem.W.KF.owner_class]
 repeat lk
 refine⟨Code.quiet_builtin _ (by decide +kernel),codeAny_builtin PySem.W.KF.entry_class ?_⟩
 unfold Builtin.«object.__class__» shownTypeOf
 repeat lk
 exact h
theorem b8o(X:K.In s.heap)(k:ExK K C):PySem.W.Looks (model prog w) s.heap (find (.ref x) (.ref C) "__class__") (.bind (.builtin "getset_descriptor.__get__") (.builtin "object.__class__")):=by
 have L1:=PySem.W.looks_findIn (M:=model prog w) X k.cl;have L2:PySem.W.Looks (model prog w) s.heap (getOf (some (.builtin "object.__class__"))) (some (.builtin "getset_descriptor.__get__")):=PySem.W.looks_specialIn X k.sg;have L3:=PySem.W.looks_takesIn (M:=model prog w) X k.tk;refine L1.andThen (L2.andThen ?_);have L4:PySem.W.Looks (model prog w) s.heap (dataDescriptor? (some (.builtin "object.__class__")) (some (.builtin "getset_descriptor.__get__"))) (some (.builtin "getset_descriptor.__get__",.builtin "object.__class__")):=L3.andThen .now;exact L4.andThen (PySem.W.Looks.tag .now)
theorem b6f{tk:Tok}{Q:Fin->Shared->Prop}(X:K.In s.heap)(k:ExK K C)(L0:PySem.W.Looks (model prog w) s.heap (typeOf (.ref x)) (.ref C))(h:Q (.done (.ret (.ref C))) s):
  wpAny (model prog w) A (Builtin.«object.__getattribute__» ⟨[.ref x,.str "__class__" tk],[]⟩) Q E s:=by
 obtain⟨hh,g,dr,t,os⟩:=s;have L1:=b8o (prog:=prog) (w:=w) (x:=x) X k;unfold Builtin.«object.__getattribute__» slotArgs attrName
 repeat lk
 show wpAny _ _ (run (.call (.builtin "getset_descriptor.__get__") ⟨[.builtin "object.__class__",.ref x,.ref C],[]⟩) none) _ _ _;refine wpAny_run (A:=A) (c0j X L0 k.mo ?_);show wpAny _ _ (pure (Value.ref C)) _ _ _;exact wpAny_pure (wpAny_pure h)
theorem b6g{nameV:Value}{Q:Unit->Shared->Prop}(X:K.In s.heap)(k:ExK K C)(L0:PySem.W.Looks (model prog w) s.heap (typeOf (.ref x)) (.ref C))(h:Q () s):
  wpAny (model prog w) A (checkBuiltinCall "BaseException.__getattribute__" ⟨[.ref x,nameV],[]⟩) Q E s:=by
 obtain⟨hh,g,dr,t,os⟩:=s;have e1:builtinKind "BaseException.__getattribute__" = some .slot:=by decide +kernel
 have e2:splitId "BaseException.__getattribute__" = some ("BaseException","__getattribute__"):=by decide +kernel
 have L1:=PySem.W.looks_mroIn (M:=model prog w) X k.mb;have hz:=F.args_bexc_ga (.ref x) nameV;have L2:PySem.W.Looks (model prog w) hh (isInstance (.ref x) (.type "BaseException")) true:=L0.andThen L1;simp only[checkBuiltinCall,e1,e2];refine wpAny_bind (L2.at ?_)
 repeat (first|assumption|wp_step)
 all_goals exact h
theorem c3a{tk:Tok}{fill:Bool}{Q:Value->Shared->Prop}(X:K.In s.heap)(k:ExK K C)(L0:PySem.W.Looks (model prog w) s.heap (typeOf (.ref x)) (.ref C))(h:Q (.ref C) s):
  wpAny (model prog w) A (getAttrBy (.ref x) (.str "__class__" tk) fill) Q E s:=by
 obtain⟨hh,g,dr,t,os⟩:=s;have L1:=PySem.W.looks_findIn (M:=model prog w) X k.ga;have L2:=PySem.W.looks_findIn (M:=model prog w) X k.gn;have hb:=F.attr_ValueError.ga.bind (.ref x);unfold getAttrBy;refine wpAny_holding (wpAny_bind (L0.at (wpAny_bind (L1.at ?_))));dsimp only;have ne:(Value.builtin "BaseException.__getattribute__" == Value.builtin "object.__getattribute__")=false:=by decide +kernel
 have oh:onTheHeap (Value.ref C)=true:=rfl;rw[ne,Bool.and_false,if_neg Bool.false_ne_true];unfold getAttrByItsOwn hookBefore;rw[if_pos oh];refine wpAny_bind (L2.at (wpAny_bind (wpAny_attempt (wpAny_holding ?_))));unfold callGetattribute;rw[Bool.false_and,if_neg Bool.false_ne_true];unfold boundAndCalled;rw[hb];refine wpAny_bind (wpAny_pure ?_);refine wpAny_call (codeAny_call_builtin F.attr_ValueError.ga.plain F.entry_bexc_ga (b6g X k L0 (b6f X k L0 ?_)));exact wpAny_pure h
theorem b8p{Q:Option Value->Shared->Prop}(X:K.In s.heap)(k:ExK K C)(L0:PySem.W.Looks (model prog w) s.heap (typeOf (.ref x)) (.ref C))(h:Q (some (.ref C)) { s with toks:=s.toks+1 }):
  wpAny (model prog w) A (getAttr? (.ref x) "__class__") Q E s:=by
 obtain⟨hh,g,dr,t,os⟩:=s;unfold getAttr? getAttrBy?;exact wpAny_bind (wpAny_mkText (wpAny_bind (wpAny_attempt (c3a X k L0 (wpAny_pure h)))))
end
def ExAt(a C:Addr)(h:Heap):Prop:=∃o,h.get? a=some o/\o.cls=.ref C
theorem ExAt.ty{a C:Addr}{h:Heap}(M:Model)(p:ExAt a C h):PySem.W.Looks M h (typeOf (.ref a)) (.ref C):=by
 obtain⟨o,h1,h2⟩:=p;exact h2 ▸ (PySem.W.Looks.ld h1).andThen .now
theorem b2a{K:Frag}{a C:Addr}(k:ExK K C):PySem.W.KitX K (.ref a) (.ref C) (ExAt a C) where
 ty:=λM h _ p=>p.ty M
 it:=λM h X _=>by
  obtain⟨cd,hc⟩:=Option.isSome_iff_exists.mp k.ic;unfold clsIn at hc;split at hc
  case h_2=>cases hc
  case h_1 c' d' cd' sl' ho=>
   intro A' Q' E' s' kk q;unfold isType loadHead;exact wpAny_bind (wpAny_loadPart (kk _ _ (X _ _ ho)) (wpAny_pure q))
 ne:=λh tp dd its n sl X htp=>by
  obtain⟨cd,hc⟩:=Option.isSome_iff_exists.mp k.ic;cases hb:(Value.ref C == Value.ref tp) with
  | false=>rfl
  | true=>
   have e:C=tp:=Value.ref.inj (beq_iff_eq.mp hb);subst e;unfold clsIn at hc;split at hc
   case h_2=>cases hc
   case h_1 c' d' cd' sl' ho=>
    have z:=(X _ _ ho).symm.trans htp;cases z
 ca:=λX p h=>b8p X k (p.ty _) h
inductive TyX(K:Frag)(H:Hp):V->Value->Prop where
 | ty {x:V} {t:Value} (h:b3n K H x t):TyX K H x t
 | exc {a C:Addr} (e:H a=some (b3j a (.ref C))) (k:ExK K C):TyX K H (.ref a) (.ref C)
def b6e:V->Option Value
 | .ref a=>some (.ref a)
 | .ty n=>some (.type n)
 | _=>none
theorem b2p{c:V}{cv u:Value}(h:b6e c=some cv)(r:RelV c u):u=cv:=by
 cases c with
 | ref a=>cases h;exact r
 | ty n=>cases h;exact r
 | _=>cases h
theorem a9r:∀{cs:List V}{cvs us:List Value},cs.map b6e=cvs.map some->Vals cs us->us=cvs
 | [],[],_,_,.nil=>rfl
 | [],_::_,_,h,_=>by cases h
 | _::_,[],_,h,_=>by cases h
 | c::cs,cv::cvs,_,h,.cons r t=>by
  have h1:b6e c=some cv:=List.head_eq_of_cons_eq h;have h2:cs.map b6e=cvs.map some:=List.tail_eq_of_cons_eq h;rw[b2p h1 r,a9r h2 t]
section
variable{X:Cx}
theorem b7v:a0m X (.builtin "isinstance") (λxs H Q=>∃x c t cv b,xs=[x,c]/\TyX X.K H x t/\b6e c=some cv/\kitOne X.K t cv=some b/\Q (.bl b) H):=by
 intro pins s σ H xs us Q I r h;obtain⟨x,c,t,cv,b,rfl,ty,hc,hk,q⟩:=h;obtain⟨u,us',rfl,rx,r2⟩:∃u us',us=u::us'/\RelV x u/\Vals [c] us':=by cases r with|cons a b=>exact⟨_,_,rfl,a,b⟩
 obtain⟨v,rfl,rc⟩:∃v,us'=[v]/\RelV c v:=by cases r2 with|cons a b=>cases b;exact⟨_,rfl,a⟩
 have e:=b2p hc rc;subst e;cases ty with
 | ty ty=>exact b5d I rx ty hk λtk=>⟨.bl b,H,I.tok tk,rfl,q⟩
 | @exc a C ea k=>
  cases (show u=Value.ref a from rx);obtain⟨p,_⟩:=(show ObjOk X.prog X.w H s.heap a (b3j a (.ref C)) from I.hok a _ ea);exact kia_one (b2a k) I.kIn p hk (λz=>nomatch z) λtk=>⟨.bl b,H,I.tok tk,rfl,q⟩
theorem b5z:a0m X (.builtin "isinstance") (λxs H Q=>∃a C tp cs cvs b,xs=[.ref a,.ref tp]/\H a=some (b3j a (.ref C))/\ExK X.K C/\H tp=some (.tup cs)/\cs.map b6e=cvs.map some/\PySem.W.kitAny X.K (.ref C) cvs=some b/\Q (.bl b) H):=by
 intro pins s σ H xs us Q I r h;obtain⟨a,C,tp,cs,cvs,b,rfl,ea,k,et,hc,hk,q⟩:=h;obtain⟨u,us',rfl,rx,r2⟩:∃u us',us=u::us'/\RelV (.ref a) u/\Vals [.ref tp] us':=by cases r with|cons a b=>exact⟨_,_,rfl,a,b⟩
 obtain⟨v,rfl,rc⟩:∃v,us'=[v]/\RelV (.ref tp) v:=by cases r2 with|cons a b=>cases b;exact⟨_,rfl,a⟩
 cases (show u=Value.ref a from rx);cases (show v=Value.ref tp from rc);obtain⟨p,_⟩:=(show ObjOk X.prog X.w H s.heap a (b3j a (.ref C)) from I.hok a _ ea);obtain⟨_,its,rt,o,h1,h2,n,h3⟩:=(show ObjOk X.prog X.w H s.heap tp (.tup cs) from I.hok tp _ et);have e:=a9r hc rt;subst e;obtain⟨oc,od,oda,osl⟩:=o;dsimp only at h2 h3;subst h2 h3;exact PySem.W.kia_tup (b2a k) I.kIn p h1 hk (λz=>nomatch z) λtk=>⟨.bl b,H,I.tok tk,rfl,q⟩
end
end L2
namespace L2
open PySem PySem.Spec PyProof.Rows
inductive EqD(K:Frag)(H:Hp):Nat->V->V->Bool->Prop where
 | flat {n:Nat} {x y:V} (fx:z9 x=true) (fy:z9 y=true):EqD K H n x y (eqV x y)
 | lst {n:Nat} {p q:Addr} {xs ys:List V} {e:Nat->Bool} (ne:p≠q) (hp:SqL K H p xs) (hq:SqL K H q ys) (hl:xs.length=ys.length)
   (h:∀(j:Nat)(x y:V),xs[j]?=some x->ys[j]?=some y->EqD K H n x y (e j)):EqD K H (n+1) (.ref p) (.ref q) ((List.range xs.length).all e)
 | lstN {n:Nat} {p q:Addr} {xs ys:List V} (ne:p≠q) (hp:SqL K H p xs) (hq:SqL K H q ys) (hl:xs.length≠ys.length):EqD K H (n+1) (.ref p) (.ref q) false
 | tup {n:Nat} {p q:Addr} {xs ys:List V} {e:Nat->Bool} (ne:p≠q) (hp:SqT K H p xs) (hq:SqT K H q ys)
   (h:∀(j:Nat)(x y:V),xs[j]?=some x->ys[j]?=some y->EqD K H n x y (e j)):EqD K H (n+1) (.ref p) (.ref q) ((List.range (min xs.length ys.length)).all e && xs.length == ys.length)
 | self {n:Nat} {p:Addr} {xs:List V} (hp:SqT K H p xs):EqD K H n (.ref p) (.ref p) true
theorem Vals.at{xs:List V}{us:List Value}(r:Vals xs us){j:Nat}(h:j<us.toArray.size):∃x,xs[j]?=some x/\RelV x us.toArray[j]:=by
 have hl:j<xs.length:=by rw[r.length];simpa using h
 obtain⟨u,e,q⟩:=r.get (List.getElem?_eq_getElem hl);refine⟨xs[j],List.getElem?_eq_getElem hl,?_⟩;have:us.toArray[j]=u:=by
  simp only[List.getElem_toArray];have:=List.getElem?_eq_some_iff.mp e;exact this.2
 rw[this];exact q
section
variable{X:Cx}{pins:List (Addr×Obj)}{σ:St}{H:Hp}{s:Shared}
theorem b2j(I:Inv X pins σ H s){n:Nat}{x y:V}{b:Bool}(d:EqD X.K H n x y b):∀{A:Around}{u v:Value},RelV x u->RelV y v->A.units+n<cLine->SeqAt.EqAt A s u v b:=by
 induction d with
 | flat fx fy=>intro A u v rx ry hu;exact b8l rx ry fx fy
 | @lst n p q xs ys e ne hp hq hl h ih=>
  intro A u v rx ry hu;cases rx;cases ry;obtain⟨i1,r1,p1,z1⟩:=I.list hp;obtain⟨i2,r2,p2,z2⟩:=I.list hq;have e1:=r1.length;have e2:=r2.length;rw[show xs.length=i1.toArray.size by simpa using e1]
  refine SeqAt.EqAt.of_refs ne (SeqAt.RcAt.lists p1.isList p2.isList (by simp only[List.size_toArray];lia) (by lia) λj h1 h2=>?_)
  obtain⟨a,ea,ra⟩:=r1.at h1;obtain⟨c,ec,rc⟩:=r2.at h2;exact ih j a c ea ec ra rc (by show A.units+1+n<cLine;lia)
 | @lstN n p q xs ys ne hp hq hl=>
  intro A u v rx ry hu;cases rx;cases ry;obtain⟨i1,r1,p1,z1⟩:=I.list hp;obtain⟨i2,r2,p2,z2⟩:=I.list hq;have e1:=r1.length;have e2:=r2.length;exact SeqAt.EqAt.of_refs ne (SeqAt.RcAt.lists_lengths p1.isList p2.isList (by simp only[List.size_toArray,bne_iff_ne];lia) (by lia))
 | @tup n p q xs ys e ne hp hq h ih=>
  intro A u v rx ry hu;cases rx;cases ry;obtain⟨i1,r1,p1,z1⟩:=I.tuple hp;obtain⟨i2,r2,p2,z2⟩:=I.tuple hq;have e1:=r1.length;have e2:=r2.length;rw[show xs.length=i1.toArray.size by simpa using e1,show ys.length=i2.toArray.size by simpa using e2]
  refine SeqAt.EqAt.of_refs ne (SeqAt.RcAt.tuples p1 p2 (by lia) λj h1 h2=>?_)
  obtain⟨a,ea,ra⟩:=r1.at h1;obtain⟨c,ec,rc⟩:=r2.at h2;exact ih j a c ea ec ra rc (by show A.units+1+n<cLine;lia)
 | self hp=>
  intro A u v rx ry hu;cases rx;cases ry;exact SeqAt.EqAt.same _
theorem b2s(k:Nat):((List.range (min k k)).all (λ_=>true) && k == k)=true:=by simp
theorem c1i{n:Nat}(hu:X.A.units+(n+1)<cLine):OpR X (compareOp .Eq) (λx y H Q=>∃p q b,x=.ref p/\y=.ref q/\EqD X.K H (n+1) x y b/\Q (.bl b) H):=by
 intro pins s σ H x y v u Q I rx ry h;obtain⟨p,q,b,rfl,rfl,d,hq⟩:=h;cases rx;cases ry;cases d with
 | flat fx fy=>cases fx
 | @lst _ _ _ xs ys e ne h1 h2 hl h=>
  obtain⟨i1,r1,p1,z1⟩:=I.list h1;obtain⟨i2,r2,p2,z2⟩:=I.list h2;have e1:=r1.length;have e2:=r2.length;rw[show xs.length=i1.toArray.size by simpa using e1] at hq
  refine SeqAt.RcAt.lists p1.isList p2.isList (by simp only[List.size_toArray];lia) (by lia) (λj h1 h2=>?_) _ _ _ _ ⟨.bl _,H,I,rfl,hq⟩
  obtain⟨a,ea,ra⟩:=r1.at h1;obtain⟨c,ec,rc⟩:=r2.at h2;exact b2j I (h j a c ea ec) ra rc (by show X.A.units+1+n<cLine;lia)
 | @lstN _ _ _ xs ys ne h1 h2 hl=>
  obtain⟨i1,r1,p1,z1⟩:=I.list h1;obtain⟨i2,r2,p2,z2⟩:=I.list h2;have e1:=r1.length;have e2:=r2.length;exact SeqAt.RcAt.lists_lengths p1.isList p2.isList (by simp only[List.size_toArray,bne_iff_ne];lia) (by lia) _ _ _ _ ⟨.bl _,H,I,rfl,hq⟩
 | @tup _ _ _ xs ys e ne h1 h2 h=>
  obtain⟨i1,r1,p1,z1⟩:=I.tuple h1;obtain⟨i2,r2,p2,z2⟩:=I.tuple h2;have e1:=r1.length;have e2:=r2.length;rw[show xs.length=i1.toArray.size by simpa using e1,show ys.length=i2.toArray.size by simpa using e2] at hq
  refine SeqAt.RcAt.tuples p1 p2 (by lia) (λj h1 h2=>?_) _ _ _ _ ⟨.bl _,H,I,rfl,hq⟩
  obtain⟨a,ea,ra⟩:=r1.at h1;obtain⟨c,ec,rc⟩:=r2.at h2;exact b2j I (h j a c ea ec) ra rc (by show X.A.units+1+n<cLine;lia)
 | @self _ _ xs hp=>
  obtain⟨i1,r1,p1,z1⟩:=I.tuple hp;rw[<- b2s i1.toArray.size] at hq;exact SeqAt.RcAt.tuples p1 p1 (by lia) (λj h1 h2=>SeqAt.EqAt.same _) _ _ _ _ ⟨.bl _,H,I,rfl,hq⟩
theorem c1g{n:Nat}(hu:X.A.units+(n+1)<cLine):OpR X (compareOp .NotEq) (λx y H Q=>∃p q b,x=.ref p/\y=.ref q/\EqD X.K H (n+1) x y b/\Q (.bl (!b)) H):=by
 intro pins s σ H x y v u Q I rx ry h;obtain⟨p,q,b,rfl,rfl,d,hq⟩:=h;cases rx;cases ry;cases d with
 | flat fx fy=>cases fx
 | @lst _ _ _ xs ys e ne h1 h2 hl h=>
  obtain⟨i1,r1,p1,z1⟩:=I.list h1;obtain⟨i2,r2,p2,z2⟩:=I.list h2;have e1:=r1.length;have e2:=r2.length;rw[show xs.length=i1.toArray.size by simpa using e1] at hq
  refine SeqAt.RcNeAt.lists p1.isList p2.isList (by simp only[List.size_toArray];lia) (by lia) (λj h1 h2=>?_) _ _ _ _ ⟨.bl _,H,I,rfl,hq⟩
  obtain⟨a,ea,ra⟩:=r1.at h1;obtain⟨c,ec,rc⟩:=r2.at h2;exact b2j I (h j a c ea ec) ra rc (by show X.A.units+1+n<cLine;lia)
 | @lstN _ _ _ xs ys ne h1 h2 hl=>
  obtain⟨i1,r1,p1,z1⟩:=I.list h1;obtain⟨i2,r2,p2,z2⟩:=I.list h2;have e1:=r1.length;have e2:=r2.length;exact SeqAt.RcNeAt.lists_lengths p1.isList p2.isList (by simp only[List.size_toArray,bne_iff_ne];lia) (by lia) _ _ _ _ ⟨.bl _,H,I,rfl,hq⟩
 | @tup _ _ _ xs ys e ne h1 h2 h=>
  obtain⟨i1,r1,p1,z1⟩:=I.tuple h1;obtain⟨i2,r2,p2,z2⟩:=I.tuple h2;have e1:=r1.length;have e2:=r2.length;rw[show xs.length=i1.toArray.size by simpa using e1,show ys.length=i2.toArray.size by simpa using e2] at hq
  refine SeqAt.RcNeAt.tuples p1 p2 (by lia) (λj h1 h2=>?_) _ _ _ _ ⟨.bl _,H,I,rfl,hq⟩
  obtain⟨a,ea,ra⟩:=r1.at h1;obtain⟨c,ec,rc⟩:=r2.at h2;exact b2j I (h j a c ea ec) ra rc (by show X.A.units+1+n<cLine;lia)
 | @self _ _ xs hp=>
  obtain⟨i1,r1,p1,z1⟩:=I.tuple hp;rw[<- b2s i1.toArray.size] at hq;exact SeqAt.RcNeAt.tuples p1 p1 (by lia) (λj h1 h2=>SeqAt.EqAt.same _) _ _ _ _ ⟨.bl _,H,I,rfl,hq⟩
end
def eqL:List V->List V->Bool
 | [],[]=>true
 | x::xs,y::ys=>eqV x y && eqL xs ys
 | _,_=>false
theorem b5r:∀{xs ys:List V},xs.length≠ys.length->eqL xs ys=false
 | [],[],h=>absurd rfl h
 | [],_::_,_=>rfl
 | _::_,[],_=>rfl
 | x::xs,y::ys,h=>by
  show(eqV x y && eqL xs ys)=false;rw[b5r (λe=>h (by simp[e])),Bool.and_false]
theorem a5x(e:Nat->Bool)(n:Nat):(List.range (n+1)).all e=(e 0 && (List.range n).all λj=>e (j+1)):=by
 rw[List.range_succ_eq_map,List.all_cons,List.all_map]
 rfl
theorem a9n:∀{xs ys:List V},xs.length=ys.length->(List.range xs.length).all (λj=>eqV (xs.getD j .non) (ys.getD j .non))=eqL xs ys
 | [],[],_=>rfl
 | [],_::_,h=>by cases h
 | _::_,[],h=>by cases h
 | x::xs,y::ys,h=>by
  have h':xs.length=ys.length:=by simpa using h
  rw[List.length_cons,a5x];have e:=a9n h';simp only[List.getD_cons_zero,List.getD_cons_succ];rw[e]
  rfl
theorem b2i{K:Frag}{H:Hp}{p q:Addr}{xs ys:List V}(ne:p≠q)(hp:SqL K H p xs)(hq:SqL K H q ys)(fx:xs.all z9=true)(fy:ys.all z9=true):EqD K H 1 (.ref p) (.ref q) (eqL xs ys):=by
 by_cases h:xs.length=ys.length
 ·rw[<- a9n h]
  refine EqD.lst ne hp hq h λj x y hx hy=>?_;have e1:xs.getD j .non=x:=by rw[List.getD_eq_getElem?_getD,hx];rfl
  have e2:ys.getD j .non=y:=by rw[List.getD_eq_getElem?_getD,hy];rfl
  show EqD K H 0 x y (eqV (xs.getD j .non) (ys.getD j .non));rw[e1,e2];exact EqD.flat (List.all_eq_true.mp fx x (List.mem_of_getElem? hx)) (List.all_eq_true.mp fy y (List.mem_of_getElem? hy))
 ·rw[b5r h]
  exact EqD.lstN ne hp hq h
theorem b2l:∀(ns ms:List Int),eqL (ns.map V.int) (ms.map V.int)=decide (ns=ms)
 | [],[]=>by simp[eqL]
 | [],_::_=>by simp[eqL]
 | _::_,[]=>by simp[eqL]
 | n::ns,m::ms=>by
  show(eqV (.int n) (.int m) && eqL (ns.map V.int) (ms.map V.int))=_;rw[b2l ns ms];show((n == m) && decide (ns=ms))=_;by_cases h:n=m
  ·subst h;simp
  ·simp[h]
theorem b5s:∀(ns ms:List Bool),eqL (ns.map V.bl) (ms.map V.bl)=decide (ns=ms)
 | [],[]=>by simp[eqL]
 | [],_::_=>by simp[eqL]
 | _::_,[]=>by simp[eqL]
 | n::ns,m::ms=>by
  show(eqV (.bl n) (.bl m) && eqL (ns.map V.bl) (ms.map V.bl))=_;rw[b5s ns ms];show((n == m) && decide (ns=ms))=_;by_cases h:n=m
  ·subst h;simp
  ·simp[h]
theorem a9l(ns:List Int):(ns.map V.int).all z9=true:=by simp[z9]
theorem b2e(ns:List Bool):(ns.map V.bl).all z9=true:=by simp[z9]
end L2
namespace L2
open PySem PySem.Spec PyProof.Rows
def j9(X:Cx)(N:List Str)(scope:Scope)(cl:List (Str×Addr))(C:Addr)(s:Shared)(H:Hp)(ex:List Addr)(pn:List (Addr×Obj)):Cx :=
 { prog:=X.prog,w:=X.w,K:=X.K,mg:=X.mg,base:=X.base,A:=X.A,N:=N,s₀:=s,H₀:=H,env:=compEnvC scope cl C X.env,outer:=X.stack,stack:=X.stack,ex:=ex,fn:=λ_=>false,calm:=X.calm,pn:=pn,xe:=λ_ _=>False }
def j2(nt:Nat)(fr:List Nat)(σ:St):St:=List.replicate nt none++fr.map λj=>(σ[j]?).join
def b6k(wi:TI)(nt:Nat)(fr:List Nat)(g:TG)(te:TE):TE:=λσ H Q=>wi σ H λJ H1=>∀D,H1 D=none->∃(n:Nat)(W:Nat->List V->Hp->Prop),W 0 [] (upd H1 D (.lst [])) /\
 ∀i acc H,W i acc H->H D=some (.lst acc)/\acc.length<sizeLine /\
  ((J.stop i H/\Q (.ref D) H)\/(i<n/\J.go i H/\∀x H',J.yld i H x H'->g x (j2 nt fr σ) H' λσ2 H2=>te σ2 H2 λy H3=>H3 D=some (.lst acc)/\W (i+1) (acc++[y]) (upd H3 D (.lst (acc++[y])))))
def a4e(nt:Nat)(g:TG):Prop:=∀(x:V)(σ:St)(H:Hp)(Q:St->Hp->Prop),g x σ H Q->g x σ H λσ2 H2=>(∀j,nt<=j->σ2[j]?=σ[j]?)/\Q σ2 H2
theorem a0j{i nt:Nat}(h:i<nt):a4e nt (b0z i):=λx σ H Q q=>⟨λj hj=>List.getElem?_set_ne (by lia),q⟩
structure CompOk(X:Cx)(N:List Str)(scope:Scope)(cl:List (Str×Addr))(nt:Nat)(fr:List Nat):Prop where
 clos:closureFor scope X.env=pure cl
 kind:scope.kind=.function
 cell:∀y∈scope.names,y.2≠.cell
 names:∀y∈scope.names,y.2=.local->scope.names.lookup y.1=some .local
 sub:∀p∈cl,X.env.cells.lookup p.1=some p.2
 has:((relabel scope X.env).names.all λy=>!(y.2 == .cell || y.2 == .free) || (cl.lookup y.1).isSome)=true
 len:N.length=nt+fr.length
 frn:∀(j i:Nat),fr[j]?=some i->∃x,N[nt+j]?=some x/\X.N[i]?=some x/\(X.env.kindOf x=some .cell\/X.env.kindOf x=some .free)/\((relabel scope X.env).names.lookup x=some .cell\/(relabel scope X.env).names.lookup x=some .free)
section
variable{X:Cx}{pins:List (Addr×Obj)}{σ:St}{H:Hp}{s:Shared}{N:List Str}{scope:Scope}{cl:List (Str×Addr)}{nt:Nat}{fr:List Nat}
theorem CompOk.cl_at(k:CompOk X N scope cl nt fr){x:Str}{c:Addr}(h:cl.lookup x=some c):X.env.cells.lookup x=some c:=k.sub (x,c) (PySem.mem_of_lookup h)
theorem CompOk.start(k:CompOk X N scope cl nt fr)(I:Inv X pins σ H s){C:Addr}{h':Heap}{t':Nat}{ex:List Addr}(hex:∀b∈ex,b2u X pins H b/\b<s.heap.objs.size)(hC:s.heap.objs.size<=C)(hn:h'.Ns C λ_=>none)(hk:∀b o,s.heap.get? b=some o->h'.get? b=some o):
  Inv (j9 X N scope cl C s H ex (X.pn++pins)) [] (j2 nt fr σ) H { s with heap:=h',toks:=t' }:=by
 have ncell:∀x c,cl.lookup x=some c->c<s.heap.objs.size:=λx c e=>by
  obtain⟨v,z⟩:=I.cell x c (k.cl_at e);exact z.lt
 refine⟨⟨I.ok.mod,?_,I.ok.glob,I.ok.blt,hC,λx y c h1 h2=>I.ok.inj x y c (k.cl_at h1) (k.cl_at h2),λx hx=>?_,λx c hf _=>(nomatch hf),I.ok.hd,I.ok.frames,.inl rfl,λb hb=>⟨?_,λx c e=>?_⟩,I.bs,?_,λb o e hb=>?_,λb hb z=>?_,I.stack,I.stkFree⟩,
  rfl,I.bare,Un.kept hk,⟨_,hn,λi x v e1 e2 e3=>?_⟩,λx c e=>?_,I.hok.fresh hC,λx c e=>I.freeC x c (k.cl_at e),λp hp=>?_,I.hok.kept hk,?_⟩
 ·show(relabel scope X.env).kind=.function
  exact k.kind
 ·have hx:(relabel scope X.env).names.lookup x=some .cell\/(relabel scope X.env).names.lookup x=some .free:=hx
  have hall:=List.all_eq_true.mp k.has;rcases hx with hx|hx
  ·have:=hall _ (PySem.mem_of_lookup hx)
   simp only[beq_self_eq_true,Bool.true_or,Bool.not_true,Bool.false_or] at this;exact Option.isSome_iff_exists.mp this
  ·have:=hall _ (PySem.mem_of_lookup hx)
   simp only[beq_self_eq_true,Bool.or_true,Bool.not_true,Bool.false_or] at this;exact Option.isSome_iff_exists.mp this
 ·exact Nat.ne_of_lt (Nat.lt_of_lt_of_le (hex b hb).2 hC)
 ·exact(hex b hb).1.2.2.2.2.1 x c (k.cl_at e)
 ·exact Nat.le_trans I.ok.bsz I.sz
 ·obtain⟨_,_,_,h4,_⟩:=(hex b hb).1
  have hs:=(I.ok.bs b o e).1;rcases h4 with z|z
  ·exact I.ok.noex b o e z
  ·exact absurd (Nat.lt_of_lt_of_le (Heap.lt_size hs) z) (Nat.lt_irrefl _)
 ·rcases List.mem_cons.mp (I.stkSub b z) with y|y
  ·exact(hex b hb).1.2.1 y
  ·exact(hex b hb).1.2.2.1 y
 ·have hi:¬ i<nt:=λhi=>by
   unfold j2 at e2;rw[List.getElem?_append_left (by simpa using hi),List.getElem?_replicate] at e2
   split at e2 <;> cases e2
  obtain⟨j,rfl⟩:∃j,i=nt+j:=⟨i-nt,by lia⟩
  unfold j2 at e2;rw[List.getElem?_append_right (by simp),List.length_replicate,Nat.add_sub_cancel_left,List.getElem?_map] at e2
  cases hj:fr[j]? with
  | none=>rw[hj] at e2;cases e2
  | some i'=>
   rw[hj] at e2;have e2:(σ[i']?).join=some v:=Option.some.inj e2;have e4:σ[i']?=some (some v):=by
    cases z:σ[i']? with
    | none=>rw[z] at e2;cases e2
    | some y=>rw[z] at e2;rw[show y=some v from e2]
   obtain⟨x',n1,n2,n3,n4⟩:=k.frn j i' hj;have e1:N[nt+j]?=some x:=e1;rw[n1] at e1;cases e1;obtain⟨m,hm,hl⟩:=I.loc;obtain⟨u,r,l⟩:=hl i' x v n2 e4 (n3.elim (λz=>.inr (.inl z)) λz=>.inr (.inr z));refine⟨u,r,.inr ⟨n4,?_⟩⟩;rcases l with ⟨z,_⟩|⟨_,c,hc,hcell⟩
   ·rcases n3 with y|y <;> (rw[z] at y;cases y)
   ·have hall:=List.all_eq_true.mp k.has
    have hs:(cl.lookup x).isSome=true:=by
     rcases n4 with y|y
     ·have:=hall _ (PySem.mem_of_lookup y)
      simpa using this
     ·have:=hall _ (PySem.mem_of_lookup y)
      simpa using this
    obtain⟨c',hc'⟩:=Option.isSome_iff_exists.mp hs;have z:=k.cl_at hc';rw[hc] at z;cases z;exact⟨c,hc',hcell.elim λo ho=>⟨o,hk _ _ ho.1,ho.2⟩⟩
 ·obtain⟨v,o,ho,hd⟩:=I.cell x c (k.cl_at e)
  exact⟨v,o,hk _ _ ho,hd⟩
 ·obtain⟨e,n,ne,nf,d⟩:=I.pin p (by have hp:p∈(X.pn++pins)++[]:=hp;rw[List.append_nil] at hp;exact hp)
  refine⟨hk _ _ e,n,Nat.ne_of_lt (Nat.lt_of_lt_of_le (Heap.lt_size e) hC),λz=>?_,d⟩;rcases List.mem_cons.mp (I.stkSub _ z) with y|y
  ·exact ne y
  ·exact nf y
 ·show(j2 nt fr σ).length=N.length
  unfold j2;rw[List.length_append,List.length_replicate,List.length_map,k.len]
theorem Inv.blockEnd{ex:List Addr}{C:Addr}{σ':St}{H H':Hp}{s':Shared}{h'':Heap}{pn' pins':List (Addr×Obj)}(I:Inv X pins σ H s)(hex:∀b∈ex,b2u X pins H b)(J:Inv (j9 X N scope cl C s H ex pn') pins' σ' H' s')(hC:s.heap.objs.size<=C)(hs:Heap.SameBut C s'.heap h''):Inv X pins σ H' { s' with heap:=h'' }:=by
 have ne:∀b o,s.heap.get? b=some o->b≠C:=λb o e=>Nat.ne_of_lt (Nat.lt_of_lt_of_le (Heap.lt_size e) hC);refine I.call' (s':={ s' with heap:=h'' }) (ch:=ex) J.os ⟨λb o e n hb hx=>?_,λb o e n hb hx=>?_,J.base.free,λb o e hx=>?_,J.base.tups,J.base.frzs,J.base.tbls⟩ ?_ J.bare λb hb=>⟨(hex b hb).2.2.2.1,(hex b hb).2.1,(hex b hb).2.2.2.2.1,(hex b hb).2.2.2.2.2⟩
 ·exact(hs.2 b (ne b o e)).trans (J.base.keep b o e n hb hx)
 ·obtain⟨sl,e1⟩:=J.base.slot b o e n hb hx
  exact⟨sl,(hs.2 b (ne b o e)).trans e1⟩
 ·obtain⟨o',e1⟩:=J.base.there b o e hx
  exact⟨o',(hs.2 b (ne b o e)).trans e1⟩
 ·exact z6 J.hok λb o u e q=>(hs.2 b (λz=>by
   have:=J.free;rw[show(j9 X N scope cl C s H ex pn').env.locals=C from rfl,<- z,e] at this;cases this)).trans q
def a4r(wi:TI)(nt:Nat)(fr:List Nat)(g:TG)(tt:TT)(te:TE):TE:=λσ H Q=>wi σ H λJ H1=>∀D,H1 D=none->∃(n:Nat)(W:Nat->List V->Hp->Prop),W 0 [] (upd H1 D (.lst [])) /\
 ∀i acc H,W i acc H->H D=some (.lst acc)/\acc.length<sizeLine /\
  ((J.stop i H/\Q (.ref D) H)\/(i<n/\J.go i H/\∀x H',J.yld i H x H'->g x (j2 nt fr σ) H' λσ2 H2=>tt σ2 H2 λc H3=>if c=true then (te σ2 H3 λy H4=>H4 D=some (.lst acc)/\W (i+1) (acc++[y]) (upd H4 D (.lst (acc++[y])))) else W (i+1) acc H3))
def PTs(X:Cx)(ifs:List Expr)(t:TT):Prop:=∀(pins:List (Addr×Obj))(s:Shared)(σ:St)(H:Hp)(Q:Bool->Hp->Prop),Inv X pins σ H s->t σ H Q->wpAny (model X.prog X.w) X.A (forIn ifs true λc r=>if r=true then do let ok <- isTrue c X.env (eval c X.env);pure (ForInStep.yield ok) else pure (ForInStep.yield r)) (TP X pins σ Q) X.xe s
theorem b8y{e:Expr}{t:TT}(h:PT X e t):PTs X [e] t:=λ_ s σ H Q I q=>wpAny_tests_one (h _ s σ H Q I q)
theorem b4f:PTs X [] (λ_ H Q=>Q true H):=λ_ s σ H Q I q=>wpAny_tests_nil ⟨H,I,q⟩
theorem a9q{elt iter tg:Expr}{ifs:List Expr}{pos pos':Pos}{wi:TI}{g:TG}{te:TE}{tt:TT}{use:Option (Value->Sem Unit)}{PQ:Value->Shared->Prop}{Q:VK}(hc:X.calm=true)(k:CompOk X N scope cl nt fr)(hi:PI X tg iter wi)(gk:a4e nt g)(hg:∀C s H ex pn',PG (j9 X N scope cl C s H ex pn') tg g)(ht:∀C s H ex pn',PTs (j9 X N scope cl C s H ex pn') ifs tt)(he:∀C s H ex pn',PE (j9 X N scope cl C s H ex pn') elt te)(hs:∀x,foldedSetIterable iter X.env x=pure x)(I:Inv X pins σ H s)(h:a4r wi nt fr g tt te σ H Q)(fin:∀{H3:Hp} {s3:Shared} {C D:Addr} {fp:List Addr} {H6:Hp} {s7:Shared},Inv X pins σ H3 s3->(∀b∈fp,b2u X pins H3 b)->s3.heap.objs.size<=C->Inv (j9 X N scope cl C s3 H3 fp (X.pn++pins)) [] (j2 nt fr σ) H6 s7->Q (.ref D) H6->compPost (model X.prog X.w) X.A X.xe use PQ (.ref D) C (.ok .next) s7):
  wpAny (model X.prog X.w) X.A (comprehension (.ListComp elt [⟨tg,iter,ifs,0⟩] scope pos) scope X.env pos' (newList []) false (eval iter X.env) use) PQ X.xe s:=by
 refine wpAny_comprehension_free rfl hs k.clos k.kind k.names (thn (hi pins s σ H _ I h) λxv s1 h1=>thn h1 λitv s2 h2=>?_);obtain⟨it,fp,tn,J,H2,rfl,I2,T,st2,f2,R2⟩:=h2;obtain⟨n,W,w0,turn⟩:=R2 _ I2.fresh;have I3:Inv X pins σ (upd H2 s2.heap.objs.size (.lst [])) { s2 with heap:=s2.heap.push { cls:=.type "list",data:=.seq ([]:List Value).toArray } }:=I2.lnew (its:=[]) (t':=s2.toks) .nil (Nat.zero_le _)
 have fp2:∀b∈fp,b<s2.heap.objs.size:=λb hb=>by
  obtain⟨o,e,_⟩:=T.obj _ _ st2 b hb;exact Heap.lt_size e
 have f3:∀b∈fp,b2u X pins (upd H2 s2.heap.objs.size (.lst [])) b:=λb hb=>⟨by rw[f6 (Nat.ne_of_lt (fp2 b hb))];exact(f2 b hb).1,(f2 b hb).2⟩
 refine wpAny_newObj_type (hd:=by show(0:Nat)<=_;exact Nat.zero_le _) ?_
 have hsz:({ s2 with heap:=s2.heap.push { cls:=.type "list",data:=.seq ([]:List Value).toArray } }:Shared).heap.objs.size=s2.heap.objs.size+1:=Heap.size_push _ _
 have kp:∀b o,s2.heap.get? b=some o->({ s2 with heap:=s2.heap.push { cls:=.type "list",data:=.seq ([]:List Value).toArray } }:Shared).heap.get? b=some o:=λb o e=>Heap.get?_push_of_some _ e
 generalize ({ s2 with heap:=s2.heap.push { cls:=.type "list",data:=.seq ([]:List Value).toArray } }:Shared)=s3 at *
 have dn:∀b∈fp,b<s3.heap.objs.size:=λb hb=>by rw[hsz];exact Nat.lt_succ_of_lt (fp2 b hb)
 refine wpAny_newFunctionEnv k.cell (by intro y hy;cases hy) (λh4 hns hsb=>?_) k.kind
 have keep4:∀b o,s3.heap.get? b=some o->h4.get? b=some o:=λb o e=>(hsb.2 b (Nat.ne_of_lt (Heap.lt_size e))).trans (Heap.get?_push_of_some _ e);have I4:=k.start I3 (C:=s3.heap.objs.size) (h':=h4) (t':=s3.toks) (ex:=fp) (λb hb=>⟨f3 b hb,dn b hb⟩) (Nat.le_refl _) hns keep4;have st4:tn 0 h4:=T.keep _ _ _ st2 λb hb o e=>keep4 b o (kp b o e);generalize hC:s3.heap.objs.size=C at I4 hns;have hC3:s3.heap.objs.size<=C:=Nat.le_of_eq hC;generalize hH:upd H2 s2.heap.objs.size (.lst [])=H3 at *;generalize s2.heap.objs.size=D at *;have stat:∀{H':Hp},(∀b∈fp,H' b=none)->∀b∈fp,b2u (j9 X N scope cl C s3 H3 fp (X.pn++pins)) [] H' b:=λ{H'} hn b hb=>by
  refine⟨hn b hb,Nat.ne_of_lt (Nat.lt_of_lt_of_le (dn b hb) hC3),λz=>?_,.inl hb,λx c e=>(f2 b hb).2.2.2.2.1 x c (k.cl_at e),λp hp=>(f2 b hb).2.2.2.2.2 p (by have hp:p∈(X.pn++pins)++[]:=hp;rw[List.append_nil] at hp;exact hp)⟩
  rcases List.mem_cons.mp (I2.stkSub b z) with y|y
  ·exact(f2 b hb).2.1 y
  ·exact(f2 b hb).2.2.1 y
 have loop:∀s5:Shared,s5={ s3 with heap:=h4,toks:=s3.toks }->codeAny (model X.prog X.w) X.A (.compLoop (.ListComp elt [⟨tg,iter,ifs,0⟩] scope pos) 0 (.ref it) (.ref D) (compEnvC scope cl C X.env)) (compPost (model X.prog X.w) X.A X.xe use PQ (.ref D) C) s5:=by
  rintro s5 rfl;refine codeAny_loop rfl (λm s'=>∃i acc H',m=n-i/\Inv (j9 X N scope cl C s3 H3 fp (X.pn++pins)) [] (j2 nt fr σ) H' s'/\tn i s'.heap/\(∀b∈fp,H' b=none)/\W i acc H') ?_ n ⟨0,[],_,rfl,I4,st4,λb hb=>(f3 b hb).1,w0⟩;rintro m s6 ⟨i,acc,H6,rfl,I6,st6,fr6,w6⟩;show wpAny _ _ ((compTurn (.ListComp elt [⟨tg,iter,ifs,0⟩] scope pos) 0 (.ref it) (.ref D) (compEnvC scope cl C X.env)).onRaise (λx=>do noteFrame x (compEnvC scope cl C X.env);theTreesLotGoes x)) _ _ s6
  refine wpAny_noted ?_;rw[compTurn_list];refine wpAny_bind (wpAny_standAt (wpAny_bind ?_));obtain⟨hD6,hz6,alt⟩:=turn i acc H6 w6;rcases alt with ⟨stop,qn⟩|⟨hin,go,step⟩
  ·refine wpAny_mono (T.done (j9 X N scope cl C s3 H3 fp (X.pn++pins)) rfl rfl rfl hc i [] s6 (j2 nt fr σ) H6 (λ_ _=>False) I6 (stat fr6) st6 stop) (λr s7 z0_=>?_) (λ_ _ z=>z.elim)
   obtain⟨hr,I7⟩:=z0_;subst hr;exact wpAny_pure (fin I3 f3 hC3 I7 qn)
  ·refine wpAny_mono (T.item (j9 X N scope cl C s3 H3 fp (X.pn++pins)) rfl rfl rfl hc i [] s6 (j2 nt fr σ) H6 (λ_ _=>False) I6 (stat fr6) st6 go) (λr s7 z0_=>?_) (λ_ _ z=>z.elim)
   obtain⟨u,hr,h7⟩:=z0_;subst hr;refine wpAny_bind (wpAny_mono h7 (λ_ s8 z0_=>?_) (λ_ _ z=>z.elim));obtain⟨x,H8,I8,r8,y8,st8,fr8⟩:=z0_;refine wpAny_bind (wpAny_mono (hg _ _ _ _ _ _ s8 _ H8 x u _ (I8.pinned (stat fr8) (T.obj _ _ st8)) r8 (gk _ _ _ _ (step x H8 y8))) (λ_ s9 z0_=>?_) (λ_ _ z=>z.elim));obtain⟨σ9,H9,I9,k9,q9⟩:=z0_;refine wpAny_bind (wpAny_mono (ht _ _ _ _ _ _ s9 σ9 H9 _ I9 q9) (λok s12 z0_=>?_) (λ_ _ z=>z.elim));obtain⟨H12,I12,q12⟩:=z0_;have weak:∀{H11:Hp}{s11:Shared},Inv (j9 X N scope cl C s3 H3 fp (X.pn++pins)) ([]++a8i fp s8.heap) σ9 H11 s11->Inv (j9 X N scope cl C s3 H3 fp (X.pn++pins)) [] (j2 nt fr σ) H11 s11/\tn (i+1) s11.heap/\∀b∈fp,H11 b=none:=λ{H11 s11} I11=>by
    refine⟨(I11.unpinned (pins:=[])).weak ?_ λj v' e=>?_,?_,λb hb=>?_⟩
    ·rw[I11.len,<- I4.len]
    ·by_cases hj:nt<=j
     ·rw[k9 j hj];exact e
     ·unfold j2 at e
      rw[List.getElem?_append_left (by rw[List.length_replicate];lia),List.getElem?_replicate] at e
      split at e <;> cases e
    ·exact T.keep _ _ _ st8 λb hb o e=>(I11.pin (b,o) (List.mem_append_right _ (List.mem_append_right _ (y6 hb e)))).1
    ·obtain⟨o,e,d⟩:=T.obj _ _ st8 b hb
     exact(I11.pin (b,o) (List.mem_append_right _ (List.mem_append_right _ (y6 hb e)))).2.1
   cases ok with
   | false=>
    rw[if_neg Bool.false_ne_true] at q12;obtain⟨z1,z2,z3⟩:=weak I12;exact wpAny_pure ⟨rfl,n-(i+1),by lia,i+1,acc,_,rfl,z1,z2,z3,q12⟩
   | true=>
    rw[if_pos rfl] at q12;refine wpAny_bind (wpAny_bind (wpAny_mono (he _ _ _ _ _ _ s12 σ9 H12 _ I12 q12) (λv s10 z0_=>?_) (λ_ _ z=>z.elim)));obtain⟨y,H10,I10,r10,hD10,q10⟩:=z0_;refine wpAny_bind (wpAny_mono (a5l (X:=j9 X N scope cl C s3 H3 fp (X.pn++pins)) _ s10 σ9 H10 (.ref D) [y] (.ref D) [v] (λv' H'=>v'=.non/\H'=upd H10 D (.lst (acc++[y]))) I10 rfl (.cons r10 .nil) ⟨_,acc,y,rfl,rfl,hD10,hz6,rfl,rfl⟩) (λv' s11 z0_=>?_) (λ_ _ z=>z.elim));obtain⟨_,H11,I11,_,_,e11⟩:=z0_;subst e11;obtain⟨z1,z2,z3⟩:=weak I11;exact wpAny_pure (wpAny_pure ⟨rfl,n-(i+1),by lia,i+1,acc++[y],_,rfl,z1,z2,z3,q10⟩)
 exact codeAny_compStart_list (loop _ rfl) (T.self _ 0 _ _ _ st4 (loop _ rfl))
theorem b1t{elt iter tg:Expr}{ifs:List Expr}{pos:Pos}{wi:TI}{g:TG}{te:TE}{tt:TT}(hc:X.calm=true)(k:CompOk X N scope cl nt fr)(hi:PI X tg iter wi)(gk:a4e nt g)(hg:∀C s H ex pn',PG (j9 X N scope cl C s H ex pn') tg g)(ht:∀C s H ex pn',PTs (j9 X N scope cl C s H ex pn') ifs tt)(he:∀C s H ex pn',PE (j9 X N scope cl C s H ex pn') elt te)(hs:∀x,foldedSetIterable iter X.env x=pure x):
  PE X (.ListComp elt [⟨tg,iter,ifs,0⟩] scope pos) (a4r wi nt fr g tt te):=by
 intro pins s σ H Q I h;rw[eval_ListComp];refine a9q hc k hi gk hg ht he hs I h λI3 f3 hC3 I7 qn=>?_;obtain⟨m7,hn7,_⟩:=id I7.loc;exact⟨m7,hn7,λh8 hs8=>⟨.ref _,_,I3.blockEnd f3 I7 hC3 hs8,rfl,qn⟩⟩
theorem a5h{elt iter tg:Expr}{pos:Pos}{wi:TI}{g:TG}{te:TE}(hc:X.calm=true)(k:CompOk X N scope cl nt fr)(hi:PI X tg iter wi)(gk:a4e nt g)(hg:∀C s H ex pn',PG (j9 X N scope cl C s H ex pn') tg g)(he:∀C s H ex pn',PE (j9 X N scope cl C s H ex pn') elt te)(hs:∀x,foldedSetIterable iter X.env x=pure x:=by intro _;rfl):
  PE X (.ListComp elt [⟨tg,iter,[],0⟩] scope pos) (b6k wi nt fr g te):=b1t hc k hi gk hg (λ_ _ _ _ _=>b4f) he hs
theorem a8l{elt iter tg ce:Expr}{pos:Pos}{wi:TI}{g:TG}{te:TE}{tt:TT}(hc:X.calm=true)(k:CompOk X N scope cl nt fr)(hi:PI X tg iter wi)(gk:a4e nt g)(hg:∀C s H ex pn',PG (j9 X N scope cl C s H ex pn') tg g)(ht:∀C s H ex pn',PT (j9 X N scope cl C s H ex pn') ce tt)(he:∀C s H ex pn',PE (j9 X N scope cl C s H ex pn') elt te)(hs:∀x,foldedSetIterable iter X.env x=pure x:=by intro _;rfl):
  PE X (.ListComp elt [⟨tg,iter,[ce],0⟩] scope pos) (a4r wi nt fr g tt te):=b1t hc k hi gk hg (λC s H ex pn'=>b8y (ht C s H ex pn')) he hs
end
end L2
namespace L2
open PySem PySem.Spec PyProof.Rows
structure FnT(P:Program)(w:World)(K:Frag)(mg:Str->Option Value)(base:Heap)(x:Str)(k:Nat)(ps:List Str)(sp:Sp):Prop where
 ex:∃(f:Addr)(fd:FuncData),b6c P w K mg base (CXK P w) k f fd ps sp/\mg x=some (.ref f)/\keepIn K (.ref f)=true/\Binds K fd ps []
theorem Fun.okX{P:Program}{w:World}{K:Frag}{mg:Str->Option Value}{base:Heap}{x qual:Str}{st:Stmt}{f:Addr}{fd:FuncData}{N ps:List Str}{k:Nat}{sp:Sp}(F:Fun K x qual st f fd)(S:g6 N ps (d8 st))(len:∀vs H Q E,sp vs H Q E->vs.length=ps.length)(hbody:∀(cdv:Value) (A:Around) (outer:List Env) (s:Shared) (H:Hp) (vs:List V) (Q:VK) (E:XK),Room k (A.deeper (envOfC qual (d8 st) s.heap.objs.size f cdv))->sp vs H Q E ->
   ∃t,PSs (a4h (CXK P w) P w K mg base N qual (d8 st) f cdv A outer s H E) (u3 st) t/\t { nx:=λ_ H'=>Q .non H',rt:=Q } (start N vs) H):b6c P w K mg base (CXK P w) (k+1) f fd ps sp:=by
 obtain⟨oc,od,kV,doc,pm,an,cdv,ct,osl,rfl,lk,hcd⟩:=F.ex;exact c4h lk hcd S len λA outer s H vs Q E hr hsp=>hbody cdv A outer s H vs Q E hr hsp
structure DefT(K:Frag)(mg:Str->Option Value)(x:Str)(st:Stmt)(ps:List Str):Prop where
 ex:∃(f:Addr)(fd:FuncData),Fun K x x st f fd/\mg x=some (.ref f)/\Binds K fd ps []
theorem DefT.fn{P:Program}{w:World}{K:Frag}{mg:Str->Option Value}{base:Heap}{x:Str}{st:Stmt}{N ps:List Str}{k:Nat}{sp:Sp}(D:DefT K mg x st ps)(S:g6 N ps (d8 st))(len:∀vs H Q E,sp vs H Q E->vs.length=ps.length)(hbody:∀(f:Addr) (cdv:Value) (A:Around) (outer:List Env) (s:Shared) (H:Hp) (vs:List V) (Q:VK) (E:XK),Room k (A.deeper (envOfC x (d8 st) s.heap.objs.size f cdv))->sp vs H Q E ->
   ∃t,PSs (a4h (CXK P w) P w K mg base N x (d8 st) f cdv A outer s H E) (u3 st) t/\t { nx:=λ_ H'=>Q .non H',rt:=Q } (start N vs) H):FnT P w K mg base x (k+1) ps sp:=by
 obtain⟨f,fd,F,hm,hb⟩:=D.ex;exact⟨f,fd,F.okX S len (hbody f),hm,F.kp,hb⟩
theorem DefT.mk'{K:Frag}{h:Heap}{mg:Str->Option Value}{x:Str}{st:Stmt}{ps:List Str}{f:Addr}{oc:Value}{od an:Option Addr}{osl:Array (Option Value)}{kV doc pm cdv ct:Value}(X:K.In h)(G:h.Ns mainGlobals mg)(a:nsIn K mainGlobals x=some (some (.ref f)))(l:K.lookup f=some ⟨oc,od,.func (PySem.W.fnOf x x (v9 st) (u3 st) (d8 st) .none kV doc pm an cdv ct),osl⟩)(c:codeIn K cdv x=true)(k:keepIn K (.ref f)=true)(hb:∀(kV doc pm:Value) (an:Option Addr) (cdv ct:Value) (us:List Value),us.length=ps.length->bindArgs (PySem.W.fnOf x x (v9 st) (u3 st) (d8 st) .none kV doc pm an cdv ct) ⟨us,[]⟩=pure (ps.zip us)):DefT K mg x st ps :=
 have F:=b8k (st:=st) (x:=x) (qual:=x) l c k
 ⟨_,_,F,mg_of X G a,F.binds hb⟩
def tFn(sp:Sp)(E:XK)(t:TA):TE:=λσ H Q=>t σ H λvs H1=>sp vs H1 Q E
section
variable{X:Cx}{k j:Nat}{ps:List Str}{sp:Sp}{E:XK}{J:St->XK}{x:Str}{p pos:Pos}{e:Expr}{es:List Expr}{t:TA}
theorem i0(G:FnT X.prog X.w X.K X.mg X.base x k ps sp)(hr:Room j X.A)(hj:k<=j)(hg:Gl X x)(hx:a6s (CXK X.prog X.w) X E)(ha:PA X (e::es) t)(hdb:(x == ("__debug__":Str))=false:=by decide)(he:starEach (e::es) X.env=(false,eval e X.env)::starEach es X.env:=by rfl)(hpl:(backTo pos (starEach es X.env)).any (·.1)=false:=by rfl):PE X (.Call (.Name x p) (e::es) [] pos) (tFn sp E t):=by
 obtain⟨f,fd,F,hm,hk,hb⟩:=G.ex;intro pins s σ H Q I h;refine b9f F (hr.mono hj) hg hm hk hb .nil hx ha hdb he hpl pins s σ H Q I ?_;show t σ H λvs H1=>sp (vs++[]) H1 Q E;simp only[List.append_nil];exact h
theorem c1c(G:FnT X.prog X.w X.K X.mg X.base x k ps sp)(hr:Room j X.A)(hj:k<=j)(hg:Gl X x)(hx:a7u X J)(ha:PA X (e::es) t)(hdb:(x == ("__debug__":Str))=false:=by decide)(he:starEach (e::es) X.env=(false,eval e X.env)::starEach es X.env:=by rfl)(hpl:(backTo pos (starEach es X.env)).any (·.1)=false:=by rfl):PE X (.Call (.Name x p) (e::es) [] pos) (b3w sp J t):=by
 obtain⟨f,fd,F,hm,hk,hb⟩:=G.ex;exact b6x F (hr.mono hj) hg hm hk hb hx ha hdb he hpl
theorem b9h{N:List Str}{scope:Scope}{cl:List (Str×Addr)}{C:Addr}{s:Shared}{H:Hp}{ex:List Addr}{pn':List (Addr×Obj)}:a6s (CXK X.prog X.w) (j9 X N scope cl C s H ex pn') E0:=by
 intro pins σ H' s' e s'' I h;obtain⟨_,_,_,_,_,q⟩:=h;exact q.elim
end
structure ExT(K:Frag)(mg:Str->Option Value)(x:Str)(C:Addr):Prop where
 k:ExK K C
 m:mg x=some (.ref C)
section
variable{X:Cx}
theorem a4b{P:Program}{w:World}{K:Frag}{mg:Str->Option Value}{base:Heap}{N:List Str}{qual:Str}{scope:Scope}{f:Addr}{cd:Value}{A:Around}{outer:List Env}{s₀:Shared}{H₀:Hp}{E₀:XK}{C:Addr}:
  b1j (a4h (CXK P w) P w K mg base N qual scope f cd A outer s₀ H₀ E₀) C E₀:=λpins σ H s h' e vs I hx q=>a8h I hx q
theorem j7{x:Str}{n:Int}{pos:Pos}(hm:∃t,X.mg x=some (.int n t))(hg:Gl X x)(hd:(x == ("__debug__":Str))=false:=by decide):PE X (.Name x pos) (tC (.int n)):=by
 obtain⟨t,h⟩:=hm;exact a5g hg h ⟨t,rfl⟩ hd
theorem a7c{x:Str}{C:Addr}{pos:Pos}(T:ExT X.K X.mg x C)(hg:Gl X x)(hd:(x == ("__debug__":Str))=false:=by decide):PE X (.Name x pos) (tC (.ref C)):=a5g hg T.m rfl hd
theorem b4l{x:Str}{n:String}{pos:Pos}(hm:X.mg x=none)(hv:bootBuiltins x=some (.type n))(hg:Gl X x)(hn:x≠"__name__":=by decide)(hd:(x == ("__debug__":Str))=false:=by decide):PE X (.Name x pos) (tC (.ty n)):=b9g hg hm hv rfl hn hd
theorem v6{x:Str}{C:Addr}{E:XK}{np cpos pos:Pos}{e₀:Expr}{rest:List Expr}{t:TA}(T:ExT X.K X.mg x C)(hc:X.calm=true)(hg:Gl X x)(hx:b1j X C E)(ha:PA X (e₀::rest) t)(hd:(x == ("__debug__":Str))=false:=by decide)(he:starEach (e₀::rest) X.env=(false,eval e₀ X.env)::starEach rest X.env:=by rfl)(hpl:(backTo cpos (starEach rest X.env)).any (·.1)=false:=by rfl):
  PS X (.Raise (some (.Call (.Name x np) (e₀::rest) [] cpos)) none pos) (b3u C E t):=b6s hc hg T.m T.k.ex hx ha hd he hpl
theorem b4n{o e:Expr}{to:TE}{t:TA}{apos cpos:Pos}(ho:PE X o to)(ha:PA X [e] t)(hbase:attributeBase o "append" X.env (eval o X.env)=eval o X.env:=by rfl)(hfew:↑2=true:=by rfl)(hline:(apos.endLine == cpos.line)=true:=by rfl)(hs:starEach [e] X.env=(false,eval e X.env)::starEach [] X.env:=by rfl)(hplain:(backTo cpos (starEach [] X.env)).any (·.1)=false:=by rfl):
  PE X (.Call (.Attribute o "append" apos) [e] [] cpos) (tBM X.K "list" a7a to t) :=
 a8m PySem.F.plainAttrs_list PySem.F.slot_list_append PySem.F.type_list_append (λpins s σ H x xs v us Q I rx rs q=>a5l pins s σ H x xs v us Q I rx rs q) ho ha hbase hfew hline hs hplain
theorem b6b(hc:X.calm=true):a0m X (.builtin "all") (λxs H Q=>∃(p:Addr)(bs:List Bool),xs=[.ref p]/\SqL X.K H p (bs.map V.bl)/\Q (.bl (bs.all id)) H):=by
 intro pins s σ H xs us Q I r h;obtain⟨p,bs,rfl,hq,q⟩:=h;obtain⟨u,rfl,rx⟩:=r.one;cases rx;obtain⟨its,ri,pl,hz⟩:=I.list hq;have hl:=pl.isList;have hlt:p<s.heap.objs.size:=by obtain⟨_,e,_⟩:=hl;exact Heap.lt_size e
 have hn:its.toArray.size=bs.length:=by have:=ri.length;simpa using this.symm
 have wl:=Walks.list (prog:=X.prog) (w:=X.w) (A:=X.A.in1) (I.ok.hd hc) s.heap.objs.size p (Nat.ne_of_lt hlt) its.toArray;refine call_all_walk (wpAny_pyIter_list hl ⟨_,_,_,_,_,_,(λi=>(bs[i]?).getD true),rfl,wl,⟨⟨_,Heap.get?_push_size _ rfl,rfl,rfl⟩,hl.push _⟩,?_,?_⟩)
 ·intro i v s' Q' E' hP hQ
  have hP:its.toArray[i]?=some v:=hP;have hP:its[i]?=some v:=by simpa using hP
  have hi:i<(bs.map V.bl).length:=by
   have:=(List.getElem?_eq_some_iff.mp hP).1;rw[ri.length];exact this
  obtain⟨u,e,q'⟩:=ri.get (List.getElem?_eq_getElem hi);rw[hP] at e;cases e;have hi':i<bs.length:=by simpa using hi
  have e2:(bs.map V.bl)[i]=V.bl bs[i]:=List.getElem_map _;rw[e2] at q';cases (show v=Value.bool bs[i] from q');simp only[List.getElem?_eq_getElem hi',Option.getD_some] at hQ;exact wpAny_truthy_bool hQ
 ·intro h' tk hk
  have e:((List.range its.toArray.size).all λi=>(bs[i]?).getD true)=bs.all id:=by rw[hn];exact LSm.range_all bs
  rw[e];exact⟨.bl _,H,I.kept (t':=tk) (LSm.kept_iter hk),rfl,q⟩
def c4m(_ j:Int):Prop:=0<j/\j.natAbs.log2<9000
theorem a0b:OpR X (binaryOp .FloorDiv) (rI c4m λi j=>.int (i / j)):=opI λi j _ _ _ _ _ hc q=>by
 have e:i / j=i.fdiv j:=(Int.fdiv_eq_ediv_of_nonneg i (Int.le_of_lt hc.1)).symm;rw[e] at q;exact floordiv_int (by have:=hc.1;lia) q (.inl (PyProof.noPylong_of_log2 hc.2))
theorem i3{K:Frag}(h:X.K=K:=by rfl):IxR X (c3h K):=h ▸ b9o
theorem b4z{K:Frag}(h:X.K=K:=by rfl):IxR X (c3g K):=h ▸ c1q
theorem a4k{K:Frag}(h:X.K=K:=by rfl):SlR X (c4x K):=h ▸ b8u
theorem c1h{K:Frag}(h:X.K=K:=by rfl):OpR X (compareOp .In) (rIn K false):=h ▸ b4p
theorem a8p{K:Frag}(h:X.K=K:=by rfl):OpR X (compareOp .NotIn) (rIn K true):=h ▸ a8o
def c5b(K:Frag)(n:Nat):R2:=λx y H Q=>∃p q b,x=.ref p/\y=.ref q/\EqD K H (n+1) x y b/\Q (.bl b) H
def c4y(K:Frag)(n:Nat):R2:=λx y H Q=>∃p q b,x=.ref p/\y=.ref q/\EqD K H (n+1) x y b/\Q (.bl (!b)) H
theorem b8d{K:Frag}{n:Nat}(hu:X.A.units+(n+1)<cLine)(h:X.K=K:=by rfl):OpR X (compareOp .Eq) (c5b K n):=h ▸ c1i hu
theorem b1v{K:Frag}{n:Nat}(hu:X.A.units+(n+1)<cLine)(h:X.K=K:=by rfl):OpR X (compareOp .NotEq) (c4y K n):=h ▸ c1g hu
def c5a(K:Frag):List V->Hp->VK->Prop:=λxs H Q=>∃x c t cv b,xs=[x,c]/\TyX K H x t/\b6e c=some cv/\kitOne K t cv=some b/\Q (.bl b) H
def c0y(K:Frag):List V->Hp->VK->Prop:=λxs H Q=>∃a C tp cs cvs b,xs=[.ref a,.ref tp]/\H a=some (b3j a (.ref C))/\ExK K C/\H tp=some (.tup cs)/\cs.map b6e=cvs.map some/\PySem.W.kitAny K (.ref C) cvs=some b/\Q (.bl b) H
def c4z(K:Frag):List V->Hp->VK->Prop:=λxs H Q=>∃p ys,xs=[.ref p]/\(SqL K H p ys\/SqT K H p ys)/\Q (.int ys.length) H
def b0m(K:Frag):List V->Hp->VK->Prop:=λxs H Q=>∃p ys,xs=[.ref p]/\(SqL K H p ys\/SqT K H p ys)/\∀l,H l=none->Q (.ref l) (upd H l (.lst ys))
def c5m(K:Frag):List V->Hp->VK->Prop:=λxs H Q=>∃(p:Addr)(bs:List Bool),xs=[.ref p]/\SqL K H p (bs.map V.bl)/\Q (.bl (bs.all id)) H
theorem a1t{K:Frag}(h:X.K=K:=by rfl):a0m X (.builtin "isinstance") (c5a K):=h ▸ b7v
theorem a6r{K:Frag}(h:X.K=K:=by rfl):a0m X (.builtin "isinstance") (c0y K):=h ▸ b5z
theorem i6{K:Frag}(h:X.K=K:=by rfl):a0m X (.builtin "len") (c4z K):=h ▸ a9y
theorem a1y{K:Frag}(h:X.K=K:=by rfl):a0m X (.type "list") (b0m K):=h ▸ a9x
theorem b0a{K:Frag}(hc:X.calm=true)(h:X.K=K:=by rfl):a0m X (.builtin "all") (c5m K):=h ▸ b6b hc
theorem u9{K:Frag}{tg l:Expr}{tl:TE}(hl:PE X l tl)(h:X.K=K:=by rfl):PI X tg l (b9s K tl):=h ▸ b9c hl
theorem t7{K:Frag}{o e:Expr}{to:TE}{t:TA}{apos cpos:Pos}(ho:PE X o to)(ha:PA X [e] t)(hK:X.K=K:=by rfl)(hbase:attributeBase o "append" X.env (eval o X.env)=eval o X.env:=by rfl)(hfew:↑2=true:=by rfl)(hline:(apos.endLine == cpos.line)=true:=by rfl)(hs:starEach [e] X.env=(false,eval e X.env)::starEach [] X.env:=by rfl)(hplain:(backTo cpos (starEach [] X.env)).any (·.1)=false:=by rfl):
  PE X (.Call (.Attribute o "append" apos) [e] [] cpos) (tBM K "list" a7a to t):=hK ▸ b4n ho ha hbase hfew hline hs hplain
theorem a0d{N:List Str}{scope:Scope}{nt:Nat}(clos:closureFor scope X.env=pure [])(kind:scope.kind=.function)(cell:∀y∈scope.names,y.2≠.cell)(names:∀y∈scope.names,y.2=.local->scope.names.lookup y.1=some .local)(has:((relabel scope X.env).names.all λy=>!(y.2 == .cell || y.2 == .free) || (([]:List (Str×Addr)).lookup y.1).isSome)=true)(len:N.length=nt):CompOk X N scope [] nt [] :=
 ⟨clos,kind,cell,names,λp hp=>(nomatch hp),has,len,λj i h=>by simp at h⟩
end
theorem huN{k:Nat}{A:Around}(hr:Room k A)(n:Nat)(h:n<=100:=by decide):A.units+n<cLine:=by
 have:=hr.un;lia
end L2
namespace L2
open PySem PySem.Spec PyProof.Rows
section
variable{X:Cx}{pins:List (Addr×Obj)}{σ:St}{H:Hp}{s:Shared}{N:List Str}{scope:Scope}{cl:List (Str×Addr)}{nt:Nat}{fr:List Nat}
theorem b0n{elt iter tg:Expr}{ifs:List Expr}{pos py spos:Pos}{y:Str}{ix:Nat}{wi:TI}{g:TG}{te:TE}{tt:TT}(hc:X.calm=true)(k:CompOk X N scope cl nt fr)(hi:PI X tg iter wi)(gk:a4e nt g)(hg:∀C s H ex pn',PG (j9 X N scope cl C s H ex pn') tg g)(ht:∀C s H ex pn',PTs (j9 X N scope cl C s H ex pn') ifs tt)(he:∀C s H ex pn',PE (j9 X N scope cl C s H ex pn') elt te)(hN:X.N.Nodup)(hi2:X.N[ix]?=some y)(hy:X.env.scope.names.lookup y=some .local)(hsw:swapsWith (.ListComp elt [⟨tg,iter,ifs,0⟩] scope pos) (some (.Name y py)) spos.line X.env=pure true)(hs:∀x,foldedSetIterable iter X.env x=pure x):
  PS X (.Assign [.Name y py] (.ListComp elt [⟨tg,iter,ifs,0⟩] scope pos) spos) (c0u (a4r wi nt fr g tt te) (b0z ix)):=by
 intro pins s σ H DD I h;rw[exec_Assign_Name_used _ _ _ _ hsw];refine wpAny_bind (wpAny_standAt (wpAny_bind ?_));show wpAny _ X.A (do let _ <- comprehension (.ListComp elt [⟨tg,iter,ifs,0⟩] scope pos) scope X.env _ (newList []) false (eval iter X.env) (some (assign (.Name y py) X.env))) _ _ s
 refine wpAny_bind (wpAny_mono (a9q (PQ:=λ_ s'=>SP X pins DD .next s') hc k hi gk hg ht he hs I h λ{H3 s3 C D fp H6 s7} I3 f3 hC3 I7 qn=>?_) (λ_ s' hq=>wpAny_pure (wpAny_pure hq)) λ_ _ e=>e);obtain⟨m7,hn7,_⟩:=id I7.loc;have I7x:Inv X pins σ H6 s7:=I3.blockEnd (h'':=s7.heap) f3 I7 hC3 (.refl ..);show wpAny _ X.A (assign (.Name y py) X.env (.ref D)) _ _ _;refine wpAny_assign_Name (a8a (v:=.ref D) I7x hN hi2 (Or.inl hy) rfl (λs8 I8 z0_=>?_) (Or.inr hy));obtain⟨a8,sb8,or8⟩:=z0_;have no:∀{a:Addr},a<s3.heap.objs.size->a≠C:=λh z=>absurd (Nat.lt_of_lt_of_le (z ▸ h) hC3) (Nat.lt_irrefl _);have ne8:C≠a8:=λz=>by
  rcases or8 with q|q
  ·exact no I3.lt (q.symm.trans z.symm)
  ·obtain⟨v8,q8⟩:=I3.cell _ _ q
   exact no q8.lt z.symm
 refine⟨m7,hn7.sameBut sb8 ne8,λh9 hs9=>⟨_,H6,?_,qn⟩⟩;refine I8.turned (it:=C) (t':=s8.toks) (λb o hb e=>(hs9.2 b hb).trans e) I7.free (Nat.ne_of_gt (Nat.lt_of_lt_of_le I3.lt hC3)) (.inr (Nat.le_trans I3.sz hC3)) (λx c e z=>?_) (λp hp z=>no (Heap.lt_size (I3.pin p hp).1) z);obtain⟨v8,q8⟩:=I3.cell x c e;exact no q8.lt z
theorem a6g{elt iter tg:Expr}{pos py spos:Pos}{y:Str}{ix:Nat}{wi:TI}{g:TG}{te:TE}(hc:X.calm=true)(k:CompOk X N scope cl nt fr)(hi:PI X tg iter wi)(gk:a4e nt g)(hg:∀C s H ex pn',PG (j9 X N scope cl C s H ex pn') tg g)(he:∀C s H ex pn',PE (j9 X N scope cl C s H ex pn') elt te)(hN:X.N.Nodup)(hi2:X.N[ix]?=some y)(hy:X.env.scope.names.lookup y=some .local)(hsw:swapsWith (.ListComp elt [⟨tg,iter,[],0⟩] scope pos) (some (.Name y py)) spos.line X.env=pure true:=by rfl)(hs:∀x,foldedSetIterable iter X.env x=pure x:=by intro _;rfl):
  PS X (.Assign [.Name y py] (.ListComp elt [⟨tg,iter,[],0⟩] scope pos) spos) (c0u (b6k wi nt fr g te) (b0z ix)):=b0n hc k hi gk hg (λ_ _ _ _ _=>b4f) he hN hi2 hy hsw hs
end
section
variable{X:Cx}
end
theorem a6p{n:Nat}{nt:Nat}{fr:List Nat}{g:TG}{te:TE}{σ:St}{H:Hp}{Q:Addr->Hp->Prop}(hz:n<sizeLine)(Pv:Addr->Nat->List V->Hp->Prop)(h0:∀D,H D=none->Pv D 0 [] (upd H D (.lst [])))(hk:∀D i acc H',Pv D i acc H'->H' D=some (.lst acc)/\acc.length=i)(hs:∀D i acc H',H D=none->i<n->Pv D i acc H'->g (.int (0+(i:Int))) (j2 nt fr σ) H' λσ2 H2=>te σ2 H2 λy H3=>H3 D=some (.lst acc)/\Pv D (i+1) (acc++[y]) (upd H3 D (.lst (acc++[y]))))(hd:∀D acc H',H D=none->Pv D n acc H'->Q D H'):
  ∀D,H D=none->∃(m:Nat)(W:Nat->List V->Hp->Prop),W 0 [] (upd H D (.lst []))/\∀i acc H',W i acc H'->H' D=some (.lst acc)/\acc.length<sizeLine /\
   (((Itr 0 n).stop i H'/\Q D H')\/(i<m/\(Itr 0 n).go i H'/\∀x H2,(Itr 0 n).yld i H' x H2->g x (j2 nt fr σ) H2 λσ2 H3=>te σ2 H3 λy H4=>H4 D=some (.lst acc)/\W (i+1) (acc++[y]) (upd H4 D (.lst (acc++[y]))))):=by
 intro D hD;refine⟨n,λi acc H'=>i<=n/\Pv D i acc H',⟨Nat.zero_le _,h0 D hD⟩,?_⟩;rintro i acc H' ⟨hi,p⟩;obtain⟨k1,k2⟩:=hk D i acc H' p;refine⟨k1,by lia,?_⟩
 by_cases h:i<n
 ·refine .inr ⟨h,h,?_⟩
  rintro x H2 ⟨rfl,rfl⟩;have key:=hs D i acc _ hD h p;have e:(λ(σ2:St) (H2:Hp)=>te σ2 H2 λy H3=>H3 D=some (.lst acc)/\Pv D (i+1) (acc++[y]) (upd H3 D (.lst (acc++[y]))))=(λ(σ2:St) (H3:Hp)=>te σ2 H3 λy H4=>H4 D=some (.lst acc)/\i+1<=n/\Pv D (i+1) (acc++[y]) (upd H4 D (.lst (acc++[y])))):=by
   funext σ2 H3;have:(λ(y:V) (H3:Hp)=>H3 D=some (.lst acc)/\Pv D (i+1) (acc++[y]) (upd H3 D (.lst (acc++[y]))))=(λ(y:V) (H4:Hp)=>H4 D=some (.lst acc)/\i+1<=n/\Pv D (i+1) (acc++[y]) (upd H4 D (.lst (acc++[y])))):=by
    funext y H4;have h1:i+1<=n:=h;simp[h1]
   rw[this]
  rw[e] at key;exact key
 ·have e:i=n:=by lia
  subst e;exact .inl ⟨Nat.le_refl _,hd D acc H' hD p⟩
theorem b7t{X:Cx}{N:List Str}{scope:Scope}{x:Str}{c:Addr}{nt i:Nat}(clos:closureFor scope X.env=pure [(x,c)])(kind:scope.kind=.function)(cell:∀y∈scope.names,y.2≠.cell)(names:∀y∈scope.names,y.2=.local->scope.names.lookup y.1=some .local)(sub:X.env.cells.lookup x=some c)(has:((relabel scope X.env).names.all λy=>!(y.2 == .cell || y.2 == .free) || ([(x,c)].lookup y.1).isSome)=true)(len:N.length=nt+1)(hN:N[nt]?=some x)(hX:X.N[i]?=some x)(hk:X.env.kindOf x=some .cell)(hr:(relabel scope X.env).names.lookup x=some .cell):CompOk X N scope [(x,c)] nt [i] :=
 ⟨clos,kind,cell,names,λp hp=>(by
  rw[List.mem_singleton] at hp;subst hp;exact sub),has,len,λj i' h=>(by
  cases j with
  | zero=>cases h;exact⟨x,hN,hX,.inl hk,.inl hr⟩
  | succ j=>cases h)⟩
end L2
namespace L2
open PySem PySem.Spec PyProof.Rows
section
variable{X:Cx}{pins:List (Addr×Obj)}{σ:St}{H:Hp}{s:Shared}{h':Heap}
end
section
variable{X:Cx}
theorem b7s{N:List Str}{scope:Scope}{x y:Str}{c d:Addr}{nt i j:Nat}(clos:closureFor scope X.env=pure [(x,c),(y,d)])(kind:scope.kind=.function)(cell:∀y∈scope.names,y.2≠.cell)(names:∀y∈scope.names,y.2=.local->scope.names.lookup y.1=some .local)(sub:X.env.cells.lookup x=some c)(sub2:X.env.cells.lookup y=some d)(has:((relabel scope X.env).names.all λz=>!(z.2 == .cell || z.2 == .free) || ([(x,c),(y,d)].lookup z.1).isSome)=true)(len:N.length=nt+2)(hN:N[nt]?=some x)(hN2:N[nt+1]?=some y)(hX:X.N[i]?=some x)(hX2:X.N[j]?=some y)(hk:X.env.kindOf x=some .cell)(hk2:X.env.kindOf y=some .cell)(hr:(relabel scope X.env).names.lookup x=some .cell)(hr2:(relabel scope X.env).names.lookup y=some .cell):CompOk X N scope [(x,c),(y,d)] nt [i,j] :=
 ⟨clos,kind,cell,names,λp hp=>(by
  simp only[List.mem_cons,List.not_mem_nil,or_false] at hp;rcases hp with rfl|rfl
  ·exact sub
  ·exact sub2),has,len,λm i' h=>(by
  match m,h with
  | 0,h=>cases h;exact⟨x,hN,hX,.inl hk,.inl hr⟩
  | 1,h=>cases h;exact⟨y,hN2,hX2,.inl hk2,.inl hr2⟩
  | m+2,h=>cases h)⟩
end
end L2
namespace L2
open PySem PySem.Spec PyProof.Rows
section
variable{X:Cx}{k j:Nat}{ps:List Str}{sp:Sp}{E:XK}{x:Str}{p pos:Pos}{e:Expr}{es:List Expr}{t:TA}
end
structure ExM(mg:Str->Option Value)(x:Str)(C:Addr):Prop where
 m:mg x=some (.ref C)
theorem z5{X:Cx}{x:Str}{C:Addr}{pos:Pos}(T:ExM X.mg x C)(hg:Gl X x)(hd:(x == ("__debug__":Str))=false:=by decide):PE X (.Name x pos) (tC (.ref C)):=a5g hg T.m rfl hd
end L2
namespace L2
open PySem PySem.Spec PyProof.Rows
section
variable{X:Cx}{pins:List (Addr×Obj)}{σ:St}{H:Hp}{s:Shared}{N:List Str}{scope:Scope}{cl:List (Str×Addr)}{nt:Nat}{fr:List Nat}
end
theorem b4m{X:Cx}{K:Frag}{o:Expr}{to:TE}{apos cpos:Pos}(ho:PE X o to)(hK:X.K=K:=by rfl)(hbase:attributeBase o "clear" X.env (eval o X.env)=eval o X.env:=by rfl)(hline:(apos.endLine == cpos.line)=true:=by rfl):
  PE X (.Call (.Attribute o "clear" apos) [] [] cpos) (c3d K "list" b4d to) :=
 hK ▸ c1d PySem.F.plainAttrs_list PySem.F.slot_list_clear PySem.F.type_list_clear (λpins s σ H x xs v us Q I rx rs q=>b7e pins s σ H x xs v us Q I rx rs q) ho hbase hline
end L2
namespace L2
open PySem PySem.Spec PyProof.Rows SeqAt
section
variable{X:Cx}{k j:Nat}{C:Addr}{ps:List Str}{sp:Sp}{E:XK}{J:St->XK}{x m:Str}{p pos apos:Pos}{e o:Expr}{es:List Expr}{ta:TE}{t:TA}{pl:Sem Bool}
end
section
variable{X:Cx}{o e value:Expr}{f:Str}{pos pos' tpos:Pos}{ta tv:TE}
end
def KTup(K:Frag)(p:Addr)(xs:List V):Prop:=∃(its:Array Value)(n:Nat)(sl:Array (Option Value)),K.lookup p=some ⟨.type "tuple",none,.seq its n,sl⟩/\its.size<=sizeLine/\Vals xs its.toList
theorem KTup.sq{K:Frag}{p:Addr}{xs:List V}{H:Hp}(h:KTup K p xs):SqT K H p xs:=by obtain⟨its,n,sl,a,b,c⟩:=h;exact .inr ⟨_,its,n,a,rfl,rfl,b,c⟩
theorem KTup.ty{K:Frag}{p:Addr}{xs:List V}{H:Hp}(h:KTup K p xs):tyV K "tuple" (.ref p) H:=by obtain⟨_,_,_,a,_,_⟩:=h;exact .inr (.inl ⟨rfl,_,a,rfl,rfl⟩)
theorem a7b{X:Cx}{x:Str}{a:Addr}{pos:Pos}(hm:X.mg x=some (.ref a))(hg:Gl X x)(hd:(x == ("__debug__":Str))=false:=by decide):PE X (.Name x pos) (tC (.ref a)):=a5g hg hm rfl hd
theorem a7z(l:Addr)(a b:Value)(n:Nat)(dd:Option Addr)(sl:Array (Option Value))(x:Value)(e:Value->Bool)(j:Nat)(hj:j=if e a then 0 else 1)(hit:e a=true\/e b=true):
  Meets (Builtin.«tuple.index» ⟨[.ref l,x],[]⟩)
   (λA R s=>s.heap.get? l=some { cls:=.type "tuple",dict:=dd,data:=.seq #[a,b] n,slots:=sl }/\(∀y,y ∈ #[a,b]->EqAt A.in1 s y x (e y))/\R (.ok (.ret (.int j s.toks))) { s with toks:=s.toks+1 }):=by
 intro prog w A R s h;obtain⟨hp,g,d,tk,os⟩:=s;obtain⟨hl,he,h⟩:=h;unfold Builtin.«tuple.index»;simp only[Std.Legacy.Range.forIn_eq_forIn_range']
 wp_walk using wpAny_loadPart' hl
 have e0:[:min #[a,b].size #[a,b].size].size=2:=by simp[Std.Legacy.Range.size]
 generalize hL:[:min #[a,b].size #[a,b].size].size=N at e0 ⊢;subst e0;change wpAny (model prog w) A.in1 (List.forIn'.loop [0,1] _ [0,1] (none,()) _) _ _ _;change wpAny (model prog w) A.in1 ((eqBool a x >>= _) >>= _) _ _ _;refine wpAny_bind ?_;refine wpAny_bind (he a (by simp) prog w _ _ ?_)
 cases ea:e a with
 | true=>
  rw[ea] at hj;subst hj
  wp_walk
  exact h
 | false=>
  rw[ea] at hj;subst hj;refine wpAny_pure ?_;change wpAny (model prog w) A.in1 ((eqBool b x >>= _) >>= _) _ _ _;refine wpAny_bind ?_;refine wpAny_bind (he b (by simp) prog w _ _ ?_)
  rw[hit.resolve_left (by rw[ea];exact Bool.false_ne_true)]
  wp_walk
  exact h
def b4c(K:Frag):V->List V->Hp->VK->Prop:=λx vs H Q=>∃p y z1 z2,x=.ref p/\vs=[y]/\KTup K p [z1,z2]/\z9 z1=true/\z9 z2=true/\z9 y=true/\(eqV z1 y=true\/eqV z2 y=true)/\Q (.int (if eqV z1 y then 0 else 1)) H
section
variable{X:Cx}
theorem b4v:MtM X "tuple.index" (b4c X.K):=by
 intro pins s σ H x vs v us Q I rx rv h;obtain⟨p,y,z1,z2,rfl,rfl,⟨its,n,sl,lk,hz,r⟩,f1,f2,fy,hit,q⟩:=h;cases rx;obtain⟨u,rfl,ru⟩:=rv.one;obtain⟨u1,u2,eu,r1,r2⟩:=r.two;have hi:its=#[u1,u2]:=by apply Array.toList_inj.mp;rw[eu]
 subst hi;have e:=I.kIn _ _ lk;have fx:([z1,z2]:List V).all z9=true:=by simp[f1,f2]
 have h1:eqU y u1=eqV z1 y:=b2k r1 f1;have h2:eqU y u2=eqV z2 y:=b2k r2 f2;refine call_meets F.slot_tuple_index ⟨_,e,rfl⟩ F.entry_tuple_index (F.args_tuple_index_2 _ _) (a7z p u1 u2 n none sl u (eqU y) (if eqU y u1 then 0 else 1) rfl (by rw[h1,h2];exact hit)) ⟨e,λw hw=>a1v ru fy r fx w (by simpa using hw),?_⟩
 rw[h1];refine⟨.int (if eqV z1 y then 0 else 1),H,I.tok _,?_,q⟩;by_cases c:eqV z1 y=true
 ·rw[if_pos c,if_pos c];exact⟨_,rfl⟩
 ·rw[if_neg c,if_neg c];exact⟨_,rfl⟩
theorem b3a{K:Frag}{o e:Expr}{to:TE}{t:TA}{apos cpos:Pos}(ho:PE X o to)(ha:PA X [e] t)(hK:X.K=K:=by rfl)(hbase:attributeBase o "index" X.env (eval o X.env)=eval o X.env:=by rfl)(hfew:↑2=true:=by rfl)(hline:(apos.endLine == cpos.line)=true:=by rfl)(hs:starEach [e] X.env=(false,eval e X.env)::starEach [] X.env:=by rfl)(hplain:(backTo cpos (starEach [] X.env)).any (·.1)=false:=by rfl):
  PE X (.Call (.Attribute o "index" apos) [e] [] cpos) (tBM K "tuple" (b4c K) to t) :=
 hK ▸ a8m PySem.F.plainAttrs_tuple PySem.F.slot_tuple_index PySem.F.type_tuple_index (λpins s σ H x xs v us Q I rx rs q=>b4v pins s σ H x xs v us Q I rx rs q) ho ha hbase hfew hline hs hplain
end
end L2
namespace L2
open PySem PySem.Spec PyProof.Rows
section
variable{K:Frag}{σ:St}{H:Hp}{Q:VK}{i:Nat}{v x y:V}{r:R2}{ta tb:TE}{nx bk ct:St->Hp->Prop}{rt:VK}{E:XK}{C:Addr}{m:Str}{sp:Sp}{t:TA}{J:St->XK}
theorem c1v(h:σ[i]?=some (some v))(q:Q v H):c3b i σ H Q:=⟨v,h,q⟩
theorem g_c(q:Q v H):tC v σ H Q:=q
theorem c5s(q:ta σ H λx H1=>tb σ H1 λy H2=>r x y H2 Q):tOp r ta tb σ H Q:=q
theorem c5o{r:V->Hp->VK->Prop}(q:ta σ H λx H1=>r x H1 Q):tUn r ta σ H Q:=q
theorem c6a{g:Int->Int->V}{a b:Int}(q:Q (g a b) H):rI0 g (.int a) (.int b) H Q:=⟨a,b,rfl,rfl,q⟩
theorem g_I{c:Int->Int->Prop}{g:Int->Int->V}{a b:Int}(h:c a b)(q:Q (g a b) H):rI c g (.int a) (.int b) H Q:=⟨a,b,rfl,rfl,h,q⟩
theorem g_U{g:Int->V}{a:Int}(q:Q (g a) H):rU g (.int a) H Q:=⟨a,rfl,q⟩
theorem c5w(h:c2u x y=true)(q:Q (.bl (decide (x=y))) H):rEq x y H Q:=⟨h,q⟩
theorem c5t(h:c2u x y=true)(q:Q (.bl (!decide (x=y))) H):rNe x y H Q:=⟨h,q⟩
theorem c0a{n:Nat}{p q:Addr}{b:Bool}(h:EqD K H (n+1) (.ref p) (.ref q) b)(z:Q (.bl b) H):c5b K n (.ref p) (.ref q) H Q:=⟨p,q,b,rfl,rfl,h,z⟩
theorem b7m{n:Nat}{p q:Addr}{b:Bool}(h:EqD K H (n+1) (.ref p) (.ref q) b)(z:Q (.bl (!b)) H):c4y K n (.ref p) (.ref q) H Q:=⟨p,q,b,rfl,rfl,h,z⟩
theorem a1s{p:Addr}{xs:List V}{j:Int}(h:H p=some (.lst xs))(e:atI xs j=some v)(q:Q v H):c3h K (.ref p) (.int j) H Q:=⟨p,xs,j,v,rfl,rfl,SqL.of h,e,q⟩
theorem c4a{p:Addr}{xs:List V}{j:Int}(h:H p=some (.tup xs))(e:atI xs j=some v)(q:Q v H):c3g K (.ref p) (.int j) H Q:=⟨p,xs,j,v,rfl,rfl,SqT.of h,e,q⟩
theorem c2k{p:Addr}{xs:List V}(h:H p=some (.lst xs))(q:Q (.int xs.length) H):c4z K [.ref p] H Q:=⟨p,xs,rfl,.inl (SqL.of h),q⟩
theorem c2j{p:Addr}{xs:List V}(h:H p=some (.lst xs))(q:∀l,H l=none->Q (.ref l) (upd H l (.lst xs))):b0m K [.ref p] H Q:=⟨p,xs,rfl,.inl (SqL.of h),q⟩
theorem c5x{r:List V->Hp->VK->Prop}(q:t σ H λvs H1=>r vs H1 Q):tCB r t σ H Q:=q
theorem c3y{Q:List V->Hp->Prop}(q:Q [] H):c4r σ H Q:=q
theorem c2o{Q:List V->Hp->Prop}(q:ta σ H λx H1=>t σ H1 λxs H2=>Q (x::xs) H2):c0t ta t σ H Q:=q
theorem c3s(q:t σ H λxs H1=>xs.length<=sizeLine/\∀p,H1 p=none->Q (.ref p) (upd H1 p (.tup xs))):c4n t σ H Q:=q
theorem c3z(q:t σ H λxs H1=>xs.length<=sizeLine/\∀p,H1 p=none->Q (.ref p) (upd H1 p (.lst xs))):c4s t σ H Q:=q
theorem c5v(q:t σ H λvs H1=>sp vs H1 Q E):tFn sp E t σ H Q:=q
theorem c4e(q:t σ H λvs H1=>sp vs H1 Q (J σ)):b3w sp J t σ H Q:=q
theorem c1z{Q:Bool->Hp->Prop}(q:ta σ H λx H'=>∃k,x=.bl k/\Q k H'):c0p ta σ H Q:=q
theorem c5p{Q:Bool->Hp->Prop}(q:ta σ H λx H'=>∃k,x=.bl k/\Q k H'):tB ta σ H Q:=q
theorem c5z{Q:Bool->Prop}{b:Bool}(q:Q b):∃k,V.bl b=.bl k/\Q k:=⟨b,rfl,q⟩
theorem c4g{u w:TT}{Q:Bool->Hp->Prop}(q:u σ H λc H1=>if c=true then w σ H1 Q else Q false H1):c4v u w σ H Q:=q
theorem c5r{u w:TT}{Q:Bool->Hp->Prop}(q:u σ H λc H1=>if c=true then Q true H1 else w σ H1 Q):tOr u w σ H Q:=q
theorem c3x{u:TT}{Q:Bool->Hp->Prop}(q:u σ H λc H1=>Q (!c) H1):c4q u σ H Q:=q
theorem c2r(q:ta σ H λx H1=>∃c,x=.bl c/\if c=true then tb σ H1 Q else Q (.bl false) H1):c0v ta tb σ H Q:=q
theorem c4c{u:TT}(q:u σ H λc H1=>if c=true then ta σ H1 Q else tb σ H1 Q):tIf u ta tb σ H Q:=q
theorem c3v{s u:TS}(q:s ⟨u ⟨nx,rt,bk,ct⟩,rt,bk,ct⟩ σ H):c2t s u ⟨nx,rt,bk,ct⟩ σ H:=q
theorem c2g(q:nx σ H):c0r ⟨nx,rt,bk,ct⟩ σ H:=q
theorem c2n(q:ta σ H λ_ H1=>nx σ H1):c0s ta ⟨nx,rt,bk,ct⟩ σ H:=q
theorem c3w(q:ta σ H rt):c4p ta ⟨nx,rt,bk,ct⟩ σ H:=q
theorem c5u{c:TT}{s u:TS}{D:Ends}(q:c σ H λb H1=>if b=true then s D σ H1 else u D σ H1):c4t c s u D σ H:=q
theorem c2q{g:TG}(q:ta σ H λx H1=>g x σ H1 nx):c0u ta g ⟨nx,rt,bk,ct⟩ σ H:=q
theorem b2b{k:St->Hp->Prop}(q:k (σ.set i (some v)) H):b0z i v σ H k:=q
theorem c3t{ts:c2y}{k:St->Hp->Prop}(q:ta σ H λo H1=>tb σ H1 λj H2=>ts o j v H2 λH3=>k σ H3):c5f ta tb ts v σ H k:=q
theorem a5q{p:Addr}{xs:List V}{z:Int}{j:Nat}{k:Hp->Prop}(h:H p=some (.lst xs))(e:ixN xs.length z=some j)(q:k (upd H p (.lst (xs.set j v)))):c0x (.ref p) (.int z) v H k:=⟨p,xs,z,j,rfl,rfl,h,e,q⟩
theorem b9v{c:Addr}{tb:(St->XK)->TS}{th:TS}(q:tb (λσ1 C _ H'=>exmOne K C (.ref c)=some true/\∀a,H' a=none->th ⟨λσ H=>nx (σ.set i none) H,rt,λσ H=>bk (σ.set i none) H,λσ H=>ct (σ.set i none) H⟩ (σ1.set i (some (.ref a))) (upd H' a (b3j a C))) ⟨nx,rt,bk,ct⟩ σ H):
  b7z K c i tb th ⟨nx,rt,bk,ct⟩ σ H:=q
theorem a9j{t cv:Value}{c:V}{b:Bool}(ty:TyX K H x t)(hc:b6e c=some cv)(hk:kitOne K t cv=some b)(q:Q (.bl b) H):c5a K [x,c] H Q:=⟨x,c,t,cv,b,rfl,ty,hc,hk,q⟩
theorem b2c{a C tp:Addr}{cs:List V}{cvs:List Value}{b:Bool}(ha:H a=some (b3j a (.ref C)))(hk:ExK K C)(ht:H tp=some (.tup cs))(hc:cs.map b6e=cvs.map some)(he:PySem.W.kitAny K (.ref C) cvs=some b)(q:Q (.bl b) H):c0y K [.ref a,.ref tp] H Q:=⟨a,C,tp,cs,cvs,b,rfl,ha,hk,ht,hc,he,q⟩
theorem b9x(q:t σ H λvs H1=>vs.length<=sizeLine/\E (.ref C) none H1){D:Ends}:b3u C E t D σ H:=q
theorem c5y{T:String}{r:V->List V->Hp->VK->Prop}(q:ta σ H λx H1=>tyV K T x H1/\t σ H1 λxs H2=>r x xs H2 Q):tBM K T r ta t σ H Q:=q
theorem b5k{p:Addr}{xs:List V}(h:H p=some (.lst xs))(l:xs.length<sizeLine)(q:Q .non (upd H p (.lst (xs++[y])))):a7a (.ref p) [y] H Q:=⟨p,xs,y,rfl,rfl,h,l,q⟩
theorem c3r{p:Addr}{xs:List V}{R:Prop}(h:H p=some (.lst xs))(q:R):tyV K "list" (.ref p) H/\R:=⟨.inl ⟨rfl,xs,SqL.of h⟩,q⟩
theorem b5j{p q:Addr}{xs ys:List V}(h:H p=some (.lst xs))(h':H q=some (.lst ys))(l:xs.length+ys.length<=sizeLine)(k:∀z,H z=none->Q (.ref z) (upd H z (.lst (xs++ys)))):c5c (.ref p) (.ref q) H Q:=⟨p,q,xs,ys,rfl,rfl,h,h',l,k⟩
end
theorem u4{c:Prop}[Decidable c]{A B:Prop}(h1:c->A)(h2:¬ c->B):if decide c=true then A else B:=by
 by_cases h:c
 ·rw[decide_eq_true h];exact c2v (h1 h)
 ·rw[decide_eq_false h];exact c2w (h2 h)
theorem a6m{c:Prop}[Decidable c]{A B:Prop}(h1:¬ c->A)(h2:c->B):if (!decide c)=true then A else B:=by
 by_cases h:c
 ·rw[decide_eq_true h];exact c2w (h2 h)
 ·rw[decide_eq_false h];exact c2v (h1 h)
theorem b8i{b:Bool}{A B:Prop}(h1:b=true->A)(h2:b=false->B):if b=true then A else B:=by
 cases b
 ·exact c2w (h2 rfl)
 ·exact c2v (h1 rfl)
end L2
namespace L2
open PySem PySem.Spec PyProof.Rows
section
variable{K:Frag}{σ:St}{H:Hp}{ta:TE}{t:TA}
theorem c4d{wi:TI}{g:TG}{tb:TS}{D:Ends}(q:wi σ H λJ H1=>∃W:Nat->Nat->St->Hp->Prop,(∃m,W 0 m σ H1)/\∀i m σ H,W i m σ H ->
  (J.stop i H/\D.nx σ H)\/(J.go i H/\∃N:St->Hp->Prop,(∀σ' H',N σ' H'->∃m',m'<m/\W (i+1) m' σ' H')/\∀x H',J.yld i H x H'->g x σ H' λσ2 H2=>tb { D with nx:=N,ct:=N,bk:=D.nx } σ2 H2)):c4u wi g tb D σ H:=q
theorem c2e{R:It->Hp->Prop}(q:t σ H λvs H1=>∃j:Int,vs=[.int j]/\-(2 ^ 62)<=j/\j<2 ^ 62/\R (Itr 0 j.toNat) H1):c1u t σ H R:=q
theorem c2d{R:It->Hp->Prop}(q:t σ H λvs H1=>∃i j:Int,vs=[.int i,.int j]/\(-(2 ^ 62)<=i/\i<2 ^ 62/\-(2 ^ 62)<=j/\j<2 ^ 62)/\R (Itr i (j-i).toNat) H1):c1t t σ H R:=q
theorem b8h{N:Int}{R:Int->Prop}(h1:-(2 ^ 62)<=N)(h2:N<2 ^ 62)(q:R N):∃j,[V.int N]=[.int j]/\-(2 ^ 62)<=j/\j<2 ^ 62/\R j:=⟨N,rfl,h1,h2,q⟩
theorem c2h{R:It->Hp->Prop}(q:ta σ H λx H1=>∃a,x=.ref a/\(∃xs,SqL K H1 a xs)/\R (Itl K a) H1):b9s K ta σ H R:=q
theorem c2i{a:Addr}{xs:List V}{R:Addr->Prop}(h:SqL K H a xs)(q:R a):∃a',V.ref a=.ref a'/\(∃xs,SqL K H a' xs)/\R a':=⟨a,rfl,⟨xs,h⟩,q⟩
theorem c2p{wi:TI}{nt:Nat}{fr:List Nat}{g:TG}{te:TE}{Q:VK}(q:wi σ H λJ H1=>∀D,H1 D=none->∃(n:Nat) (W:Nat->List V->Hp->Prop),W 0 [] (upd H1 D (.lst [])) /\
 ∀i acc H,W i acc H->H D=some (.lst acc)/\acc.length<sizeLine /\
  ((J.stop i H/\Q (.ref D) H)\/(i<n/\J.go i H/\∀x H',J.yld i H x H'->g x (j2 nt fr σ) H' λσ2 H2=>te σ2 H2 λy H3=>H3 D=some (.lst acc)/\W (i+1) (acc++[y]) (upd H3 D (.lst (acc++[y])))))):b6k wi nt fr g te σ H Q:=q
theorem a4l{a b:TS}{nx bk ct:St->Hp->Prop}{rt:VK}(M:St->Hp->Prop)(hb:∀σ' H',M σ' H'->b ⟨nx,rt,bk,ct⟩ σ' H')(ha:∀R:St->Hp->Prop,(∀σ' H',M σ' H'->R σ' H')->a ⟨R,rt,bk,ct⟩ σ H):c2t a b ⟨nx,rt,bk,ct⟩ σ H:=ha _ hb
theorem c4f{T:String}{r:V->List V->Hp->VK->Prop}{Q:VK}(q:ta σ H λx H1=>tyV K T x H1/\r x [] H1 Q):c3d K T r ta σ H Q:=q
theorem c0b{p:Addr}{xs:List V}{Q:VK}(h:H p=some (.lst xs))(q:Q .non (upd H p (.lst []))):b4d (.ref p) [] H Q:=⟨p,xs,rfl,rfl,h,q⟩
theorem c3n{A B:Prop}(h:B):if (!true)=true then A else B:=h
theorem c3o{A B:Prop}(h:A):if (!false)=true then A else B:=h
theorem b1c{n:Nat}{nt:Nat}{fr:List Nat}{g:TG}{te:TE}{f:Nat->V}{Q:Addr->Hp->Prop}(hz:n<sizeLine)(hs:∀(i:Nat) (H':Hp) (k:VK),i<n->Same H H'->k (f i) H'->g (.int (0+(i:Int))) (j2 nt fr σ) H' λσ2 H2=>te σ2 H2 k)(hd:∀D,H D=none->Q D (upd H D (.lst ((List.range n).map f)))):
  ∀D,H D=none->∃(m:Nat)(W:Nat->List V->Hp->Prop),W 0 [] (upd H D (.lst []))/\∀i acc H',W i acc H'->H' D=some (.lst acc)/\acc.length<sizeLine /\
   (((Itr 0 n).stop i H'/\Q D H')\/(i<m/\(Itr 0 n).go i H'/\∀x H2,(Itr 0 n).yld i H' x H2->g x (j2 nt fr σ) H2 λσ2 H3=>te σ2 H3 λy H4=>H4 D=some (.lst acc)/\W (i+1) (acc++[y]) (upd H4 D (.lst (acc++[y]))))):=by
 refine a6p hz (λD i acc H'=>acc=(List.range i).map f/\H'=upd H D (.lst acc)) (λD hD=>⟨rfl,rfl⟩) ?_ ?_ ?_
 ·rintro D i acc H' ⟨rfl,rfl⟩
  exact⟨d0,by rw[List.length_map,List.length_range]⟩
 ·rintro D i acc H' hD hi ⟨rfl,rfl⟩
  refine hs i _ _ hi (λb u e=>by rw[f6 (d6 e hD)];exact e) ⟨d0,?_,?_⟩
  ·rw[List.range_succ,List.map_append];rfl
  ·rw[a3k]
 ·rintro D acc H' hD ⟨rfl,rfl⟩
  exact hd D hD
theorem a1x{a:Addr}{xs:List V}{nt:Nat}{fr:List Nat}{g:TG}{te:TE}{Q:Addr->Hp->Prop}(hz:xs.length<sizeLine)(Pv:Addr->Nat->List V->Hp->Prop)(h0:∀D,H D=none->Pv D 0 [] (upd H D (.lst [])))(hk:∀D i acc H',Pv D i acc H'->H' D=some (.lst acc)/\acc.length=i/\SqL K H' a xs)(hs:∀D i x acc H',H D=none->xs[i]?=some x->Pv D i acc H'->g x (j2 nt fr σ) H' λσ2 H2=>te σ2 H2 λy H3=>H3 D=some (.lst acc)/\Pv D (i+1) (acc++[y]) (upd H3 D (.lst (acc++[y]))))(hd:∀D acc H',H D=none->Pv D xs.length acc H'->Q D H'):
  ∀D,H D=none->∃(m:Nat)(W:Nat->List V->Hp->Prop),W 0 [] (upd H D (.lst []))/\∀i acc H',W i acc H'->H' D=some (.lst acc)/\acc.length<sizeLine /\
   (((Itl K a).stop i H'/\Q D H')\/(i<m/\(Itl K a).go i H'/\∀x H2,(Itl K a).yld i H' x H2->g x (j2 nt fr σ) H2 λσ2 H3=>te σ2 H3 λy H4=>H4 D=some (.lst acc)/\W (i+1) (acc++[y]) (upd H4 D (.lst (acc++[y]))))):=by
 intro D hD;refine⟨xs.length,λi acc H'=>i<=xs.length/\(i<xs.length->Pv D i acc H')/\(i=xs.length->Pv D i acc H'),⟨Nat.zero_le _,λ_=>h0 D hD,λ_=>h0 D hD⟩,?_⟩;rintro i acc H' ⟨hi,p1,p2⟩;have p:Pv D i acc H':=by
  by_cases h:i<xs.length
  ·exact p1 h
  ·exact p2 (by lia)
 obtain⟨k1,k2,k3⟩:=hk D i acc H' p;refine⟨k1,by lia,?_⟩
 by_cases h:i<xs.length
 ·refine .inr ⟨h,⟨xs,xs[i],k3,List.getElem?_eq_getElem h⟩,?_⟩
  rintro x H2 ⟨rfl,hy⟩;have ex:xs[i]?=some x:=hy xs k3;have key:=hs D i x acc _ hD ex p;have e:(λ(σ2:St) (H2:Hp)=>te σ2 H2 λy H3=>H3 D=some (.lst acc)/\Pv D (i+1) (acc++[y]) (upd H3 D (.lst (acc++[y]))))=(λ(σ2:St) (H3:Hp)=>te σ2 H3 λy H4=>H4 D=some (.lst acc)/\i+1<=xs.length/\(i+1<xs.length->Pv D (i+1) (acc++[y]) (upd H4 D (.lst (acc++[y]))))/\(i+1=xs.length->Pv D (i+1) (acc++[y]) (upd H4 D (.lst (acc++[y]))))):=by
   funext σ2 H3;have:(λ(y:V) (H3:Hp)=>H3 D=some (.lst acc)/\Pv D (i+1) (acc++[y]) (upd H3 D (.lst (acc++[y]))))=(λ(y:V) (H4:Hp)=>H4 D=some (.lst acc)/\i+1<=xs.length/\(i+1<xs.length->Pv D (i+1) (acc++[y]) (upd H4 D (.lst (acc++[y]))))/\(i+1=xs.length->Pv D (i+1) (acc++[y]) (upd H4 D (.lst (acc++[y]))))):=by
    funext y H4;apply propext;constructor
    ·rintro⟨z1,z2⟩
     exact⟨z1,h,λ_=>z2,λ_=>z2⟩
    ·rintro⟨z1,z2,z3,z4⟩
     refine⟨z1,?_⟩;by_cases hh:i+1<xs.length
     ·exact z3 hh
     ·exact z4 (by lia)
   rw[this]
  rw[e] at key;exact key
 ·have hi':i=xs.length:=by lia
  subst hi';exact .inl ⟨⟨xs,k3,Nat.le_refl _⟩,hd D acc H' hD p⟩
end
end L2
namespace L2
open PySem PySem.Spec PyProof.Rows
section
variable{X:Cx}
variable{k j i:Nat}{E:XK}{x:Str}{p pos:Pos}{e:Expr}{es:List Expr}{t:TA}
variable{m:Str}{apos:Pos}{ps:List Str}{sp:Sp}{pl:Sem Bool}
end
end L2
namespace L2
open PySem PySem.Spec PyProof.Rows
section
variable{X:Cx}{k j:Nat}{E:XK}{m:Str}{pos apos:Pos}{e o:Expr}{es:List Expr}{ta:TE}{t:TA}{pl:Sem Bool}
end
end L2
namespace L2
open PySem PySem.Spec PyProof.Rows
end L2
namespace L2
open PySem PySem.Spec PyProof.Rows
section
variable{X:Cx}{pins:List (Addr×Obj)}{σ:St}{H:Hp}{s:Shared}{N:List Str}{scope:Scope}{cl:List (Str×Addr)}{nt:Nat}{fr:List Nat}
end
end L2
namespace L2
open PySem PySem.Spec PyProof.Rows
section
variable{κ:Type}[DecidableEq κ]
end
section
variable{P:Program}{w:World}{H:Hp}{h:Heap}{a:Addr}
end
section
variable{X:Cx}{pins:List (Addr×Obj)}{σ:St}{H:Hp}{s:Shared}{a:Addr}{y v:V}{u r:Value}{o:Option V}{A:Around}{E:Value->Shared->Prop}
end
section
variable{X:Cx}{pins:List (Addr×Obj)}{σ:St}{H:Hp}{s:Shared}{a:Addr}{kvs:List (Key×V)}{k:Key}{u:Value}{A:Around}{E:Value->Shared->Prop}
end
section
variable{X:Cx}{o i e value:Expr}{pos pos' tpos:Pos}{td ty tv:TE}
end
section
variable{X:Cx}{pos:Pos}
end
section
variable{X:Cx}{pins:List (Addr×Obj)}{σ:St}{H:Hp}{s:Shared}{a:Addr}{y d:V}{u r:Value}{o:Option V}{A:Around}{E:Value->Shared->Prop}
end
section
variable{X:Cx}{o e f:Expr}{apos cpos:Pos}{td ty tx:TE}
end
section
variable{X:Cx}{pins:List (Addr×Obj)}{σ:St}{H:Hp}{s:Shared}{a:Addr}{kvs:List (Key×V)}{A:Around}{E:Value->Shared->Prop}
end
section
variable{X:Cx}{pins:List (Addr×Obj)}{σ:St}{H:Hp}{s:Shared}{a:Addr}{y:V}{u:Value}{A:Around}{E:Value->Shared->Prop}
end
end L2
namespace L2
open PySem PySem.Spec PyProof.Rows
section
variable{X:Cx}{k j:Nat}{ps:List Str}{sp:Sp}{E:XK}{x:Str}{p pos:Pos}
end
section
variable{K:Frag}{σ:St}{H:Hp}{Q:VK}{td ty tv:TE}{nx bk ct:St->Hp->Prop}{rt:VK}
theorem b7n{wi:TI}{nt:Nat}{fr:List Nat}{g:TG}{tt:TT}{te:TE}(q:wi σ H λJ H1=>∀D,H1 D=none->∃(n:Nat) (W:Nat->List V->Hp->Prop),W 0 [] (upd H1 D (.lst [])) /\
 ∀i acc H,W i acc H->H D=some (.lst acc)/\acc.length<sizeLine /\
  ((J.stop i H/\Q (.ref D) H)\/(i<n/\J.go i H/\∀x H',J.yld i H x H'->g x (j2 nt fr σ) H' λσ2 H2=>tt σ2 H2 λc H3=>if c=true then (te σ2 H3 λy H4=>H4 D=some (.lst acc)/\W (i+1) (acc++[y]) (upd H4 D (.lst (acc++[y])))) else W (i+1) acc H3))):a4r wi nt fr g tt te σ H Q:=q
end
end L2
namespace L2
open PySem PySem.Spec PyProof.Rows
section
variable{X:Cx}
theorem b9b{K:Frag}{tg l:Expr}{tl:TE}(hl:PE X l tl)(h:X.K=K:=by rfl):PI X tg l (c3p K tl):=h ▸ c0z hl
end
section
variable{K:Frag}{σ:St}{H:Hp}{ta:TE}{t:TA}
theorem c1w{R:It->Hp->Prop}(q:ta σ H λx H1=>∃a,x=.ref a/\(∃xs,SqT K H1 a xs)/\R (Itt K a) H1):c3p K ta σ H R:=q
theorem c1x{a:Addr}{xs:List V}{R:Addr->Prop}(h:SqT K H a xs)(q:R a):∃a',V.ref a=.ref a'/\(∃xs,SqT K H a' xs)/\R a':=⟨a,rfl,⟨xs,h⟩,q⟩
end
section
variable{X:Cx}{body suite:List Stmt}{b₀:Stmt}{x y n:Str}{np np2 hpos pos tpos:Pos}{kk:Nat}{c d:Addr}{i:Nat}{tb:(St->XK)->TS}{th:TS}
end
end L2
namespace L2
open PySem PySem.Spec PyProof.Rows
section
variable{X:Cx}
end
section
variable{K:Frag}{σ:St}{H:Hp}
theorem c5q{r:V->Option Int->Option Int->Hp->VK->Prop}{te:TE}{tl th:TO}{Q:VK}(q:te σ H λx H1=>tl σ H1 λl H2=>th σ H2 λu H3=>r x l u H3 Q):tSl r te tl th σ H Q:=q
theorem b7l{Q:Option Int->Hp->Prop}(q:Q none H):b3v σ H Q:=q
theorem c2f{te:TE}{Q:Option Int->Hp->Prop}(q:te σ H λx H1=>∃i,x=.int i/\Q (some i) H1):c0q te σ H Q:=q
end
end L2
namespace L2
open PySem PySem.Spec PyProof.Rows
def b1n(n:Nat)(lo hi st:Option Int):List Nat:=sliceRange (sliceBounds lo hi st n).1 (sliceBounds lo hi st n).2.1 (sliceBounds lo hi st n).2.2
def b0j(xs:List V)(lo hi st:Option Int):List V:=(b1n xs.length lo hi st).filterMap λx=>xs[x]?
theorem a4q{xs:List V}{us:List Value}(r:Vals xs us):∀L:List Nat,Vals (L.filterMap λx=>xs[x]?) (L.filterMap λx=>us[x]?)
 | []=>.nil
 | i::L=>by
  rw[List.filterMap_cons,List.filterMap_cons];cases e:xs[i]? with
  | none=>rw[r.none_of e];exact a4q r L
  | some x=>
   obtain⟨u,e2,rx⟩:=r.get e;rw[e2];exact .cons rx (a4q r L)
section
variable{X:Cx}{e:Expr}{te:TE}{lo hi:Option Expr}{se:Expr}{tl th ts:TO}{pos p2:Pos}
def c4o(K:Frag)(te:TE)(tl th ts:TO):TE:=λσ H Q=>te σ H λx H1=>tl σ H1 λl H2=>th σ H2 λu H3=>ts σ H3 λt H4=>∃a xs,x=.ref a/\SqL K H4 a xs/\t≠some 0/\(b0j xs l u t).length<=sizeLine/\∀p,H4 p=none->Q (.ref p) (upd H4 p (.lst (b0j xs l u t)))
theorem b4j{K:Frag}(he:PE X e te)(hl:PO X lo tl)(hu:PO X hi th)(ht:PO X (some se) ts)(hK:X.K=K:=by rfl):PE X (.Subscript e (.Slice lo hi (some se) p2) pos) (c4o K te tl th ts):=by
 subst hK;intro pins s σ H Q I h;refine Subscript_ (thn (he pins s σ H _ I h) λv s1 z0_=>?_);obtain⟨x,H1,I1,r1,q1⟩:=z0_;refine wpAny_Slice (thn (hl pins s1 σ H1 _ I1 q1) λvl s2 z0_=>?_);obtain⟨l,H2,I2,pl,q2⟩:=z0_;refine thn (hu pins s2 σ H2 _ I2 q2) λvu s3 z1_=>?_;obtain⟨u,H3,I3,pu,q3⟩:=z1_;refine thn (ht pins s3 σ H3 _ I3 q3) λvt s4 z2_=>?_;obtain⟨t,H4,I4,pt,q4⟩:=z2_;obtain⟨a,xs,rfl,hx,h0,hz,q⟩:=q4;cases r1;have I5:Inv X pins σ H4 { s4 with heap:=s4.heap.push { cls:=.type "slice",data:=.fields #[vl,vu,vt] } }:=I4.kept (t':=s4.toks) λb ob q=>Heap.get?_push_of_some _ q
 obtain⟨its,r,hT,hz'⟩:=I5.list hx;have hlen:=r.length;show wpAny (model X.prog X.w) X.A (subscriptTail e (.Slice lo hi (some se) p2) (.ref a) (.ref s4.heap.objs.size)) (EP X pins σ Q) X.xe { s4 with heap:=s4.heap.push { cls:=.type "slice",data:=.fields #[vl,vu,vt] } }
 refine tail_any (ops:=[.ref a,.ref s4.heap.objs.size]) hT.isList.typeIs slot_list_getitem.lookup ?_ (by with_unfolding_all rfl)
 refine wpAny_getItem_list_slice hT.isList (Heap.IsSliceOf.new ..) pl pu pt h0 ?_ (by rw[List.size_toArray] <;> lia)
 have e1:slicePick its.toArray l u t=((b1n xs.length l u t).filterMap λx=>its[x]?).toArray:=by
  unfold slicePick b1n;rw[hlen];simp only[List.size_toArray,List.getElem?_toArray]
 rw[e1];exact⟨.ref _,_,I5.laid (t':=s4.toks) (o:=.lst (b0j xs l u t)) (λb ob q=>Heap.get?_push_of_some _ q) (Nat.le_refl _) ⟨hz,_,0,a4q r _,Heap.get?_push_size _ rfl⟩,rfl,q _ (I5.hok.fresh (Nat.le_refl _))⟩
theorem c3u{K:Frag}{σ:St}{H:Hp}{Q:VK}(q:te σ H λx H1=>tl σ H1 λl H2=>th σ H2 λu H3=>ts σ H3 λt H4=>∃a xs,x=.ref a/\SqL K H4 a xs/\t≠some 0/\(b0j xs l u t).length<=sizeLine/\∀p,H4 p=none->Q (.ref p) (upd H4 p (.lst (b0j xs l u t)))):c4o K te tl th ts σ H Q:=q
end
end L2
namespace L2
open PySem PySem.Spec PyProof.Rows
def Hid(n m:St->Hp->Prop):Prop:=n=m
section
variable{nx bk ct:St->Hp->Prop}{rt:VK}{σ:St}{H:Hp}
theorem c2b{s u:TS}(q:∀n',Hid n' (u ⟨nx,rt,bk,ct⟩)->s ⟨n',rt,bk,ct⟩ σ H):c2t s u ⟨nx,rt,bk,ct⟩ σ H:=q _ rfl
theorem b9u{n' m:St->Hp->Prop}(h:Hid n' m)(q:m σ H):n' σ H:=by
 unfold Hid at h;rw[h];exact q
end
end L2
namespace L2
open PySem PySem.Spec PyProof.Rows
def b2o(X:Cx)(E:XK)(N:List Str)(scope:Scope)(cl:List (Str×Addr))(C:Addr)(s:Shared)(H:Hp)(ex:List Addr)(pn:List (Addr×Obj)):Cx :=
 { j9 X N scope cl C s H ex pn with xe:=λe s'=>∃pins' σ' H6 s6,Inv (j9 X N scope cl C s H ex pn) pins' σ' H6 s6/\CXK X.prog X.w X.stack H6 s6 E e s' }
section
variable{X:Cx}{E:XK}{N:List Str}{scope:Scope}{cl:List (Str×Addr)}{C:Addr}{s:Shared}{H:Hp}{ex:List Addr}{pn pins:List (Addr×Obj)}{σ:St}{H':Hp}{s':Shared}
theorem ofR(I:Inv (b2o X E N scope cl C s H ex pn) pins σ H' s'):Inv (j9 X N scope cl C s H ex pn) pins σ H' s':=by
 obtain⟨⟨o1,o2,o3,o4,o5,o6,o7,o8,o9,o10,o11,o12,o13,o14,o15,o16,o17,o18⟩,a,b,c,d,e,f,g,h,i,j⟩:=I;exact⟨⟨o1,o2,o3,o4,o5,o6,o7,o8,o9,o10,o11,o12,o13,o14,o15,o16,o17,o18⟩,a,b,c,d,e,f,g,h,i,j⟩
theorem toR(I:Inv (j9 X N scope cl C s H ex pn) pins σ H' s'):Inv (b2o X E N scope cl C s H ex pn) pins σ H' s':=by
 obtain⟨⟨o1,o2,o3,o4,o5,o6,o7,o8,o9,o10,o11,o12,o13,o14,o15,o16,o17,o18⟩,a,b,c,d,e,f,g,h,i,j⟩:=I;exact⟨⟨o1,o2,o3,o4,o5,o6,o7,o8,o9,o10,o11,o12,o13,o14,o15,o16,o17,o18⟩,a,b,c,d,e,f,g,h,i,j⟩
theorem c3k:a6s (CXK X.prog X.w) (b2o X E N scope cl C s H ex pn) E:=λpins σ H1 s1 _ _ I h=>⟨pins,σ,H1,s1,ofR I,h⟩
end
def b7w(B:Heap)(l:List Env)(e:Addr)(cls a0 fl:Value)(h:Heap):Prop:=B.StaysIn h/\B.get? e=none/\h.FunFrames B l/\h.TracedAtW B e cls a0 fl
section
variable{M:Model}{A:Around}{E:Value->Shared->Prop}{s:Shared}{B:Heap}{l:List Env}{e L:Addr}{cls a0 fl:Value}{Q:Unit->Shared->Prop}
theorem b6o{fr:Option Addr}(R:b7w B l e cls a0 fl s.heap)(h:∀h',b7w B l e cls a0 (fr.elim Value.none λf=>rawInt f) h'->s.heap.UpToSlots h'->Q () { s with heap:=h' }):wpAny M A (setFlight (.ref e) fr) Q E s:=by
 obtain⟨hkb,hen,hl,oe,vs,T,oT,ts,he,hcls,hd,h1,hnT,hTe,hT,hdT,h3⟩:=R;have hsz3:3<ts.size:=(Array.getElem?_eq_some_iff.mp h3).1;have other:∀b,b≠T->(s.heap.update T (Obj.mapFields (·.setIfInBounds 3 (fr.elim Value.none λf=>rawInt f)))).get? b=s.heap.get? b:=λb hb=>Heap.get?_update_other _ _ (Ne.symm hb)
 have noRecord:∀b o,s.heap.get? b=some o->(∀vs,o.data≠.fields vs)->b≠T:=λb o hb hnf q=>by
  rw[q,hT] at hb;injection hb with hb;subst hb;exact hnf ts hdT
 unfold setFlight;refine wpAny_bind (wpAny_field he hd h1 ?_);rw[if_pos (show(Value.ref T != Value.none)=true from by simp)]
 refine wpAny_setField hT hdT hsz3 (h _ ⟨λb o hbo=>(other b λq=>by rw[q,hnT] at hbo;cases hbo).trans (hkb b o hbo),hen,
  hl.of_keeps λb o hb hnf=>⟨o,(other b (noRecord b o hb hnf)).trans hb,rfl⟩,?_⟩ λb o hb hnf=>⟨o.slots,(other b (noRecord b o hb hnf)).trans hb⟩)
 exact⟨oe,vs,T,_,_,(other e (Ne.symm hTe)).trans he,hcls,hd,h1,hnT,hTe,Heap.get?_update_self _ hT (Obj.isFreed_of_fields (Obj.data_mapFields hdT _)),Obj.data_mapFields hdT _,by simp[hsz3]⟩
theorem b0y{env:Env}{outer:List Env}(hfr:A.frames=some (env::outer))(hf:env.frame=some L)(R:b7w B (env::outer) e cls a0 fl s.heap)(hQ:∀h',Heap.FlyingW B outer e cls a0 h'->s.heap.UpToSlots h'->Q () { s with heap:=h' }):wpAny M A (leaving env (.ref e)) Q E s:=by
 by_cases hm:fl=rawInt L
 ·subst hm
  unfold leaving;refine wpAny_bind (wpAny_noteFrame_againW hf R.2.2.2 ?_);refine wpAny_landsW (L:=L) R λh' hfl up=>?_;obtain⟨k1,k2,⟨_,_,k3⟩,k4⟩:=hfl;exact hQ h' ⟨k1,k2,k3,k4⟩ up
 ·obtain⟨hkb,hen,hl,oe,vs,T,oT,ts,he,⟨hcls,h0⟩,hd,h1,hnT,hTe,hT,hdT,h3⟩:=R
  subst hcls;unfold leaving noteFrame;simp only[hf];refine wpAny_bind (wpAny_bind (wpAny_field he hd h1 ?_));rw[if_pos (show(Value.ref T != Value.none)=true from by simp)]
  refine wpAny_bind (wpAny_field hT hdT h3 ?_);rw[if_neg (show ¬ ((fl == rawInt L)=true) from by simpa using hm)]
  refine wpAny_bind (wpAny_setField hT hdT (Array.getElem?_eq_some_iff.mp h3).1 ?_);have other:∀b,b≠T->(s.heap.update T (Obj.mapFields (·.setIfInBounds 3 Value.none))).get? b=s.heap.get? b:=λb hb=>Heap.get?_update_other _ _ (Ne.symm hb)
  have noRecord:∀b o,s.heap.get? b=some o->(∀vs,o.data≠.fields vs)->b≠T:=λb o hb hnf q=>by
   rw[q,hT] at hb;injection hb with hb;subst hb;exact hnf ts hdT
  refine wpAny_newEntryW hfr (hl.of_keeps λb o hb hnf=>⟨o,(other b (noRecord b o hb hnf)).trans hb,rfl⟩) hf ((other e (Ne.symm hTe)).trans he)
   (λb o hbo=>(other b λq=>by rw[q,hnT] at hbo;cases hbo).trans (hkb b o hbo)) hen hd (Array.getElem?_eq_some_iff.mp h1).1 h0
   λh' z0_=>by obtain⟨x1,⟨_,_,x2⟩,x3,x4⟩:=z0_;exact hQ h' ⟨x1,hen,x2,x3⟩ λb o hb hnf=>x4 b o ((other b (noRecord b o hb hnf)).trans hb) hnf
end
theorem b2d{B B' h h':Heap}(hb:∀b,B.get? b=none->B'.get? b=none):∀{l:List Env},(∀b∈frs l,h'.get? b=h.get? b)->h.FunFrames B l->h'.FunFrames B' l
 | [],_,_=>trivial
 | env::r,k,⟨x1,⟨L,o,hf,hn,ho,hd⟩,x3⟩=>⟨x1,⟨L,o,hf,hb L hn,(k L (List.mem_filterMap.mpr ⟨env,List.mem_cons_self,hf⟩)).trans ho,hd⟩,b2d hb (λb hbr=>k b (by
   obtain⟨en,q1,q2⟩:=List.mem_filterMap.mp hbr;exact List.mem_filterMap.mpr ⟨en,List.mem_cons_of_mem _ q1,q2⟩)) x3⟩
section
variable{P:Program}{w:World}{K:Frag}{mg:Str->Option Value}{base:Heap}{N₀:List Str}{qual:Str}{sc:Scope}{f:Addr}{cd:Value}{A:Around}{outer:List Env}{s₀:Shared}{H₀:Hp}{E₀:XK}
theorem b1d{X:Cx}(hX:X=a4h (CXK P w) P w K mg base N₀ qual sc f cd A outer s₀ H₀ E₀){pins pn' pins':List (Addr×Obj)}{σ σ':St}{H H6:Hp}{s s6 s':Shared}{N:List Str}{scope:Scope}{cl:List (Str×Addr)}{C:Addr}{ex:List Addr}{x:Value}{what:String}(I:Inv X pins σ H s)(hex:∀b∈ex,b2u X pins H b)(hC:s.heap.objs.size<=C)(J:Inv (j9 X N scope cl C s H ex pn') pins' σ' H6 s6)(h:CXK X.prog X.w X.stack H6 s6 E₀ x s'):
  notedBy (model X.prog X.w) X.A (compEnvC scope cl C X.env) (λx s''=>∃m,s''.heap.Ns C m/\∀h',Heap.SameBut C s''.heap h'->∀cenv:Env,cenv.locals=C->wpAny (model X.prog X.w) X.A (PySem.passOn what x cenv:Sem Value) (λ_ _=>False) X.xe { s'' with heap:=h' }) x s':=by
 have J6:=I.blockEnd hex J hC (Heap.SameBut.refl C s6.heap);obtain⟨a,C1,H',rfl,F,q⟩:=h;obtain⟨B,a0,fl,k⟩:=F.fl;have hCs:C ∉ frs X.stack:=λz=>by
  obtain⟨_,o,e,_⟩:=I.stack.mem z;exact absurd (Nat.lt_of_lt_of_le (Heap.lt_size e) hC) (Nat.lt_irrefl _)
 have hC0:∀b o,X.s₀.heap.get? b=some o->b≠C:=λb o e=>Nat.ne_of_lt (Nat.lt_of_lt_of_le (Heap.lt_size e) (Nat.le_trans I.sz hC));obtain⟨m,hns,_⟩:=J.loc;have hns:s6.heap.Ns C m:=hns;have hfC:H6 C=none:=J.free;obtain⟨oC,esC,epC,hoC,hdC,hrC⟩:=hns;have hoC':=F.un.keep C oC hoC hfC hCs (by simp)
 have hns':s'.heap.Ns C m:=⟨oC,esC,epC,hoC',hdC,hrC⟩;have hC':H' C=none:=F.un.free C oC hoC hfC (by simp)
 have nx:∀b:Addr,b ∉ X.ex:=λb z=>by rw[hX] at z;cases z
 have hst:X.stack=X.env::X.outer:=by rw[hX];rfl
 have sub:∀b o,X.s₀.heap.get? b=some o->b ∉ X.fs->b ∉ frs X.stack:=λb o e hb z=>by
  rcases List.mem_cons.mp (I.stkSub b z) with y|y
  ·exact absurd (Nat.lt_of_lt_of_le (Heap.lt_size e) I.ok.above) (by rw[y];exact Nat.lt_irrefl _)
  ·exact hb y
 have infs:∀b,b∈X.fs->b∈frs X.stack:=λb hb=>by
  rw[hst];obtain⟨env,he,hf⟩:=List.mem_filterMap.mp hb;exact List.mem_filterMap.mpr ⟨env,List.mem_cons_of_mem _ he,hf⟩
 have hframe:∃L,X.env.frame=some L:=by rw[hX];exact⟨_,rfl⟩
 obtain⟨L,hL⟩:=hframe;have hfr:X.A.frames=some (X.env::X.outer):=by rw[<- hst];exact I.ok.frames
 show wpAny _ _ (noteFrame (.ref a) X.env) _ _ s';refine wpAny_looks_onW hfr hL (hst ▸ fl) λh1 hld up1=>?_;refine⟨m,up1.ns hns',λh2 sb cenv _=>?_⟩;have hns1:=up1.ns hns';obtain⟨oC1,esC1,epC1,hoC1,hdC1,_⟩:=hns1;have nf:∀b o vs,h1.get? b=some o->o.data=.fields vs->b≠C:=λb o vs e d z=>by
  rw[z,hoC1] at e;cases e;rw[hdC1] at d;cases d
 have inB2:∀b o,B.get? b=some o->b≠C->(PySem.W.hideAll B [C]).get? b=some o:=λb o e n=>PySem.W.hideAll_get _ e (by simpa using n)
 have noB2:∀b,B.get? b=none->(PySem.W.hideAll B [C]).get? b=none:=λb e=>by
  cases z:(PySem.W.hideAll B [C]).get? b with
  | none=>rfl
  | some o=>rw[PySem.W.of_hideAll _ z] at e;cases e
 have R2:b7w (PySem.W.hideAll B [C]) (X.env::X.outer) a C1 a0 (rawInt L) h2:=by
  obtain⟨k1,k2,k3,oe,vs,T,oT,ts,he,hcls,hd,g1,hnT,hTe,hT,hdT,g3⟩:=hld;refine⟨λb o e=>?_,noB2 _ k2,b2d noB2 (λb hb=>sb.2 b λz=>hCs (by rw[hst,<- z];exact hb)) k3,oe,vs,T,oT,ts,(sb.2 a (nf a _ _ he hd)).trans he,hcls,hd,g1,noB2 _ hnT,hTe,(sb.2 T (nf T _ _ hT hdT)).trans hT,hdT,g3⟩
  have n:b≠C:=λz=>by rw[z,PySem.W.hideAll_none _ (List.mem_singleton.mpr rfl)] at e;cases e
  exact(sb.2 b n).trans (k1 b o (PySem.W.of_hideAll _ e))
 obtain⟨oe,vs,T,oT,ts,he,hcls,hd,g1,hnT,hTe,hT,hdT,g3⟩:=R2.2.2.2;unfold PySem.passOn;refine wpAny_bind (wpAny_field he hd g1 ?_);rw[if_neg (show ¬ ((Value.ref T == Value.none)=true) from by simp)]
 refine wpAny_bind (b6o R2 λh3 R3 up3=>?_);refine wpAny_throw ?_;subst hX;refine b0y hfr hL R3 λh4 fl4 up4=>?_;have upc:∀b o,s'.heap.get? b=some o->(∀vs,o.data≠.fields vs)->b≠C->∃sl,h4.get? b=some { o with slots:=sl }:=λb o e d n=>by
  obtain⟨sl1,e1⟩:=up1 b o e d;obtain⟨sl3,e3⟩:=up3 b _ ((sb.2 b n).trans e1) d;obtain⟨sl4,e4⟩:=up4 b _ e3 d;exact⟨sl4,e4⟩
 have frC:∀b,b∈frs outer->b≠C:=λb hb z=>hCs (by rw[<- z];exact infs b hb)
 refine⟨a,C1,H',rfl,⟨F.os.trans J6.os,F.bare,⟨λb o z n hb _=>?_,λb o z n hb _=>?_,λb o z n _=>?_,λb o z _=>?_,λb xs z=>F.un.tups b xs (J6.base.tups b xs z),λb o u z=>F.un.frzs b o u (J6.base.frzs b o u z),λb ps z=>?_⟩,?_,⟨_,a0,fl4,⟨λb o z=>?_,λb o z n hb=>?_,λb o z hb=>?_⟩⟩⟩,q⟩
 ·exact fl4.1 b o (inB2 b o (k.un b o (J6.base.keep b o z n hb (nx b)) (J6.base.free b o z n (nx b)) (sub b o z hb)) (hC0 b o z))
 ·obtain⟨sl,e1⟩:=J6.base.slot b o z n hb (nx b)
  obtain⟨sl2,e2⟩:=F.un.slot b _ e1 (J6.base.free b o z n (nx b)) (infs b hb) (by simp)
  obtain⟨_,o',ho',hd'⟩:=fl.2.2.1.mem (infs b hb);rw[e2] at ho';cases ho';obtain⟨sl3,e3⟩:=upc b _ e2 hd' (frC b hb);exact⟨sl3,e3⟩
 ·obtain⟨o',e1⟩:=J6.base.there b o z (nx b)
  exact F.un.free b o' e1 (J6.base.free b o z n (nx b)) (by simp)
 ·by_cases hb:b∈frs outer
  ·obtain⟨_,o',ho',hd'⟩:=fl.2.2.1.mem (infs b hb)
   obtain⟨sl3,e3⟩:=upc b _ ho' hd' (frC b hb);exact⟨_,e3⟩
  ·obtain⟨o',e1⟩:=J6.base.there b o z (nx b)
   obtain⟨ob,e2⟩:=k.th b o' e1 (sub b o z hb);exact⟨ob,fl4.1 b ob (inB2 b ob e2 (hC0 b o z))⟩
 ·obtain⟨m1,e1⟩:=J6.base.tbls b ps z
  obtain⟨m2,e2⟩:=F.un.tbls b _ e1;exact⟨m1++m2,by rw[e2,Array.append_assoc]⟩
 ·refine z6 F.hok λb o u z y=>?_
  obtain⟨ob,e1⟩:=k.tr b o z;have e2:=fl.1 b ob e1;rw[y] at e2;cases e2;exact fl4.1 b _ (inB2 b _ e1 (λy2=>by rw[y2,hC'] at z;cases z))
 ·obtain⟨ob,e1⟩:=k.tr b o z
  exact⟨ob,inB2 b ob e1 (λy2=>by rw[y2,hC'] at z;cases z)⟩
 ·exact inB2 b o (k.un b o (J6.base.keep b o z n hb (nx b)) (J6.base.free b o z n (nx b)) (sub b o z hb)) (hC0 b o z)
 ·obtain⟨o',e1⟩:=J6.base.there b o z (nx b)
  obtain⟨ob,e2⟩:=k.th b o' e1 (sub b o z hb);exact⟨ob,inB2 b ob e2 (hC0 b o z)⟩
theorem b6w{X:Cx}(hX:X=a4h (CXK P w) P w K mg base N₀ qual sc f cd A outer s₀ H₀ E₀){N:List Str}{scope:Scope}{cl:List (Str×Addr)}{nt:Nat}{fr:List Nat}{elt iter tg:Expr}{pos:Pos}{wi:TI}{g:TG}{te:TE}(hc:X.calm=true)(k:CompOk X N scope cl nt fr)(hi:PI X tg iter wi)(gk:a4e nt g)(hg:∀C s H ex pn',PG (j9 X N scope cl C s H ex pn') tg g)(he:∀C s H ex pn',PE (b2o X E₀ N scope cl C s H ex pn') elt te)(hs:∀x,foldedSetIterable iter X.env x=pure x:=by intro _;rfl):
  PE X (.ListComp elt [⟨tg,iter,[],0⟩] scope pos) (b6k wi nt fr g te):=by
 intro pins s σ H Q I h;rw[eval_ListComp];refine wpAny_comprehension_free (use:=none) rfl hs k.clos k.kind k.names (thn (hi pins s σ H _ I h) λxv s1 h1=>thn h1 λitv s2 h2=>?_);obtain⟨it,fp,tn,J,H2,rfl,I2,T,st2,f2,R2⟩:=h2;have hfD:H2 s2.heap.objs.size=none:=I2.fresh;obtain⟨n,W,w0,turn⟩:=R2 _ hfD;have I3:Inv X pins σ (upd H2 s2.heap.objs.size (.lst [])) { s2 with heap:=s2.heap.push { cls:=.type "list",data:=.seq ([]:List Value).toArray } }:=I2.lnew (its:=[]) (t':=s2.toks) .nil (Nat.zero_le _)
 have fp2:∀b∈fp,b<s2.heap.objs.size:=λb hb=>by
  obtain⟨o,e,_⟩:=T.obj _ _ st2 b hb;exact Heap.lt_size e
 have f3:∀b∈fp,b2u X pins (upd H2 s2.heap.objs.size (.lst [])) b:=λb hb=>⟨by rw[f6 (Nat.ne_of_lt (fp2 b hb))];exact(f2 b hb).1,(f2 b hb).2⟩
 refine wpAny_newObj_type (hd:=by show(0:Nat)<=_;exact Nat.zero_le _) ?_
 refine wpAny_newFunctionEnv k.cell (by intro y hy;cases hy) (λh4 hns hsb=>?_) k.kind
 have hsz:(s2.heap.push { cls:=.type "list",data:=.seq ([]:List Value).toArray }).objs.size=s2.heap.objs.size+1:=Heap.size_push _ _;have keep4:∀b o,(s2.heap.push { cls:=.type "list",data:=.seq ([]:List Value).toArray }).get? b=some o->h4.get? b=some o:=λb o e=>
  (hsb.2 b (Nat.ne_of_lt (Heap.lt_size e))).trans (Heap.get?_push_of_some _ e)
 have I4:=k.start I3 (C:=(s2.heap.push { cls:=.type "list",data:=.seq ([]:List Value).toArray }).objs.size) (h':=h4) (t':=s2.toks) (ex:=fp) (λb hb=>⟨f3 b hb,by rw[hsz];exact Nat.lt_succ_of_lt (fp2 b hb)⟩) (Nat.le_refl _) hns keep4
 have st4:tn 0 h4:=T.keep _ _ _ st2 λb hb o e=>keep4 b o (Heap.get?_push_of_some _ e);generalize hC:(s2.heap.push { cls:=.type "list",data:=.seq ([]:List Value).toArray }).objs.size=C at I4 hns;have hC3:({ s2 with heap:=s2.heap.push { cls:=.type "list",data:=.seq ([]:List Value).toArray } }:Shared).heap.objs.size<=C:=by rw[<- hC];exact Nat.le_refl _
 have stat:∀{H':Hp},(∀b∈fp,H' b=none)->∀b∈fp,b2u (j9 X N scope cl C { s2 with heap:=s2.heap.push { cls:=.type "list",data:=.seq ([]:List Value).toArray } } (upd H2 s2.heap.objs.size (.lst [])) fp (X.pn++pins)) [] H' b:=λ{H'} hn b hb=>by
  refine⟨hn b hb,?_,λz=>?_,.inl hb,λx c e=>(f2 b hb).2.2.2.2.1 x c (k.cl_at e),λp hp=>(f2 b hb).2.2.2.2.2 p (by have hp:p∈(X.pn++pins)++[]:=hp;rw[List.append_nil] at hp;exact hp)⟩
  ·rw[show(j9 X N scope cl C { s2 with heap:=s2.heap.push { cls:=.type "list",data:=.seq ([]:List Value).toArray } } (upd H2 s2.heap.objs.size (.lst [])) fp (X.pn++pins)).env.locals=C from rfl,<- hC,hsz]
   exact Nat.ne_of_lt (Nat.lt_succ_of_lt (fp2 b hb))
  ·rcases List.mem_cons.mp (I2.stkSub b z) with y|y
   ·exact(f2 b hb).2.1 y
   ·exact(f2 b hb).2.2.1 y
 have loop:∀s5:Shared,s5={ s2 with heap:=h4,toks:=s2.toks }->codeAny (model X.prog X.w) X.A (.compLoop (.ListComp elt [⟨tg,iter,[],0⟩] scope pos) 0 (.ref it) (.ref s2.heap.objs.size) (compEnvC scope cl C X.env))
   (compPost (model X.prog X.w) X.A X.xe none (EP X pins σ Q) (.ref s2.heap.objs.size) C) s5:=by
  rintro s5 rfl;refine codeAny_loop rfl (λm s'=>∃i acc H',m=n-i/\Inv (j9 X N scope cl C { s2 with heap:=s2.heap.push { cls:=.type "list",data:=.seq ([]:List Value).toArray } } (upd H2 s2.heap.objs.size (.lst [])) fp (X.pn++pins)) [] (j2 nt fr σ) H' s'/\tn i s'.heap/\(∀b∈fp,H' b=none)/\W i acc H') ?_ n ⟨0,[],_,rfl,I4,st4,λb hb=>(f3 b hb).1,w0⟩
  rintro m s6 ⟨i,acc,H6,rfl,I6,st6,fr6,w6⟩;show wpAny _ _ ((compTurn (.ListComp elt [⟨tg,iter,[],0⟩] scope pos) 0 (.ref it) (.ref s2.heap.objs.size) (compEnvC scope cl C X.env)).onRaise (λx=>do noteFrame x (compEnvC scope cl C X.env);theTreesLotGoes x)) _ _ s6
  refine wpAny_noted ?_;rw[compTurn_list1];refine wpAny_bind (wpAny_standAt (wpAny_bind ?_));obtain⟨hD6,hz6,alt⟩:=turn i acc H6 w6;rcases alt with ⟨stop,qn⟩|⟨hin,go,step⟩
  ·refine wpAny_mono (T.done (j9 X N scope cl C { s2 with heap:=s2.heap.push { cls:=.type "list",data:=.seq ([]:List Value).toArray } } (upd H2 s2.heap.objs.size (.lst [])) fp (X.pn++pins)) rfl rfl rfl hc i [] s6 (j2 nt fr σ) H6 (λ_ _=>False) I6 (stat fr6) st6 stop) (λr s7 z0_=>?_) (λ_ _ z=>z.elim)
   obtain⟨hr,I7⟩:=z0_;subst hr;refine wpAny_pure ?_;obtain⟨m7,hn7,_⟩:=id I7.loc;exact⟨m7,hn7,λh8 hs8=>⟨.ref s2.heap.objs.size,H6,I3.blockEnd f3 I7 hC3 hs8,rfl,qn⟩⟩
  ·refine wpAny_mono (T.item (j9 X N scope cl C { s2 with heap:=s2.heap.push { cls:=.type "list",data:=.seq ([]:List Value).toArray } } (upd H2 s2.heap.objs.size (.lst [])) fp (X.pn++pins)) rfl rfl rfl hc i [] s6 (j2 nt fr σ) H6 (λ_ _=>False) I6 (stat fr6) st6 go) (λr s7 z0_=>?_) (λ_ _ z=>z.elim)
   obtain⟨u,hr,h7⟩:=z0_;subst hr;refine wpAny_bind (wpAny_mono h7 (λ_ s8 z0_=>?_) (λ_ _ z=>z.elim));obtain⟨x,H8,I8,r8,y8,st8,fr8⟩:=z0_;have I8':=I8.pinned (stat fr8) (T.obj _ _ st8);refine wpAny_bind (wpAny_mono (hg _ _ _ _ _ _ s8 _ H8 x u _ I8' r8 (gk _ _ _ _ (step x H8 y8))) (λ_ s9 z0_=>?_) (λ_ _ z=>z.elim));obtain⟨σ9,H9,I9,k9,q9⟩:=z0_;refine wpAny_bind (wpAny_bind (wpAny_mono (he _ _ _ _ _ _ s9 σ9 H9 _ (toR I9) q9) (λv s10 z0_=>?_) (λe5 s5 z10_=>by obtain⟨p6,σ6,H7,s7',J7,z7⟩:=z10_;exact b1d hX I3 f3 hC3 J7 z7)))
   obtain⟨y,H10,I10',r10,hD10,q10⟩:=z0_;have I10:=ofR I10';refine wpAny_bind (wpAny_mono (a5l (X:=j9 X N scope cl C { s2 with heap:=s2.heap.push { cls:=.type "list",data:=.seq ([]:List Value).toArray } } (upd H2 s2.heap.objs.size (.lst [])) fp (X.pn++pins)) _ s10 σ9 H10 (.ref s2.heap.objs.size) [y] (.ref s2.heap.objs.size) [v] (λv' H'=>v'=.non/\H'=upd H10 s2.heap.objs.size (.lst (acc++[y]))) I10 rfl (.cons r10 .nil) ⟨_,acc,y,rfl,rfl,hD10,hz6,rfl,rfl⟩) (λv' s11 z0_=>?_) (λ_ _ z=>z.elim))
   obtain⟨_,H11,I11,_,_,e11⟩:=z0_;subst e11;refine wpAny_pure (wpAny_pure ⟨rfl,n-(i+1),by lia,i+1,acc++[y],_,rfl,?_,?_,λb hb=>?_,q10⟩)
   ·refine (I11.unpinned (pins:=[])).weak ?_ λj v' e=>?_
    ·rw[I11.len,<- I4.len]
    ·by_cases hj:nt<=j
     ·rw[k9 j hj];exact e
     ·unfold j2 at e
      rw[List.getElem?_append_left (by rw[List.length_replicate];lia),List.getElem?_replicate] at e
      split at e <;> cases e
   ·exact T.keep _ _ _ st8 λb hb o e=>(I11.pin (b,o) (List.mem_append_right _ (List.mem_append_right _ (y6 hb e)))).1
   ·obtain⟨o,e,d⟩:=T.obj _ _ st8 b hb
    exact(I11.pin (b,o) (List.mem_append_right _ (List.mem_append_right _ (y6 hb e)))).2.1
 refine codeAny_compStart_list (loop _ rfl) (T.self _ 0 _ _ _ st4 (loop _ rfl))
end
end L2
namespace L2
open PySem PySem.Spec PyProof.Rows
section
variable{prog:Program}{w:World}{A:Around}{E:Value->Shared->Prop}{s:Shared}
end
section
variable{X:Cx}
end
end L2
namespace L2
open PySem
section
variable{P:Program}{w:World}{K:Frag}{mg:Str->Option Value}{base:Heap}{H H1 H1':Hp}{h h':Heap}
open Classical in
end
end L2
namespace L2
open PySem
def b8a(K:Frag):List V->Hp->VK->Prop:=λxs H Q=>∃p ys,xs=[.ref p]/\((SqL K H p ys/\∀l,H l=none->Q (.ref l) (upd H l (.tup ys)))\/(SqT K H p ys/\Q (.ref p) H))
theorem b5x{X:Cx}{K:Frag}(h:X.K=K:=by rfl):a0m X (.type "tuple") (b8a K):=h ▸ a7s
end L2
namespace L2
open PySem PySem.Spec PyProof.Rows
section
variable{K:Frag}{H:Hp}{Q:VK}{σ:St}{ta:TE}
theorem b9z{p:Addr}{xs:List V}(h:H p=some (.tup xs))(q:∀l,H l=none->Q (.ref l) (upd H l (.lst xs))):b0m K [.ref p] H Q:=⟨p,xs,rfl,.inr (SqT.of h),q⟩
theorem c1y{p:Addr}{xs:List V}(h:H p=some (.lst xs))(q:∀l,H l=none->Q (.ref l) (upd H l (.tup xs))):b8a K [.ref p] H Q:=⟨p,xs,rfl,.inl ⟨SqL.of h,q⟩⟩
end
theorem b7u{J:It}{xs:List V}{nt:Nat}{fr:List Nat}{g:TG}{te:TE}{σ:St}{H:Hp}{Q:Addr->Hp->Prop}(hz:xs.length<sizeLine)(Sq:Hp->Prop)(jg:∀i x H',Sq H'->xs[i]?=some x->J.go i H')(jy:∀i H' x H2,Sq H'->J.yld i H' x H2->H2=H'/\xs[i]?=some x)(js:∀H',Sq H'->J.stop xs.length H')(Pv:Addr->Nat->List V->Hp->Prop)(h0:∀D,H D=none->Pv D 0 [] (upd H D (.lst [])))(hk:∀D i acc H',Pv D i acc H'->H' D=some (.lst acc)/\acc.length=i/\Sq H')(hs:∀D i x acc H',H D=none->xs[i]?=some x->Pv D i acc H'->g x (j2 nt fr σ) H' λσ2 H2=>te σ2 H2 λy H3=>H3 D=some (.lst acc)/\Pv D (i+1) (acc++[y]) (upd H3 D (.lst (acc++[y]))))(hd:∀D acc H',H D=none->Pv D xs.length acc H'->Q D H'):
  ∀D,H D=none->∃(m:Nat)(W:Nat->List V->Hp->Prop),W 0 [] (upd H D (.lst []))/\∀i acc H',W i acc H'->H' D=some (.lst acc)/\acc.length<sizeLine /\
   ((J.stop i H'/\Q D H')\/(i<m/\J.go i H'/\∀x H2,J.yld i H' x H2->g x (j2 nt fr σ) H2 λσ2 H3=>te σ2 H3 λy H4=>H4 D=some (.lst acc)/\W (i+1) (acc++[y]) (upd H4 D (.lst (acc++[y]))))):=by
 intro D hD;refine⟨xs.length,λi acc H'=>i<=xs.length/\Pv D i acc H',⟨Nat.zero_le _,h0 D hD⟩,?_⟩;rintro i acc H' ⟨hi,p⟩;obtain⟨k1,k2,k3⟩:=hk D i acc H' p;refine⟨k1,by lia,?_⟩
 by_cases h:i<xs.length
 ·refine .inr ⟨h,jg i _ H' k3 (List.getElem?_eq_getElem h),λx H2 y=>?_⟩
  obtain⟨rfl,ex⟩:=jy i H' x H2 k3 y;have key:=hs D i x acc _ hD ex p;have e:∀acc':V->List V,(λ(y:V) (H4:Hp)=>H4 D=some (.lst acc)/\i+1<=xs.length/\Pv D (i+1) (acc' y) (upd H4 D (.lst (acc' y))))=λ(y:V) (H3:Hp)=>H3 D=some (.lst acc)/\Pv D (i+1) (acc' y) (upd H3 D (.lst (acc' y))):=λacc'=>by
   funext y H4;exact propext ⟨λz=>⟨z.1,z.2.2⟩,λz=>⟨z.1,h,z.2⟩⟩
  rw[show(λ(σ2:St) (H3:Hp)=>te σ2 H3 λy H4=>H4 D=some (.lst acc)/\i+1<=xs.length/\Pv D (i+1) (acc++[y]) (upd H4 D (.lst (acc++[y]))))=λ(σ2:St) (H2:Hp)=>te σ2 H2 λy H3=>H3 D=some (.lst acc)/\Pv D (i+1) (acc++[y]) (upd H3 D (.lst (acc++[y]))) from by
   funext σ2 H3;rw[e λy=>acc++[y]]]
  exact key
 ·have:i=xs.length:=by lia
  subst this;exact .inl ⟨js H' k3,hd D acc H' hD p⟩
end L2
namespace L2
open PySem PySem.Spec PyProof.Rows
open Builtin Builtin.Str
theorem b3p{l:List (Str×Tok)}:Vals ((l.map (·.1)).map V.str) (strValues l):=by
 induction l with
 | nil=>exact .nil
 | cons p r ih=>exact .cons ⟨_,rfl⟩ ih
theorem b3x{ss:List Str}{us:List Value}(r:Vals (ss.map V.str) us):∃l:List (Str×Tok),us=strValues l/\l.map (·.1)=ss:=by
 induction ss generalizing us with
 | nil=>cases r;exact⟨[],rfl,rfl⟩
 | cons x t ih=>
  cases r with
  | cons h r=>
   obtain⟨tk,rfl⟩:=h;obtain⟨l,rfl,rfl⟩:=ih r;exact⟨(x,tk)::l,rfl,rfl⟩
section
variable{X:Cx}
def b1s:V->List V->Hp->VK->Prop:=λx vs H Q=>∃t y,x=.str t/\vs=[.str y]/\(y.length == 0)=false/\t.length<=sizeLine/\(partsBetween t (occurrences t y 0 t.length (t.length+1)) y.length).length<=sizeLine/\(Txt.split t y).length<=sizeLine/\∀p,H p=none->Q (.ref p) (upd H p (.lst ((Txt.split t y).map V.str)))
theorem b7c:MtR X "str.split" b1s:=by
 intro pins s σ H x vs v us Q I rx rv h;obtain⟨x,y,rfl,rfl,hy,hsz,hsz2,hz,q⟩:=h;obtain⟨t,rfl⟩:=rx;obtain⟨u',rfl,u,rfl⟩:=rv.one;have fin:∀(l:List (Str×Tok))(k:Nat),l.map (·.1)=Txt.split x y->EP X pins σ Q (.ref s.heap.objs.size) { s with heap:=s.heap.push { cls:=.type "list",data:=.seq (strValues l).toArray },toks:=k }:=λl k e=>
  ⟨.ref s.heap.objs.size,_,I.lnew (ys:=(Txt.split x y).map V.str) (e ▸ b3p) (by rw[List.length_map];exact hz),rfl,q _ I.fresh⟩
 cases h1:(decide (x.length<y.length) || decide (strKind x<strKind y))
 ·cases hf:(occurrences x y 0 x.length (x.length+1)).isEmpty
  ·refine call_meets F.slot_str_split (typeIs_str _ _ _) F.entry_str_split (F.args_str_split_2 _ _) (meets_str_split_sep x y t u h1 hy hf hsz hsz2) ?_
   show wants _ _ _ { s with toks:=_,heap:=s.heap.push { cls:=.type "list",data:=.seq (strsFrom s.toks (partsBetween x (occurrences x y 0 x.length (x.length+1)) y.length)).toArray } }
   rw[strsFrom_eq];exact fin (numbered s.toks _) _ ((numbered_texts _ _).trans ((if_neg (ne_true_of_eq_false h1)).trans (if_neg (ne_true_of_eq_false hf))).symm)
  ·exact call_meets F.slot_str_split (typeIs_str _ _ _) F.entry_str_split (F.args_str_split_2 _ _) (meets_str_split_not_found x y t u h1 hy hf)
    (fin [(x,t)] _ ((if_neg (ne_true_of_eq_false h1)).trans (if_pos hf)).symm)
 ·exact call_meets F.slot_str_split (typeIs_str _ _ _) F.entry_str_split (F.args_str_split_2 _ _) (meets_str_split_cannot_occur x y t u h1)
   (fin [(x,t)] _ (if_pos h1).symm)
def b6q(K:Frag):V->List V->Hp->VK->Prop:=λx vs H Q=>∃sep p ss,x=.str sep/\vs=[.ref p]/\SqL K H p (ss.map V.str)/\JoinOk sep ss=true/\Q (.str (Txt.join sep ss)) H
theorem b9j:MtR X "str.join" (b6q X.K):=by
 intro pins s σ H x vs v us Q I rx rv h;obtain⟨sep,p,ss,rfl,rfl,hp,hok,q⟩:=h;obtain⟨t,rfl⟩:=rx;obtain⟨u',rfl,ru⟩:=rv.one;cases ru;obtain⟨its,r,pl,hz⟩:=I.list hp;obtain⟨l,rfl,e⟩:=b3x r;exact SC.join pl.isList e hok λt' k=>⟨.str _,H,I.tok k,⟨_,rfl⟩,q⟩
def b0l:V->List V->Hp->VK->Prop:=λx vs H Q=>∃t y,x=.str t/\vs=[.str y]/\Q (.bl (Txt.startswith t y)) H
theorem b4u:MtR X "str.startswith" b0l:=by
 intro pins s σ H x vs v us Q I rx rv h;obtain⟨x,y,rfl,rfl,q⟩:=h;obtain⟨t,rfl⟩:=rx;obtain⟨u',rfl,u,rfl⟩:=rv.one;exact SC.startswith ⟨.bl _,H,I,rfl,q⟩
theorem b9e{x:Str}{n:Str}{pos:Pos}(hm:∃t,X.mg x=some (.str n t))(hg:Gl X x)(hd:(x == ("__debug__":Str))=false:=by decide):PE X (.Name x pos) (tC (.str n)):=by
 obtain⟨t,h⟩:=hm;exact a5g hg h ⟨t,rfl⟩ hd
def c3i:List V->Hp->VK->Prop:=λxs H Q=>∃(x:Str)(n:Int),xs=[.str x]/\PySem.intText? x=some n/\x.length<=640/\Q (.int n) H
theorem a9z:a0m X (.type "int") c3i:=by
 intro pins s σ H xs us Q I r h;obtain⟨x,n,rfl,hn,hz,q⟩:=h;obtain⟨u,rfl,t,rfl⟩:=a7y r;exact PySem.W.KIN.call_text hn hz ⟨.int _,H,I.tok _,⟨_,rfl⟩,q⟩
theorem b4o{v:Value}{lo:Option Int}(h:IsPart v lo):∃l:Option (Int×Tok),partValue l=v/\l.map (·.1)=lo:=by
 cases h with
 | none=>exact⟨none,rfl,rfl⟩
 | int i t=>exact⟨some (i,t),rfl,rfl⟩
def a7p(x:Str)(lo hi:Option Int):Str:=if ((strSliceIndices lo hi 1 x.length).length == x.length)=true then x else ⟨((strSliceIndices lo hi 1 x.length).filterMap (x.cps[·]?)).toArray⟩
def c4w:V->Option Int->Option Int->Hp->VK->Prop:=λx lo hi H Q=>∃z,x=.str z/\(a7p z lo hi).length<=sizeLine/\Q (.str (a7p z lo hi)) H
theorem a3a:SlR X c4w:=by
 intro pins s σ H x v vl vu lo hi sl Q I rx hs pl pu h;obtain⟨z,rfl,hz,q⟩:=h;obtain⟨t,rfl⟩:=rx;obtain⟨l,rfl,rfl⟩:=b4o pl;obtain⟨u,rfl,rfl⟩:=b4o pu;refine⟨"str",_,F.slot_str_getitem.lookup,typeIs_str s z t,?_⟩;refine wpAny_getItem_str_slice (l:=l) (u:=u) (st:=none) hs rfl ?_;unfold sliceMade;unfold a7p at hz q;show Made.post (if ((1:Int) == 1 && (strSliceIndices (l.map (·.1)) (u.map (·.1)) 1 z.length).length == z.length)=true then _ else _) _ _
 cases c:((strSliceIndices (l.map (·.1)) (u.map (·.1)) 1 z.length).length == z.length)
 ·rw[c] at hz q
  exact⟨hz,.str _,H,I.tok _,⟨_,rfl⟩,q⟩
 ·rw[c] at hz q
  exact⟨.str _,H,I,⟨_,rfl⟩,q⟩
def Its(x:Str):It:=⟨λi _=>i<x.cps.size,λi H v H'=>H'=H/\∃c,x.cps[i]?=some c/\v=.str ⟨#[c]⟩,λi _=>x.cps.size<=i⟩
theorem b6i{P:Program}{w:World}{K:Frag}{tg:Expr}(x:Str)(t:Tok)(it:Addr)(ty:String)(hty:ty="str_ascii_iterator"\/ty="str_iterator"):c0i P w K tg (Its x) [it] it (λi h=>h.IsStrIter it ty x t i) where
 mem:=by simp
 obj:=λi h st b hb=>by
  have e:b=it:=by simpa using hb
  subst e;obtain⟨o,e,c,d⟩:=st;exact⟨o,e,λv z=>by rw[d] at z;cases z⟩
 keep:=λi h h' st k=>by
  obtain⟨o,e,r⟩:=st;exact⟨o,k it (by simp) o e,r⟩
 item:=by
  intro X hP hw hK hc i pins s σ H E I hf st hg;subst hP hw hK;obtain⟨f0,f1,f2,f3,f4,f5⟩:=hf it (by simp)
  have hg:i<x.cps.size:=hg;have hx:x.cps[i]?=some x.cps[i]:=Array.getElem?_eq_getElem hg;have fin:∀h',h'.IsStrIter it ty x t (i+1)->Heap.SameBut it s.heap h'->∃u,some (Value.str ⟨#[x.cps[i]]⟩ s.toks)=some u/\wpAny (model X.prog X.w) X.A (letOwnedTupleGo tg (.ref it) u) (λ_ s2=>∃y H',Inv X pins σ H' s2/\RelV y u/\(Its x).yld i H y H'/\s2.heap.IsStrIter it ty x t (i+1)/\∀b∈[it],H' b=none) E { s with heap:=h',toks:=s.toks+1 }:=λh' st' sb=>by
   have I1:Inv X pins σ H { s with heap:=h',toks:=s.toks+1 }:=I.turned (t':=s.toks+1) (λb o hb e=>(sb.2 b hb).trans e) f0 f1 f3 f4 f5
   obtain⟨o,e,c,d⟩:=id st';exact⟨_,rfl,b5i (s:={ s with heap:=h',toks:=s.toks+1 }) e c d (by rcases hty with rfl|rfl <;> decide) ⟨.str _,H,I1,⟨_,rfl⟩,⟨rfl,_,hx,rfl⟩,st',λb hb=>(hf b hb).1⟩⟩
  rcases hty with rfl|rfl
  ·exact wpAny_pyNext_ascii_item st hx fin
  ·exact wpAny_pyNext_wide_item st hx fin
 done:=by
  intro X hP hw hK hc i pins s σ H E I hf st hg;subst hP hw hK;obtain⟨f0,f1,f2,f3,f4,f5⟩:=hf it (by simp)
  have hx:x.cps[i]?=none:=Array.getElem?_eq_none hg;rcases hty with rfl|rfl
  ·exact wpAny_pyNext_ascii_end (I.ok.hd hc) st hx λh' eb=>⟨rfl,I.turned (t':=s.toks) (λb o hb e=>eb b o hb e) f0 f1 f3 f4 f5⟩
  ·exact wpAny_pyNext_wide_end (I.ok.hd hc) st hx λh' eb=>⟨rfl,I.turned (t':=s.toks) (λb o hb e=>eb b o hb e) f0 f1 f3 f4 f5⟩
 self:=λ_ _ _ _ _ st h=>by
  rcases hty with rfl|rfl
  ·exact wpAny_pyIter_striter_ascii st h
  ·exact wpAny_pyIter_striter_wide st h
def c5e(ta:TE):TI:=λσ H R=>ta σ H λx H1=>∃z,x=.str z/\R (Its z) H1
theorem b8c{tg l:Expr}{tl:TE}(hl:PE X l tl):PI X tg l (c5e tl):=by
 intro pins s σ H R I h;refine thn (hl pins s σ H _ I h) λv s1 ⟨x,H1,I1,r1,q1⟩=>?_;obtain⟨z,e,q⟩:=q1;subst e;obtain⟨t,rfl⟩:=r1;have hty:strIterType z="str_ascii_iterator"\/strIterType z="str_iterator":=by unfold strIterType;split <;> simp
 refine wpAny_pyIter_strU ?_;refine⟨s1.heap.objs.size,[s1.heap.objs.size],_,_,H1,rfl,I1.kept (t':=s1.toks) λb o e=>Heap.get?_push_of_some _ e,b6i z t _ _ hty,⟨_,Heap.get?_push_size _ rfl,rfl,rfl⟩,λb hb=>?_,q⟩;have e:b=s1.heap.objs.size:=by simpa using hb
 subst e;exact I1.fpOk (Nat.le_refl _) (I1.hok.fresh (Nat.le_refl _))
theorem a0l{K:Frag}{o e:Expr}{to:TE}{t:TA}{apos cpos:Pos}(ho:PE X o to)(ha:PA X [e] t)(hK:X.K=K:=by rfl)(hbase:attributeBase o "split" X.env (eval o X.env)=eval o X.env:=by rfl)(hfew:↑2=true:=by rfl)(hline:(apos.endLine == cpos.line)=true:=by rfl)(hs:starEach [e] X.env=(false,eval e X.env)::starEach [] X.env:=by rfl)(hplain:(backTo cpos (starEach [] X.env)).any (·.1)=false:=by rfl):
  PE X (.Call (.Attribute o "split" apos) [e] [] cpos) (tBM K "str" b1s to t):=hK ▸ a8m PySem.F.plainAttrs_str PySem.F.slot_str_split PySem.F.type_str_split b7c ho ha hbase hfew hline hs hplain
theorem a0x{K:Frag}{o e:Expr}{to:TE}{t:TA}{apos cpos:Pos}(ho:PE X o to)(ha:PA X [e] t)(hK:X.K=K:=by rfl)(hbase:attributeBase o "join" X.env (eval o X.env)=eval o X.env:=by rfl)(hfew:↑2=true:=by rfl)(hline:(apos.endLine == cpos.line)=true:=by rfl)(hs:starEach [e] X.env=(false,eval e X.env)::starEach [] X.env:=by rfl)(hplain:(backTo cpos (starEach [] X.env)).any (·.1)=false:=by rfl):
  PE X (.Call (.Attribute o "join" apos) [e] [] cpos) (tBM K "str" (b6q K) to t):=hK ▸ a8m PySem.F.plainAttrs_str PySem.F.slot_str_join PySem.F.type_str_join b9j ho ha hbase hfew hline hs hplain
theorem a6h{K:Frag}{o e:Expr}{to:TE}{t:TA}{apos cpos:Pos}(ho:PE X o to)(ha:PA X [e] t)(hK:X.K=K:=by rfl)(hbase:attributeBase o "startswith" X.env (eval o X.env)=eval o X.env:=by rfl)(hfew:↑2=true:=by rfl)(hline:(apos.endLine == cpos.line)=true:=by rfl)(hs:starEach [e] X.env=(false,eval e X.env)::starEach [] X.env:=by rfl)(hplain:(backTo cpos (starEach [] X.env)).any (·.1)=false:=by rfl):
  PE X (.Call (.Attribute o "startswith" apos) [e] [] cpos) (tBM K "str" b0l to t):=hK ▸ a8m PySem.F.plainAttrs_str PySem.F.slot_str_startswith PySem.F.type_str_startswith b4u ho ha hbase hfew hline hs hplain
theorem a0z:OpR X (binaryOp .Add) (λx y H Q=>∃i j,x=.str i/\y=.str j/\i.length+j.length<=sizeLine/\Q (.str (i++j)) H):=b3c
variable{K:Frag}{H:Hp}{Q:VK}{σ:St}
theorem b9w{t y:Str}(hy:(y.length == 0)=false)(h1:t.length<=sizeLine)(h2:(partsBetween t (occurrences t y 0 t.length (t.length+1)) y.length).length<=sizeLine)(h3:(Txt.split t y).length<=sizeLine)(q:∀p,H p=none->Q (.ref p) (upd H p (.lst ((Txt.split t y).map V.str)))):b1s (.str t) [.str y] H Q:=⟨t,y,rfl,rfl,hy,h1,h2,h3,q⟩
theorem c2l{sep:Str}{p:Addr}{ss:List Str}(h:H p=some (.lst (ss.map V.str)))(ok:JoinOk sep ss=true)(q:Q (.str (Txt.join sep ss)) H):b6q K (.str sep) [.ref p] H Q:=⟨sep,p,ss,rfl,rfl,SqL.of h,ok,q⟩
theorem b7k{t y:Str}(q:Q (.bl (Txt.startswith t y)) H):b0l (.str t) [.str y] H Q:=⟨t,y,rfl,rfl,q⟩
theorem a3h{z:Str}{lo hi:Option Int}(h:(a7p z lo hi).length<=sizeLine)(q:Q (.str (a7p z lo hi)) H):c4w (.str z) lo hi H Q:=⟨z,rfl,h,q⟩
theorem c3q{x:Str}{R:Prop}(q:R):tyV K "str" (.str x) H/\R:=⟨rfl,q⟩
theorem c2a{ta:TE}{R:It->Hp->Prop}(q:ta σ H λx H1=>∃z,x=.str z/\R (Its z) H1):c5e ta σ H R:=q
end
def a3y(z:Str):List V:=z.cps.toList.map λc=>V.str ⟨#[c]⟩
theorem y4(z:Str):(a3y z).length=z.cps.size:=by unfold a3y;rw[List.length_map,Array.length_toList]
theorem a9p{z:Str}{nt:Nat}{fr:List Nat}{g:TG}{te:TE}{σ:St}{H:Hp}{Q:Addr->Hp->Prop}(hz:(a3y z).length<sizeLine)(Pv:Addr->Nat->List V->Hp->Prop)(h0:∀D,H D=none->Pv D 0 [] (upd H D (.lst [])))(hk:∀D i acc H',Pv D i acc H'->H' D=some (.lst acc)/\acc.length=i)(hs:∀D i x acc H',H D=none->(a3y z)[i]?=some x->Pv D i acc H'->g x (j2 nt fr σ) H' λσ2 H2=>te σ2 H2 λy H3=>H3 D=some (.lst acc)/\Pv D (i+1) (acc++[y]) (upd H3 D (.lst (acc++[y]))))(hd:∀D acc H',H D=none->Pv D (a3y z).length acc H'->Q D H'):
  ∀D,H D=none->∃(m:Nat)(W:Nat->List V->Hp->Prop),W 0 [] (upd H D (.lst []))/\∀i acc H',W i acc H'->H' D=some (.lst acc)/\acc.length<sizeLine /\
   (((Its z).stop i H'/\Q D H')\/(i<m/\(Its z).go i H'/\∀x H2,(Its z).yld i H' x H2->g x (j2 nt fr σ) H2 λσ2 H3=>te σ2 H3 λy H4=>H4 D=some (.lst acc)/\W (i+1) (acc++[y]) (upd H4 D (.lst (acc++[y]))))) :=
 b7u hz (λ_=>True) (λi x H' _ e=>by
  have:=(List.getElem?_eq_some_iff.mp e).1;rw[y4] at this;exact this) (λi H' x H2 _ y=>by
  obtain⟨e,c,hc,rfl⟩:=y;refine⟨e,?_⟩;unfold a3y;rw[List.getElem?_map,Array.getElem?_toList,hc]
  rfl) (λH' _=>by rw[y4];exact Nat.le_refl _) Pv h0 (λD i acc H' p=>⟨(hk D i acc H' p).1,(hk D i acc H' p).2,trivial⟩) hs hd
end L2
namespace L2
open PySem PySem.W PySem.NumText PyProof.Rows
theorem a6o:∀c:Nat,48<=c->c<=57->(Nat.digitChar (c-48)).toNat=c:=by
 intro c h1 h2;have:c=48\/c=49\/c=50\/c=51\/c=52\/c=53\/c=54\/c=55\/c=56\/c=57:=by lia
 rcases this with rfl|rfl|rfl|rfl|rfl|rfl|rfl|rfl|rfl|rfl <;> rfl
theorem b3q{l:List Nat}(n:Nat)(hn:l.length=n)(hd:∀c∈l,48<=c/\c<=57)(h0:∃c r,l=c::r/\c≠48):1<=digitsVal l:=by
 induction n generalizing l with
 | zero=>
  obtain⟨c,r,rfl,_⟩:=h0;cases hn
 | succ n ih=>
  rcases List.eq_nil_or_concat l with rfl|⟨l',c,rfl⟩
  ·cases hn
  rw[List.concat_eq_append,digitsVal_snoc];rw[List.concat_eq_append] at hn hd h0;cases l' with
  | nil=>
   obtain⟨c',r,e,hc⟩:=h0;have:=hd c (by simp)
   cases e;lia
  | cons x t=>
   have:1<=digitsVal (x::t):=ih (by simpa using hn) (λc hc=>hd c (List.mem_append_left _ hc)) (by
    obtain⟨c',r,e,hc⟩:=h0;cases e;exact⟨_,_,rfl,hc⟩)
   lia
theorem b1l(n:Nat){l:List Nat}(hn:l.length=n)(hne:l≠[])(hd:∀c∈l,48<=c/\c<=57)(h0:l=[48] \/ ∃c r,l=c::r/\c≠48):(Nat.toDigits 10 (digitsVal l)).map Char.toNat=l:=by
 induction n generalizing l with
 | zero=>exact absurd (List.length_eq_zero_iff.mp hn) hne
 | succ n ih=>
  rcases List.eq_nil_or_concat l with rfl|⟨l',c,rfl⟩
  ·exact absurd rfl hne
  rw[List.concat_eq_append] at hn hd h0 ⊢;rw[digitsVal_snoc];have hc:=hd c (by simp)
  cases l' with
  | nil=>
   rw[show digitsVal []*10+(c-48)=c-48 from by show 0*10+(c-48)=_;lia,Nat.toDigits_of_lt_base (by lia)]
   show[(Nat.digitChar (c-48)).toNat]=[c];rw[a6o c hc.1 hc.2]
  | cons x t=>
   have hx:∃c r,x::t=c::r/\c≠48:=by
    rcases h0 with e|⟨c',r,e,hc'⟩
    ·simp at e
    ·cases e;exact⟨_,_,rfl,hc'⟩
   have hd':∀c∈x::t,48<=c/\c<=57:=λc hc=>hd c (List.mem_append_left _ hc);have v1:=b3q n (by simpa using hn) hd' hx
   have e:=ih (by simpa using hn) (by simp) hd' (.inr hx)
   have t':Nat.toDigits 10 (digitsVal (x::t))++Nat.toDigits 10 (c-48)=Nat.toDigits 10 (10*digitsVal (x::t)+(c-48)):=Nat.toDigits_append_toDigits (by decide) (by lia) (by lia)
   rw[Nat.mul_comm,<- t',List.map_append,e,Nat.toDigits_of_lt_base (by lia)]
   show _++[(Nat.digitChar (c-48)).toNat]=_;rw[a6o c hc.1 hc.2]
def a5v(w:PySem.Str):Prop:=∃ds:List Nat,ds≠[]/\(∀c∈ds,48<=c/\c<=57)/\ds.length<=60/\((w.cps.toList=ds/\(ds=[48] \/ ∃c r,ds=c::r/\c≠48))\/(w.cps.toList=45::ds/\∃c r,ds=c::r/\c≠48))
theorem a4s{a b:PySem.Str}(h:a.cps.toList=b.cps.toList):a=b:=by
 cases a;cases b
 congr 1
 exact Array.toList_inj.mp h
theorem c0m(n:Nat){l:List Nat}(hn:l.length=n)(hd:∀c∈l,48<=c/\c<=57):digitsVal l<10 ^ n:=by
 induction n generalizing l with
 | zero=>rw[List.length_eq_zero_iff.mp hn];decide
 | succ n ih=>
  rcases List.eq_nil_or_concat l with rfl|⟨l',c,rfl⟩
  ·cases hn
  rw[List.concat_eq_append] at hn hd ⊢;rw[digitsVal_snoc];have hc:=hd c (by simp)
  have:=ih (l:=l') (by simpa using hn) λc hc=>hd c (List.mem_append_left _ hc)
  rw[Nat.pow_succ];lia
theorem b7a{w:PySem.Str}(h:a5v w):∃n:Int,PySem.intText? w=some n/\PySem.Str.ofString (toString n)=w/\n.natAbs<10 ^ 60/\w.length<=61:=by
 obtain⟨ds,hne,hd,hl,h⟩:=h;have vl:digitsVal ds<10 ^ 60:=Nat.lt_of_lt_of_le (c0m _ rfl hd) (Nat.pow_le_pow_right (by decide) hl)
 rcases h with ⟨e,h0⟩|⟨e,h0⟩
 ·have wl:w.length=ds.length:=by rw[<- e];exact Array.length_toList.symm
  refine⟨(digitsVal ds:Nat),?_,?_,vl,by lia⟩
  ·have:=intText_digits (x:=w) (by rw[e];exact hd) (by rw[e];exact hne) (by lia)
   rwa [e] at this
  ·apply a4s
   rw[KIN.signs_num,e];exact b1l _ rfl hne hd h0
 ·have wl:w.length=ds.length+1:=by
   have:=congrArg List.length e;rw[List.length_cons] at this;rw[<- this];exact Array.length_toList.symm
  have v1:=b3q _ rfl hd h0;refine⟨-((digitsVal ds:Nat):Int),intText_neg e hd hne (by lia),?_,by lia,by lia⟩
  apply a4s;rw[signs_ofString,e];obtain⟨k,hk⟩:∃k,digitsVal ds=k+1:=⟨digitsVal ds-1,by lia⟩
  have e1:=b1l _ rfl hne hd (.inr h0);rw[hk] at e1 ⊢;show(String.toList ("-"++Nat.repr (k+1))).map Char.toNat=_;rw[String.toList_append,List.map_append,Nat.toList_repr,e1]
  rfl
open Builtin Builtin.Str in
theorem a9o(x:PySem.Str){lo hi:Option Int}{a b:Nat}(hi0:strSliceIndices lo hi 1 x.length=strSliceIndices (some (a:Int)) (some (b:Int)) 1 x.length)(hab:a<=b)(hb:b<=x.length):(a7p x lo hi).cps.toList=(x.cps.toList.drop a).take (b-a):=by
 unfold a7p;rw[hi0];split
 ·next h=>
  rw[StrLaws.strSliceIndices_plain hab hb,List.length_map,List.length_range] at h;have h:b-a=x.length:=by simpa using h
  have ha:a=0:=by lia
  subst ha;have e:x.cps.toList.length=x.length:=Array.length_toList;rw[List.drop_zero,List.take_of_length_le (by lia)]
 ·exact StrLaws.sliced_plain x hab hb
open Builtin Builtin.Str in
theorem b2m(x:PySem.Str)(a:Nat)(ha:a<=x.length):(a7p x (some (a:Int)) none).cps.toList=x.cps.toList.drop a:=by
 have e:x.cps.toList.length=x.length:=Array.length_toList;have h:strSliceIndices (some (a:Int)) none 1 x.length=strSliceIndices (some (a:Int)) (some (x.length:Int)) 1 x.length:=by
  unfold strSliceIndices;dsimp only;rw[if_neg (show ¬ ((x.length:Int)<0) by lia),if_pos (show(1:Int) > 0 by decide),if_pos (show(1:Int) > 0 by decide),show max 0 (min (x.length:Int) (x.length:Int))=x.length by lia]
  rfl
 rw[a9o x h ha (Nat.le_refl _),List.take_of_length_le (by rw[List.length_drop];lia)]
open Builtin Builtin.Str in
theorem c2s(x:PySem.Str)(b:Nat)(hb:b<=x.length):(a7p x none (some (b:Int))).cps.toList=x.cps.toList.take b:=by
 have h:strSliceIndices none (some (b:Int)) 1 x.length=strSliceIndices (some ((0:Nat):Int)) (some (b:Int)) 1 x.length:=by
  unfold strSliceIndices;dsimp only;rw[if_neg (show ¬ (((0:Nat):Int)<0) by decide),if_pos (show(1:Int) > 0 by decide),if_pos (show(1:Int) > 0 by decide),show max 0 (min ((0:Nat):Int) (x.length:Int))=0 by lia]
  rfl
 rw[a9o x h (Nat.zero_le _) hb,List.drop_zero,Nat.sub_zero]
theorem b2y(x:PySem.Str)(c:Nat):Txt.startswith x ⟨#[c]⟩=decide (x.cps.toList.head?=some c):=by
 unfold Txt.startswith;rw[StrLaws.subAt_eq];have e:x.cps.toList.length=x.length:=Array.length_toList;cases h:x.cps.toList with
 | nil=>
  have:x.length=0:=by rw[<- e,h];rfl
  rw[this];rfl
 | cons d t=>
  have:x.length=t.length+1:=by rw[<- e,h];rfl
  rw[this];show(decide (0+1<=t.length+1) && ((d::t).take 1 == [c]))=_;rw[decide_eq_true (by lia)]
  by_cases z:d=c
  ·subst z;simp
  ·simp[z]
def a1f(w:PySem.Str):List Nat:=if w.cps.toList.head?=some 45 then w.cps.toList.tail else w.cps.toList
theorem b1w(w:PySem.Str):a5v w ↔ (1<=(a1f w).length/\(a1f w).length<=60/\if (a1f w).head?=some 48 then w.cps.toList=[48] else ∀c∈a1f w,48<=c/\c<=57):=by
 constructor
 ·rintro⟨ds,hne,hd,hl,h⟩
  have l1:1<=ds.length:=by
   cases ds with
   | nil=>exact absurd rfl hne
   | cons c r=>rw[List.length_cons];lia
  rcases h with ⟨e,h0⟩|⟨e,h0⟩
  ·have ef:a1f w=ds:=by
    unfold a1f;rw[e,if_neg];intro z;cases ds with
    | nil=>cases z
    | cons c r=>
     have:=hd c (by simp)
     cases z;lia
   rw[ef];refine⟨l1,hl,?_⟩;split
   ·next z=>
    rcases h0 with rfl|⟨c,r,rfl,hc⟩
    ·exact e
    ·cases z;exact absurd rfl hc
   ·exact hd
  ·have ef:a1f w=ds:=by
    unfold a1f;rw[e,if_pos (show(45::ds).head?=some 45 from rfl)]
    rfl
   rw[ef];refine⟨l1,hl,?_⟩;split
   ·next z=>
    obtain⟨c,r,rfl,hc⟩:=h0;cases z;exact absurd rfl hc
   ·exact hd
 ·rintro⟨l1,hl,h⟩
  have hne:a1f w≠[]:=λz=>by rw[z] at l1;exact absurd l1 (by decide)
  by_cases z:(a1f w).head?=some 48
  ·rw[if_pos z] at h
   exact⟨[48],by simp,by simp,by decide,.inl ⟨h,.inl rfl⟩⟩
  ·rw[if_neg z] at h
   have h0:∃c r,a1f w=c::r/\c≠48:=by
    cases e:a1f w with
    | nil=>exact absurd e hne
    | cons c r=>
     rw[e] at z;exact⟨c,r,rfl,λq=>z (by rw[q];rfl)⟩
   refine⟨a1f w,hne,h,hl,?_⟩;by_cases m:w.cps.toList.head?=some 45
   ·refine .inr ⟨?_,h0⟩
    unfold a1f;rw[if_pos m];cases e:w.cps.toList with
    | nil=>rw[e] at m;cases m
    | cons c r=>rw[e] at m;cases m;rfl
   ·refine .inl ⟨?_,.inr h0⟩
    unfold a1f;rw[if_neg m]
end L2
namespace L2
open PySem PySem.Spec PyProof.Rows
def Itg(lo c:Int)(n:Nat):It:=⟨λi _=>i<n,λi H x H'=>H'=H/\x=.int (lo+(i:Int)*c),λi _=>n<=i⟩
theorem b0h{P:Program}{w:World}{K:Frag}{tg:Expr}(it:Addr)(lo c:Int)(n:Nat):c0i P w K tg (Itg lo c n) [it] it (λi h=>IsRangeIter h it (lo+(i:Nat)*c) ((n:Int)-(i:Nat)) c) where
 mem:=by simp
 obj:=λi h st b hb=>by
  have e:b=it:=by simpa using hb
  subst e;exact⟨_,st,λv z=>by
   have z':Data.fields _=Data.cell v:=z;cases z'⟩
 keep:=λi h h' st k=>k it (by simp) _ st
 item:=by
  intro X hP hw hK hc i pins s σ H E I hf st hg;subst hP hw hK;obtain⟨f0,f1,f2,f3,f4,f5⟩:=hf it (by simp)
  have W:=Walks.range (prog:=X.prog) (w:=X.w) (I.ok.hd hc) it lo c n;refine W.item i s _ _ hg st λv h' tk hv st' kk=>?_;obtain⟨t,rfl⟩:=hv;have I1:Inv X pins σ H { s with heap:=h',toks:=tk }:=I.turned (λb o hb e=>kk b o (by simpa using hb) e) f0 f1 f3 f4 f5
  exact⟨_,rfl,b5i (s:={ s with heap:=h',toks:=tk }) (n:="range_iterator") st' rfl rfl (by decide) ⟨.int (lo+(i:Int)*c),H,I1,⟨t,rfl⟩,⟨rfl,rfl⟩,st',λb hb=>(hf b hb).1⟩⟩
 done:=by
  intro X hP hw hK hc i pins s σ H E I hf st hg;subst hP hw hK;obtain⟨f0,f1,f2,f3,f4,f5⟩:=hf it (by simp)
  exact wpAny_pyNext_range_end (I.ok.hd hc) st (by have:n<=i:=hg;lia) λh' eb=>⟨rfl,I.turned (t':=s.toks) (λb o hb e=>eb b o hb e) f0 f1 f3 f4 f5⟩
 self:=λ_ _ _ _ _ st h=>wpAny_pyIter_rangeiter st h
def c1s(ta:TA):TI:=λσ H R=>ta σ H λvs H1=>∃i j c:Int,vs=[.int i,.int j,.int c]/\0<c/\Builtin.Range.small i j c=true/\Builtin.divisionGoesByPylong (j-i) c=false/\0<=Builtin.Range.rangeSize i j c/\R (Itg i c (Builtin.Range.rangeSize i j c).toNat) H1
theorem b4i{X:Cx}{tg a b c:Expr}{ta:TA}{p pos:Pos}(hg:Gl X "range")(hm:X.mg "range" = none)(ha:PA X [a,b,c] ta)(hs:starEach [a,b,c] X.env=[(false,eval a X.env),(false,eval b X.env),(false,eval c X.env)]:=by rfl)(hs2:starEach [b,c] X.env=[(false,eval b X.env),(false,eval c X.env)]:=by rfl):
  PI X tg (.Call (.Name "range" p) [a,b,c] [] pos) (c1s ta):=by
 intro pins s σ H R I h;refine Call_ (a6k I hg hm boot_range (PyProof.Rows.callWith_type1 (thn (ha pos pins s σ H _ I h) λus s1 ⟨vs,H1,I1,r1,q1⟩=>?_) (by rw[hs,hs2]) (by rw[hs2];rfl)))
 obtain⟨i,j,c,e,c0,sm,np,hn,q⟩:=q1;subst e;cases r1 with
 | cons r rr=>
  cases rr with
  | cons r' rr=>
   cases rr with
   | cons r'' rr=>
    cases rr;obtain⟨t,rfl⟩:=r;obtain⟨t',rfl⟩:=r';obtain⟨t'',rfl⟩:=r'';refine call_range_3 (by lia) ?_ (.inl np)
    refine wpAny_pyIter_range (IsRange.new ..) sm ?_;have I2:Inv X pins σ H1 { s1 with heap:=s1.heap.push { cls:=.type "range",data:=.fields #[.int i t,.int j t',.int c t''] },toks:=s1.toks }:=I1.kept λb o e=>Heap.get?_push_of_some _ e
    refine⟨(s1.heap.push { cls:=.type "range",data:=.fields #[.int i t,.int j t',.int c t''] }).objs.size,[(s1.heap.push { cls:=.type "range",data:=.fields #[.int i t,.int j t',.int c t''] }).objs.size],_,_,H1,rfl,
     I2.kept (t':=s1.toks) λb o e=>Heap.get?_push_of_some _ e,b0h _ i c (Builtin.Range.rangeSize i j c).toNat,?_,λb hb=>?_,q⟩
    ·show IsRangeIter _ _ (i+((0:Nat):Int)*c) ((((Builtin.Range.rangeSize i j c).toNat:Nat):Int)-((0:Nat):Int)) c
     rw[show i+((0:Nat):Int)*c=i by simp,show(((Builtin.Range.rangeSize i j c).toNat:Nat):Int)-((0:Nat):Int)=Builtin.Range.rangeSize i j c by lia]
     exact Heap.get?_push_size _ rfl
    ·have e:b=(s1.heap.push { cls:=.type "range",data:=.fields #[.int i t,.int j t',.int c t''] }).objs.size:=by simpa using hb
     subst e;exact I2.fpOk (Nat.le_refl _) (I2.hok.fresh (Nat.le_refl _))
end L2
namespace L2
open PySem PySem.Spec PyProof.Rows
open Builtin Builtin.Str
def c0h(x:Str)(n:Int):Str:=if n<1 then Str.empty else if (n == 1 || x.length == 0)=true then x else ⟨(List.replicate n.toNat x.cps).foldl (· ++ ·) #[]⟩
def c3f:R2:=λx y H Q=>∃z n,x=.str z/\y=.int n/\-(2 ^ 20)<=n/\n<=2 ^ 20/\z.length<=2 ^ 20/\tooLong (z.length*n.toNat)=false/\(c0h z n).length<=sizeLine/\Q (.str (c0h z n)) H
theorem b0p{X:Cx}:OpR X (binaryOp .Mult) c3f:=by
 intro pins s σ H x y v u Q I rx ry h;obtain⟨z,n,rfl,rfl,n0,n1,zl,tl,hl,q⟩:=h;obtain⟨t,rfl⟩:=rx;obtain⟨t',rfl⟩:=ry;refine P.mul_str (by rw[decide_eq_false (by lia),decide_eq_false (by lia)];rfl) (λh1 _=>?_) (λ_ _=>tl) ?_
 ·have:1<=n:=by lia
  have h2:(z.length:Int)*n<=2 ^ 20*2 ^ 20:=Int.mul_le_mul (by lia) n1 (by lia) (by decide)
  have h3:(z.length:Int)<=(2 ^ 63-1) / n:=Int.le_ediv_of_mul_le (show 0<n by lia) (Int.le_trans h2 (by decide))
  exact Int.not_lt.mpr h3
 ·unfold c0h at hl q
  by_cases a:n<1
  ·rw[if_pos a] at hl q ⊢
   exact⟨hl,.str _,H,I.tok _,⟨_,rfl⟩,q⟩
  ·rw[if_neg a] at hl q ⊢
   by_cases b:(n == 1 || z.length == 0)=true
   ·rw[if_pos b] at hl q ⊢
    exact⟨.str _,H,I,⟨_,rfl⟩,q⟩
   ·rw[if_neg b] at hl q ⊢
    exact⟨hl,.str _,H,I.tok _,⟨_,rfl⟩,q⟩
end L2
namespace L2
open PySem PySem.Spec PyProof.Rows
open PySem.Calls PySem.AutoSeq1 in
theorem a5m(l:Addr)(items:Array Value)(n:Nat)(b:Addr)(items2:Array Value)(n2:Nat)(dd:Option Addr)(sl:Array (Option Value))(hs0:¬(!items.isEmpty && Builtin.List.listTooLong (items.size+items2.size))=true)(hs1:items.size<=sizeLine)(hs2:items.size+items2.size<=sizeLine+1):
  Meets (Builtin.«list.extend» ⟨[.ref l,.ref b],[]⟩) (λ_ R s=>s.heap.get? l=some { cls:=.type "list",dict:=none,data:=.seq items n,slots:=#[] }/\s.heap.get? b=some { cls:=.type "tuple",dict:=dd,data:=.seq items2 n2,slots:=sl }/\R (.ok (.ret Value.none)) { s with heap:=s.heap.update l (Obj.mapSeq λx=>x++items2),toks:=s.toks }) :=
 .of_wp λprog w A R s h=>by
  obtain⟨hp,g,d,tk,os⟩:=s;obtain⟨hl,hb,h⟩:=h;have f1:=AutoSeq1.idx_int;have f2:=AutoSeq1.sub_tuple_tuple;have f3:=AutoSeq1.sub_list_list;have f4:=AutoSeq1.sub_tuple_list;have f5:=AutoSeq1.sub_list_tuple;
  have hz':(items++items2).size<=sizeLine+1:=by rw[Array.size_append];exact hs2
  wp_walk using (wpAny_updateSeq hl rfl (hz:=hs1) (_hz':=hz')),wpAny_loadPart' hl,wpAny_loadPart' hb;exact⟨_,rfl,h⟩
section
variable{X:Cx}
def b8w(K:Frag):V->List V->Hp->VK->Prop:=λx vs H Q=>∃l b xs zs,x=.ref l/\vs=[.ref b]/\H l=some (.lst xs)/\SqT K H b zs/\xs.length+zs.length<=sizeLine/\Q .non (upd H l (.lst (xs++zs)))
theorem b9k:MtM X "list.extend" (b8w X.K):=by
 intro pins s σ H x vs v us Q I rx rv h;obtain⟨l,b,xs,zs,rfl,rfl,hH,hB,hz,q⟩:=h;cases rx;obtain⟨u,rfl,ru⟩:=rv.one;cases ru;obtain⟨z,its,n,r,hl,e⟩:=I.lstM hH;obtain⟨its2,r2,⟨⟨c,d,dt,sl⟩,e2,hc,n2,hd⟩,z2⟩:=I.tuple hB;have hl2:=r2.length;cases hc;cases hd;have hsz:its.toArray.size+its2.toArray.size<=sizeLine:=by rw[List.size_toArray,List.size_toArray];lia
 have hlong:¬ (!its.toArray.isEmpty && Builtin.List.listTooLong (its.toArray.size+its2.toArray.size))=true:=by
  rw[b1y hsz,Bool.and_false];exact Bool.false_ne_true
 refine call_meets F.slot_list_extend ⟨_,e,rfl⟩ F.entry_list_extend (F.args_list_extend_2 _ _)
  (a5m l its.toArray n b its2.toArray n2 d sl hlong (by rw[List.size_toArray];lia) (by lia)) ⟨e,e2,?_⟩
 refine⟨.non,_,I.lset (its':=its++its2) hH e (by simp) (r.append r2) ?_,rfl,q⟩
 rw[List.length_append];lia
def c2x(xs:List V)(k:Nat)(y:V):List V:=xs.take k++y::xs.drop k
def c3j:V->List V->Hp->VK->Prop:=λx vs H Q=>∃l xs i y,x=.ref l/\vs=[.int i,y]/\H l=some (.lst xs)/\0<=i/\i<=xs.length/\xs.length<sizeLine/\Q .non (upd H l (.lst (c2x xs i.toNat y)))
theorem Vals.two'{x y:V}{us:List Value}(r:Vals [x,y] us):∃u v,us=[u,v]/\RelV x u/\RelV y v:=by
 cases r with
 | cons a r=>
  cases r with
  | cons b r=>
   cases r;exact⟨_,_,rfl,a,b⟩
theorem Vals.take'{xs:List V}{us:List Value}(r:Vals xs us)(k:Nat):Vals (xs.take k) (us.take k):=by
 induction k generalizing xs us with
 | zero=>rw[List.take_zero,List.take_zero];exact .nil
 | succ k ih=>
  cases r with
  | nil=>exact .nil
  | cons a r=>exact .cons a (ih r)
theorem Vals.drop'{xs:List V}{us:List Value}(r:Vals xs us)(k:Nat):Vals (xs.drop k) (us.drop k):=by
 induction k generalizing xs us with
 | zero=>exact r
 | succ k ih=>
  cases r with
  | nil=>exact .nil
  | cons a r=>exact ih r
theorem c1k:MtM X "list.insert" c3j:=by
 intro pins s σ H x vs v us Q I rx rv h;obtain⟨l,xs,i,y,rfl,rfl,hH,h1,h2,hz,q⟩:=h;cases rx;obtain⟨u,u',rfl,⟨t,rfl⟩,ru⟩:=rv.two';obtain⟨z,its,n,r,hl,e⟩:=I.lstM hH;have hi:i.toNat<=its.length:=by lia
 have hs3:sizeLine<2 ^ 63:=by decide
 have hi3:i<2 ^ 63:=by lia
 refine call_meets F.slot_list_insert ⟨_,e,rfl⟩ F.entry_list_insert (F.args_list_insert_3 _ _ _)
  (AutoListH.list_insert_list_int_val_1 l its.toArray n i t u' (by rw[fitsIndex_both (by lia) hi3];decide) (by rw[List.size_toArray];lia)) ⟨e,?_⟩
 refine⟨.non,_,I.lset (its':=its.take i.toNat++u'::its.drop i.toNat) hH e ?_ ((r.take' _).append (.cons ru (r.drop' _))) ?_,rfl,q⟩
 ·show _=_
  dsimp only;rw[if_neg (by lia),Nat.min_eq_left (by rw[List.size_toArray];lia)]
  apply Array.toList_inj.mp;simp;exact List.take_of_length_le (by rw[List.length_drop];lia)
 ·rw[List.length_append,List.length_cons,List.length_take,List.length_drop]
  lia
theorem b6v{K:Frag}{o e:Expr}{to:TE}{t:TA}{apos cpos:Pos}(ho:PE X o to)(ha:PA X [e] t)(hK:X.K=K:=by rfl)(hbase:attributeBase o "extend" X.env (eval o X.env)=eval o X.env:=by rfl)(hfew:↑2=true:=by rfl)(hline:(apos.endLine == cpos.line)=true:=by rfl)(hs:starEach [e] X.env=(false,eval e X.env)::starEach [] X.env:=by rfl)(hplain:(backTo cpos (starEach [] X.env)).any (·.1)=false:=by rfl):
  PE X (.Call (.Attribute o "extend" apos) [e] [] cpos) (tBM K "list" (b8w K) to t) :=
 hK ▸ a8m PySem.F.plainAttrs_list PySem.F.slot_list_extend PySem.F.type_list_extend (λpins s σ H x xs v us Q I rx rs q=>b9k pins s σ H x xs v us Q I rx rs q) ho ha hbase hfew hline hs hplain
theorem b4k{K:Frag}{o e:Expr}{to:TE}{t:TA}{apos cpos:Pos}(ho:PE X o to)(ha:PA X [e] t)(hK:X.K=K:=by rfl)(hbase:attributeBase o "pop" X.env (eval o X.env)=eval o X.env:=by rfl)(hfew:↑2=true:=by rfl)(hline:(apos.endLine == cpos.line)=true:=by rfl)(hs:starEach [e] X.env=(false,eval e X.env)::starEach [] X.env:=by rfl)(hplain:(backTo cpos (starEach [] X.env)).any (·.1)=false:=by rfl):
  PE X (.Call (.Attribute o "pop" apos) [e] [] cpos) (tBM K "list" b4b to t) :=
 hK ▸ a8m PySem.F.plainAttrs_list PySem.F.slot_list_pop PySem.F.type_list_pop (λpins s σ H x xs v us Q I rx rs q=>b7d pins s σ H x xs v us Q I rx rs q) ho ha hbase hfew hline hs hplain
theorem b9d{K:Frag}{o e f:Expr}{to:TE}{t:TA}{apos cpos:Pos}(ho:PE X o to)(ha:PA X [e,f] t)(hK:X.K=K:=by rfl)(hbase:attributeBase o "insert" X.env (eval o X.env)=eval o X.env:=by rfl)(hfew:((backTo cpos (starEach [e,f] X.env)).all (λx=>!x.1) && (backToKw cpos (keywordEach [] X.env)).all (λx=>x.1.isSome) && decide ([e,f].length+([]:List Keyword).length+(if ([]:List Keyword).isEmpty then 0 else 1)<30))=true:=by rfl)(hline:(apos.endLine == cpos.line)=true:=by rfl)(hs:starEach [e,f] X.env=(false,eval e X.env)::starEach [f] X.env:=by rfl)(hplain:(backTo cpos (starEach [f] X.env)).any (·.1)=false:=by rfl):
  PE X (.Call (.Attribute o "insert" apos) [e,f] [] cpos) (tBM K "list" c3j to t) :=
 hK ▸ a8m PySem.F.plainAttrs_list PySem.F.slot_list_insert PySem.F.type_list_insert (λpins s σ H x xs v us Q I rx rs q=>c1k pins s σ H x xs v us Q I rx rs q) ho ha hbase hfew hline hs hplain
def b8x(K:Frag):R2:=λx y H Q=>(∃i j,x=.str i/\y=.str j/\Q (.bl (decide (i=j))) H) \/ ∃p xs j,x=.ref p/\y=.str j/\SqL K H p xs/\Q (.bl false) H
theorem a7f{K:Frag}(hu:X.A.units<cLine)(h:X.K=K:=by rfl):OpR X (compareOp .Eq) (b8x K):=by
 subst h;intro pins s σ H x y v u Q I rx ry h;rcases h with ⟨i,j,rfl,rfl,q⟩|⟨p,xs,j,rfl,rfl,hp,q⟩
 ·obtain⟨t,rfl⟩:=rx
  obtain⟨t',rfl⟩:=ry;exact eq_str (j0 I q (by rw[Bool.eq_iff_iff];simp))
 ·cases rx
  obtain⟨t',rfl⟩:=ry;obtain⟨i1,r1,p1,z1⟩:=I.list hp;exact SeqAt.RcAt.list_str _ _ p1.isList hu _ _ _ _ ⟨.bl _,H,I,rfl,q⟩
variable{K:Frag}{H:Hp}{Q:VK}{σ:St}{y:V}
theorem c2m{p b:Addr}{xs zs:List V}(h:H p=some (.lst xs))(hb:H b=some (.tup zs))(l:xs.length+zs.length<=sizeLine)(q:Q .non (upd H p (.lst (xs++zs)))):b8w K (.ref p) [.ref b] H Q:=⟨p,b,xs,zs,rfl,rfl,h,SqT.of hb,l,q⟩
theorem c4b{p:Addr}{xs:List V}{i:Int}(h:H p=some (.lst xs))(h0:0<=i)(h1:i<=xs.length)(l:xs.length<sizeLine)(q:Q .non (upd H p (.lst (c2x xs i.toNat y)))):c3j (.ref p) [.int i,y] H Q:=⟨p,xs,i,y,rfl,rfl,h,h0,h1,l,q⟩
theorem b9y{p:Addr}{xs:List V}{i:Int}(h:H p=some (.lst xs))(h0:0<=i)(h1:i<xs.length)(l:xs.length<=sizeLine)(q:∀y,Q y (upd H p (.lst (xs.eraseIdx i.toNat)))):b4b (.ref p) [.int i] H Q:=by
 have hi:i.toNat<xs.length:=by lia
 have hs3:sizeLine<2 ^ 63:=by decide
 refine⟨p,xs,i,i.toNat,xs[i.toNat],rfl,rfl,h,by lia,by lia,?_,List.getElem?_eq_getElem hi,q _⟩
 show(if (decide (0<=(if i<0 then i+(xs.length:Int) else i)) && decide ((if i<0 then i+(xs.length:Int) else i)<xs.length))=true then some (if i<0 then i+(xs.length:Int) else i).toNat else none)=_;rw[if_neg (show ¬ i<0 by lia),decide_eq_true h0,decide_eq_true h1]
 rfl
theorem b8j{p:Addr}{xs:List V}{j:Str}(h:H p=some (.lst xs))(q:Q (.bl false) H):b8x K (.ref p) (.str j) H Q:=.inr ⟨p,xs,j,rfl,rfl,SqL.of h,q⟩
theorem a5r{i j:Str}(q:Q (.bl (decide (i=j))) H):b8x K (.str i) (.str j) H Q:=.inl ⟨i,j,rfl,rfl,q⟩
end
end L2
namespace L2
open PySem PySem.Spec PyProof.Rows
open Builtin Builtin.Str
def wt(ss:List Str):Nat:=(ss.map (·.length)).sum+ss.length
theorem b7x:wt []=0:=rfl
theorem q0(x:Str)(ss:List Str):wt (x::ss)=x.length+1+wt ss:=by
 unfold wt;rw[List.map_cons,List.sum_cons,List.length_cons];lia
theorem a7w(a b:List Str):wt (a++b)=wt a+wt b:=by
 induction a with
 | nil=>rw[List.nil_append,b7x,Nat.zero_add]
 | cons x a ih=>rw[List.cons_append,q0,q0,ih];lia
theorem a2v(ss:List Str):ss.length<=wt ss:=Nat.le_add_left _ _
theorem a4p{x:Str}{ss:List Str}(h:x∈ss):x.length+1<=wt ss:=by
 induction ss with
 | nil=>cases h
 | cons y ss ih=>
  rw[q0];rcases List.mem_cons.mp h with rfl|h
  ·lia
  ·have:=ih h
   lia
theorem b1k{ss:List Str}{i:Nat}{x:Str}:wt (ss.set i x)<=wt ss+x.length+1:=by
 induction ss generalizing i with
 | nil=>rw[List.set_nil];lia
 | cons y ss ih=>
  cases i with
  | zero=>rw[List.set_cons_zero,q0,q0];lia
  | succ i=>
   rw[List.set_cons_succ,q0,q0];have:=ih (i:=i);lia
theorem b6h{ss:List Str}{i:Nat}:wt (ss.eraseIdx i)<=wt ss:=by
 induction ss generalizing i with
 | nil=>rw[List.eraseIdx_nil];exact Nat.le_refl _
 | cons y ss ih=>
  cases i with
  | zero=>rw[List.eraseIdx_cons_zero,q0];lia
  | succ i=>
   rw[List.eraseIdx_cons_succ,q0,q0];have:=ih (i:=i);lia
theorem c0k{ss:List Str}{i:Nat}{x:Str}:wt (ss.take i++x::ss.drop i)=wt ss+x.length+1:=by
 rw[a7w,q0];have:=a7w (ss.take i) (ss.drop i);rw[List.take_append_drop] at this;lia
theorem a3f{y:Str}(h:y.length=1):∀{ss:List Str},ss≠[]->(Str.join y ss).length+1=wt ss
 | [],z=>absurd rfl z
 | [x],_=>by rw[q0,b7x];rfl
 | x::z::r,_=>by
  have:=a3f h (ss:=z::r) (by simp)
  rw[q0];show(x++y++Str.join y (z::r)).length+1=_;rw[Str.length_append,Str.length_append];lia
theorem a5o{y:Str}(h:y.length=1)(ss:List Str):(Txt.join y ss).length<=wt ss:=by
 show(glued y ss).length<=_;rw[StrLaws.glued_eq_join];by_cases z:ss=[]
 ·subst z;exact Nat.zero_le _
 ·have:=a3f h z
  lia
theorem a4j(x y:Str):Txt.split x y≠[]:=by
 unfold Txt.split;split
 ·simp
 ·split
  ·simp
  ·intro z
   have:=congrArg List.length z;rw[length_partsBetween] at this;simp at this
theorem a0o{x y:Str}(h:y.length=1):wt (Txt.split x y)=x.length+1:=by
 rw[<- a3f h (a4j x y),StrLaws.join_split]
theorem b6y{x y:Str}(h:y.length=1):wt (partsBetween x (occurrences x y 0 x.length (x.length+1)) y.length)=x.length+1:=by
 have e:=StrLaws.glued_between_self x y (x.length+1);rw[StrLaws.glued_eq_join] at e;rw[<- a3f h,e];intro z;have:=congrArg List.length z;rw[length_partsBetween] at this;simp at this
theorem a9g(x y:Str):Txt.join y (Txt.split x y)=x:=by
 show glued _ _=_;rw[StrLaws.glued_eq_join,StrLaws.join_split]
theorem a0c:1000000<=sizeLine:=by decide
theorem b9n{y:Str}(h:y.length=1){ss:List Str}(l:wt ss<=1000000):JoinOk y ss=true:=by
 unfold JoinOk;rw[StrLaws.joinTotal,h,Nat.mul_one];have:=a0c;have l:(ss.map (·.length)).sum+ss.length<=1000000:=l
 rw[Bool.not_eq_true'];exact decide_eq_false (by lia)
section
variable{K:Frag}{H:Hp}{Q:VK}
theorem a1w{t y:Str}(hy:y.length=1)(h1:t.length<1000000)(q:∀p,H p=none->Q (.ref p) (upd H p (.lst ((Txt.split t y).map V.str)))):b1s (.str t) [.str y] H Q:=by
 have:=a0c;have a:=b6y (x:=t) hy;have b:=a0o (x:=t) hy;have c:=a2v (partsBetween t (occurrences t y 0 t.length (t.length+1)) y.length);have d:=a2v (Txt.split t y);exact b9w (by rw[hy];rfl) (by lia) (by lia) (by lia) q
theorem a2u{y:Str}{p:Addr}{ss:List Str}(hy:y.length=1)(h:H p=some (.lst (ss.map V.str)))(l:wt ss<=1000000)(q:Q (.str (Txt.join y ss)) H):b6q K (.str y) [.ref p] H Q:=c2l h (b9n hy l) q
end
end L2
namespace L2
open PySem PySem.W PySem.NumText PyProof.Rows
theorem a6n(k:Nat):∀n:Nat,n<10 ^ (k+1)->(Nat.toDigits 10 n).length<=k+1:=by
 induction k with
 | zero=>
  intro n h;rw[Nat.toDigits_of_lt_base (by lia)]
  exact Nat.le_refl _
 | succ k ih=>
  intro n h;by_cases c:n<10
  ·rw[Nat.toDigits_of_lt_base c]
   show 1<=_;lia
  ·have e:10*(n / 10)+n % 10=n:=by lia
   have:=ih (n / 10) (by rw[Nat.pow_succ] at h;lia)
   rw[<- e,<- Nat.toDigits_append_toDigits (by decide) (by lia) (by lia),List.length_append,Nat.toDigits_of_lt_base (show n % 10<10 by lia)]
   show _+1<=_;lia
def b3f(n:Int):Str:=Str.ofString (toString n)
theorem j1(w:Str):w.length=w.cps.toList.length:=Array.length_toList.symm
theorem b7b{n:Int}(h:n.natAbs<10 ^ 60):(b3f n).length<=61:=by
 unfold b3f;rw[j1];cases n with
 | ofNat m=>
  have e:(Str.ofString (toString (Int.ofNat m))).cps.toList=_:=KIN.signs_num m;rw[e,List.length_map];have:=a6n 59 m h;lia
 | negSucc m=>
  rw[signs_ofString,List.length_map];show(String.toList ("-"++Nat.repr (m+1))).length<=_;rw[String.toList_append,List.length_append,Nat.toList_repr];have:=a6n 59 (m+1) h;show 1+_<=_;lia
def b6d(ns:List Int):Str:=Txt.join " " (ns.map b3f)
def a4o(xs:List Int)(i:Nat):List Int:=(xs.drop (4*i)).take 4
def b3z(xs:List Int):List Str:=(List.range (xs.length / 4)).map λi=>b6d (a4o xs i)
def a6q(xs:List Int):Str:=Txt.join "\n" (b3z xs)
theorem b0g{ns:List Int}(h:∀n∈ns,n.natAbs<10 ^ 60):wt (ns.map b3f)<=62*ns.length:=by
 induction ns with
 | nil=>exact Nat.le_refl _
 | cons x r ih=>
  rw[List.map_cons,q0,List.length_cons];have:=ih λn hn=>h n (List.mem_cons_of_mem _ hn);have:=b7b (h x List.mem_cons_self);lia
theorem n5:(" ":Str).length=1:=rfl
theorem j6:("\n":Str).length=1:=rfl
theorem b6p{ns:List Int}(h:∀n∈ns,n.natAbs<10 ^ 60)(l:ns.length<=4):(b6d ns).length<=248:=by
 have:=a5o n5 (ns.map b3f);have:=b0g h;show(Txt.join " " (ns.map b3f)).length<=_;lia
theorem a7r(xs:List Int)(i:Nat):(a4o xs i).length<=4:=by unfold a4o;rw[List.length_take];lia
theorem a7q{xs:List Int}{i:Nat}{x:Int}(h:x∈a4o xs i):x∈xs:=List.mem_of_mem_drop (List.mem_of_mem_take h)
theorem b8q{f:Nat->Str}(h:∀i,(f i).length<=248)(is:List Nat):wt (is.map f)<=249*is.length:=by
 induction is with
 | nil=>exact Nat.le_refl _
 | cons x r ih=>
  rw[List.map_cons,q0,List.length_cons];have:=h x;lia
theorem a6z{xs:List Int}(h:∀n∈xs,n.natAbs<10 ^ 60):wt (b3z xs)<=249*(xs.length / 4):=by
 have:=b8q (f:=λi=>b6d (a4o xs i)) (λi=>b6p (λn hn=>h n (a7q hn)) (a7r xs i)) (List.range (xs.length / 4));rw[List.length_range] at this;exact this
theorem b3l{xs:List Int}(h:∀n∈xs,n.natAbs<10 ^ 60):(a6q xs).length<=249*(xs.length / 4):=Nat.le_trans (a5o j6 _) (a6z h)
def rd(w:Str):Int:=(PySem.intText? w).getD 0
theorem a5e{w:Str}(h:a5v w):b3f (rd w)=w/\(rd w).natAbs<10 ^ 60/\PySem.intText? w=some (rd w)/\w.length<=61:=by
 obtain⟨n,e,b,s,l⟩:=b7a h;have:rd w=n:=by unfold rd;rw[e];rfl
 rw[this];exact⟨b,s,e,l⟩
def a7v(row:Str):List Int:=(Txt.split row " ").map rd
def a4i(row:Str):Prop:=(Txt.split row " ").length=4/\∀w∈Txt.split row " ",a5v w
def a3j(t:Str):Prop:=∀row∈Txt.split t "\n",a4i row
def p9(t:Str):List Int:=((Txt.split t "\n").map a7v).flatten
theorem b4a{row:Str}(h:a4i row):b6d (a7v row)=row:=by
 have e:(a7v row).map b3f=Txt.split row " ":=by
  unfold a7v;rw[List.map_map]
  conv=>rhs;rw[<- List.map_id (Txt.split row " ")]
  exact List.map_congr_left λw hw=>(a5e (h.2 w hw)).1
 unfold b6d;rw[e];exact a9g _ _
theorem b1q{row:Str}(h:a4i row):(a7v row).length=4:=by unfold a7v;rw[List.length_map];exact h.1
theorem a4n{l:List Str}(h:∀r∈l,a4i r):((l.map a7v).flatten).length=4*l.length:=by
 induction l with
 | nil=>rfl
 | cons x r ih=>
  rw[List.map_cons,List.flatten_cons,List.length_append,b1q (h x List.mem_cons_self),ih λz hz=>h z (List.mem_cons_of_mem _ hz),List.length_cons];lia
theorem b7p{l:List Str}(h:∀r∈l,a4i r)(i:Nat)(hi:i<l.length):a4o ((l.map a7v).flatten) i=a7v l[i]:=by
 induction l generalizing i with
 | nil=>exact absurd hi (Nat.not_lt_zero _)
 | cons x r ih=>
  have lx:=b1q (h x List.mem_cons_self);rw[List.map_cons,List.flatten_cons];cases i with
  | zero=>
   unfold a4o;rw[Nat.mul_zero,List.drop_zero,List.take_append_of_le_length (by lia),List.take_of_length_le (by lia)]
   rfl
  | succ i=>
   have:=ih (λz hz=>h z (List.mem_cons_of_mem _ hz)) i (by simpa using hi)
   unfold a4o at this ⊢;rw[show 4*(i+1)=(a7v x).length+4*i by lia,List.drop_append]
   rw[List.drop_of_length_le (by lia),List.nil_append,show(a7v x).length+4*i-(a7v x).length=4*i by lia,this]
   rfl
theorem b8n{t:Str}(h:a3j t):a6q (p9 t)=t:=by
 unfold a6q b3z;have l:(p9 t).length=4*(Txt.split t "\n").length:=a4n h;rw[l,show 4*(Txt.split t "\n").length / 4=(Txt.split t "\n").length by lia]
 have e:((List.range (Txt.split t "\n").length).map λi=>b6d (a4o (p9 t) i))=Txt.split t "\n":=by
  apply List.ext_getElem
  ·rw[List.length_map,List.length_range]
  ·intro i h1 h2
   rw[List.getElem_map,List.getElem_range];have:a4o (p9 t) i=a7v (Txt.split t "\n")[i]:=b7p h i h2;rw[this];exact b4a (h _ (List.getElem_mem h2))
 rw[e];exact a9g _ _
theorem a9t{t:Str}(h:a3j t):∀x∈p9 t,x.natAbs<10 ^ 60:=by
 intro x hx;obtain⟨l,hl,hx⟩:=List.mem_flatten.mp hx;obtain⟨row,hr,rfl⟩:=List.mem_map.mp hl;obtain⟨w,hw,rfl⟩:=List.mem_map.mp hx;exact(a5e ((h row hr).2 w hw)).2.1
theorem b3m{t:Str}(h:a3j t):(p9 t).length=4*(Txt.split t "\n").length:=a4n h
end L2
namespace L2
open PySem PySem.Spec PyProof.Rows
theorem b7o{lo c:Int}{n:Nat}{g:TG}{tb:TS}{D:Ends}{σ:St}{H:Hp}(Pv:Nat->St->Hp->Prop)(h0:Pv 0 σ H)(hs:∀i σ H,i<n->Pv i σ H->g (.int (lo+(i:Int)*c)) σ H λσ2 H2=>tb { D with nx:=Pv (i+1),ct:=Pv (i+1),bk:=D.nx } σ2 H2)(hd:∀σ H,Pv n σ H->D.nx σ H):
  ∃W:Nat->Nat->St->Hp->Prop,(∃m,W 0 m σ H)/\∀i m σ H,W i m σ H ->
   ((Itg lo c n).stop i H/\D.nx σ H)\/((Itg lo c n).go i H/\∃N:St->Hp->Prop,(∀σ' H',N σ' H'->∃m',m'<m/\W (i+1) m' σ' H')/\∀x H',(Itg lo c n).yld i H x H'->g x σ H' λσ2 H2=>tb { D with nx:=N,ct:=N,bk:=D.nx } σ2 H2):=by
 refine⟨λi m σ H=>m=n-i/\i<=n/\Pv i σ H,⟨n,by simp,Nat.zero_le _,h0⟩,?_⟩
 rintro i m σ H ⟨rfl,hi,p⟩;by_cases hlt:i<n
 ·refine .inr ⟨hlt,Pv (i+1),λσ' H' p'=>⟨n-(i+1),by lia,rfl,hlt,p'⟩,λx H' y=>?_⟩
  obtain⟨e,y⟩:=y;subst e y;exact hs i σ _ hlt p
 ·have e:i=n:=by lia
  subst e;exact .inl ⟨Nat.le_refl _,hd σ H p⟩
section
variable{H:Hp}{σ:St}{t:TA}
theorem c2c{R:It->Hp->Prop}(q:t σ H λvs H1=>∃i j c:Int,vs=[.int i,.int j,.int c]/\0<c/\Builtin.Range.small i j c=true/\Builtin.divisionGoesByPylong (j-i) c=false/\0<=Builtin.Range.rangeSize i j c/\R (Itg i c (Builtin.Range.rangeSize i j c).toNat) H1):c1s t σ H R:=q
theorem c3e{n:Nat}(h:n<=1000000):Builtin.Range.small 0 n 4=true/\Builtin.divisionGoesByPylong ((n:Int)-0) 4=false/\0<=Builtin.Range.rangeSize 0 n 4/\(Builtin.Range.rangeSize 0 n 4).toNat=(n+3) / 4:=by
 have e:Builtin.Range.rangeSize 0 n 4=(((n+3) / 4:Nat):Int):=by
  unfold Builtin.Range.rangeSize;rw[if_pos (by decide)]
  split
  ·lia
  ·lia
 refine⟨?_,PyProof.noPylong_small (by decide),by rw[e];lia,by rw[e];lia⟩
 have ft:∀z:Int,-(2 ^ 63)<=z->z<2 ^ 63->Builtin.Range.rangeFitsLong z=true:=λz z1 z2=>by
  unfold Builtin.Range.rangeFitsLong;rw[decide_eq_true z1,decide_eq_true z2]
  rfl
 unfold Builtin.Range.small;rw[e,ft 0 (by decide) (by decide),ft n (by lia) (by lia),ft 4 (by decide) (by decide),ft _ (by lia) (by lia),if_pos (by decide),ft (n+(4-1)) (by lia) (by lia),Bool.or_true]
 rfl
end
def MpP{α:Type}(H:Hp)(xs:List α)(f:α->V)(R:α->Prop)(D:Addr)(i:Nat)(acc:List V)(H':Hp):Prop:=H' D=some (.lst acc)/\(∀b u,H b=some u->H' b=some u)/\acc=(xs.take i).map f/\i<=xs.length/\∀x∈xs.take i,R x
section
variable{α:Type}{H H' H3:Hp}{xs:List α}{f:α->V}{R:α->Prop}{D:Addr}{i:Nat}{acc:List V}
theorem MpP.new(hD:H D=none):MpP H xs f R D 0 [] (upd H D (.lst [])):=⟨d0,λb u e=>by rw[f6 (λz=>by rw[z,hD] at e;cases e)];exact e,rfl,Nat.zero_le _,λx h=>by simp at h⟩
theorem MpP.len(h:MpP H xs f R D i acc H'):H' D=some (.lst acc)/\acc.length=i:=by
 obtain⟨e,_,rfl,l,_⟩:=h;exact⟨e,by rw[List.length_map,List.length_take];lia⟩
theorem MpP.step{x:α}{y:V}(h:MpP H xs f R D i acc H')(hD:H D=none)(hx:xs[i]?=some x)(r:R x)(hy:y=f x)(s:∀b u,H' b=some u->H3 b=some u):H3 D=some (.lst acc)/\MpP H xs f R D (i+1) (acc++[y]) (upd H3 D (.lst (acc++[y]))):=by
 obtain⟨e,s0,rfl,l,g⟩:=h;subst hy;have hi:i<xs.length:=(List.getElem?_eq_some_iff.mp hx).1;refine⟨s _ _ e,d0,λb u eb=>?_,?_,hi,?_⟩
 ·rw[f6 (λz=>by rw[z,hD] at eb;cases eb)]
  exact s _ _ (s0 _ _ eb)
 ·rw[List.take_add_one,hx,List.map_append]
  rfl
 ·intro z hz
  rw[List.take_add_one,hx] at hz;rcases List.mem_append.mp hz with hz|hz
  ·exact g z hz
  ·have:z=x:=by simpa using hz
   rw[this];exact r
theorem MpP.done(h:MpP H xs f R D i acc H')(hi:i=xs.length):H' D=some (.lst (xs.map f))/\(∀b u,H b=some u->H' b=some u)/\∀x∈xs,R x:=by
 obtain⟨e,s0,rfl,l,g⟩:=h;subst hi;rw[List.take_length] at e g;exact⟨e,s0,g⟩
theorem a6c{β:Type}{g:α->β}{v:β}(h:(xs.map g)[i]?=some v):∃x,xs[i]?=some x/\v=g x:=by
 rw[List.getElem?_map] at h;cases e:xs[i]? with
 | none=>rw[e] at h;cases h
 | some x=>rw[e] at h;cases h;exact⟨x,rfl,rfl⟩
end
end L2
namespace L2
open PySem PySem.Spec PyProof.Rows
theorem a4c{K:Frag}{a:Addr}{xs:List V}{p:V->Bool}{nt:Nat}{fr:List Nat}{g:TG}{tt:TT}{te:TE}{σ:St}{H:Hp}{Q:Addr->Hp->Prop}(hs:H a=some (.lst xs))(hz:xs.length<sizeLine)(he:∀(i:Nat) (x:V) (H':Hp) (k1:VK) (k2:Hp->Prop),xs[i]?=some x->Same H H'->(p x=true->∀H2,Same H' H2->k1 x H2)->(p x=false->∀H2,Same H' H2->k2 H2)->g x (j2 nt fr σ) H' λσ2 H2=>tt σ2 H2 λc H3=>if c=true then te σ2 H3 k1 else k2 H3)(hq:∀D H',H D=none->Same H H'->H' D=some (.lst (xs.filter p))->Q D H'):
  ∀D,H D=none->∃(n:Nat)(W:Nat->List V->Hp->Prop),W 0 [] (upd H D (.lst []))/\∀i acc H',W i acc H'->H' D=some (.lst acc)/\acc.length<sizeLine /\
   (((Itl K a).stop i H'/\Q D H')\/(i<n/\(Itl K a).go i H'/\∀x H2,(Itl K a).yld i H' x H2->g x (j2 nt fr σ) H2 λσ2 H3=>tt σ2 H3 λc H4=>if c=true then (te σ2 H4 λy H5=>H5 D=some (.lst acc)/\W (i+1) (acc++[y]) (upd H5 D (.lst (acc++[y])))) else W (i+1) acc H4)):=by
 intro D hD;refine⟨xs.length,λi acc H'=>i<=xs.length/\acc=(xs.take i).filter p/\Same H H'/\H' D=some (.lst acc),⟨Nat.zero_le _,rfl,λb u eb=>by rw[f6 (d6 eb hD)];exact eb,d0⟩,?_⟩
 rintro i acc H' ⟨hi,rfl,s',e'⟩;have hl:((xs.take i).filter p).length<=i:=Nat.le_trans (List.length_filter_le _ _) (by rw[List.length_take];lia)
 refine⟨e',by lia,?_⟩
 have sq:SqL K H' a xs:=SqL.of (s' _ _ hs);by_cases h:i<xs.length
 ·refine .inr ⟨h,⟨xs,xs[i],sq,List.getElem?_eq_getElem h⟩,?_⟩
  rintro x H2 ⟨rfl,hy⟩;have hx:=hy xs sq;have e:xs.take (i+1)=xs.take i++[x]:=by
   rw[List.take_succ,hx];rfl
  refine he i x _ _ _ hx s' (λq H3 s3=>⟨s3 _ _ e',by lia,?_,?_,d0⟩) (λq H3 s3=>⟨by lia,?_,λb u eb=>s3 _ _ (s' _ _ eb),s3 _ _ e'⟩)
  ·rw[e,List.filter_append]
   simp[q]
  ·intro b u eb
   rw[f6 (d6 eb hD)];exact s3 _ _ (s' _ _ eb)
  ·rw[e,List.filter_append]
   simp[q]
 ·have e:i=xs.length:=by lia
  subst e;refine .inl ⟨⟨xs,sq,Nat.le_refl _⟩,?_⟩;rw[List.take_length] at e';exact hq D _ hD s' e'
end L2
namespace S
open PySem L2
def top(i:Nat):Stmt:=PySem.Challenge.pw_slipring_k23_texts_of_cells.main.body.getD i (.Pass ⟨0,0,0,0⟩)
theorem c0f:bootBuiltins "ValueError" = some (.type "ValueError"):=by decide +kernel
structure Cl where
 RingError:Addr
 BadSize:Addr
 NoTurn:Addr
 BadMark:Addr
 Crooked:Addr
 NoCell:Addr
 BadCells:Addr
 BadOrder:Addr
 NoHand:Addr
 NoWaiting:Addr
 NotSound:Addr
 BadStand:Addr
 TooMany:Addr
 NoName:Addr
 NoText:Addr
 NoRow:Addr
 t_HANDS:Addr
structure Txt(K:Frag)(mg:Str->Option Value)(cl:Cl):Prop where
 c_RingError:ExM mg "RingError" cl.RingError
 c_BadSize:ExT K mg "BadSize" cl.BadSize
 c_NoTurn:ExM mg "NoTurn" cl.NoTurn
 c_BadMark:ExM mg "BadMark" cl.BadMark
 c_Crooked:ExM mg "Crooked" cl.Crooked
 c_NoCell:ExM mg "NoCell" cl.NoCell
 c_BadCells:ExT K mg "BadCells" cl.BadCells
 c_BadOrder:ExM mg "BadOrder" cl.BadOrder
 c_NoHand:ExT K mg "NoHand" cl.NoHand
 c_NoWaiting:ExM mg "NoWaiting" cl.NoWaiting
 c_NotSound:ExM mg "NotSound" cl.NotSound
 c_BadStand:ExM mg "BadStand" cl.BadStand
 c_TooMany:ExM mg "TooMany" cl.TooMany
 c_NoName:ExM mg "NoName" cl.NoName
 c_NoText:ExT K mg "NoText" cl.NoText
 c_NoRow:ExM mg "NoRow" cl.NoRow
 m_LEAST_SIZE:∃t,mg "LEAST_SIZE" = some (.int (2) t)
 m_MOST_SIZE:∃t,mg "MOST_SIZE" = some (.int (8) t)
 m_MOST_MARK:∃t,mg "MOST_MARK" = some (.int (3) t)
 m_CELLS_OF_A_PLACE:∃t,mg "CELLS_OF_A_PLACE" = some (.int (4) t)
 m_NEW_MARK:∃t,mg "NEW_MARK" = some (.int (2) t)
 m_NO_ORDER:∃t,mg "NO_ORDER" = some (.int (-1) t)
 m_NO_TURN:∃t,mg "NO_TURN" = some (.int (-1) t)
 m_STILL:∃t,mg "STILL" = some (.int (0) t)
 m_RUNG:∃t,mg "RUNG" = some (.int (1) t)
 m_MOST_FIGURES:∃t,mg "MOST_FIGURES" = some (.int (60) t)
 m_FIGURES:∃t,mg "FIGURES" = some (.str "0123456789" t)
 r_HANDS:mg "HANDS" = some (.ref cl.t_HANDS)
 kt_HANDS:KTup K cl.t_HANDS [.str "giver",.str "taker"]
 z_len:mg "len" = none
 z_range:mg "range" = none
 z_max:mg "max" = none
 z_min:mg "min" = none
 z_isinstance:mg "isinstance" = none
 z_int:mg "int" = none
 z_bool:mg "bool" = none
 z_list:mg "list" = none
 z_all:mg "all" = none
 z_tuple:mg "tuple" = none
 z_str:mg "str" = none
 z_ValueError:mg "ValueError" = none
local macro_rules | `(tactic| walk_at "at")=>`(tactic| first|assumption|exact d0|(refine (f6 ?_).trans ?_;(walk_at "ne");(walk_at "at"))|(refine Same.at ?_ ?_;assumption;(walk_at "at")))
local macro_rules | `(tactic| walk_at "ne")=>`(tactic| first|assumption|exact Ne.symm (by assumption)|((refine' d6 ?h ?n);(case n=>assumption);(case h=>walk_at "at"))|((refine Ne.symm ?_);(refine' d6 ?h ?n);(case n=>assumption);(case h=>walk_at "at")))
local macro_rules | `(tactic| walk_at "cond")=>`(tactic| first|trivial|exact Or.inl ⟨by decide,by decide⟩|exact Or.inr ⟨by decide,by decide⟩|exact Or.inl ⟨by lia,by lia⟩|exact Or.inr ⟨by lia,by lia⟩|(show(0:Int)<_;lia)|(show(0:Int)<_;decide))
local macro_rules | `(tactic| walk_at "go1")=>`(tactic| first
 | ((with_reducible refine' c1v ?h ?_);(case h=>exact rfl))
 | with_reducible refine g_c ?_|with_reducible refine c5s ?_|with_reducible refine c5o ?_|with_reducible refine c6a ?_|with_reducible refine g_U ?_
 | ((with_reducible refine' g_I ?h ?_);(case h=>walk_at "cond"))
 | ((with_reducible refine' c5w ?h ?_);(case h=>exact rfl))|((with_reducible refine' c5t ?h ?_);(case h=>exact rfl))
 | with_reducible refine c5x ?_|with_reducible refine c3y ?_|with_reducible refine c2o ?_
 | (with_reducible refine c3s ?_)|(with_reducible refine c3z ?_)|with_reducible refine c5v ?_|with_reducible refine c4e ?_
 | with_reducible refine g_fld ?_|with_reducible refine g_mt ?_|with_reducible refine g_mtJ ?_|with_reducible refine g_mk ?_|with_reducible refine g_mkJ ?_
 | with_reducible refine c1z ?_|with_reducible refine c5p ?_|with_reducible refine c4g ?_|with_reducible refine c5r ?_|with_reducible refine c3x ?_|with_reducible refine c2r ?_|with_reducible refine g_orV ?_|with_reducible refine g_notV ?_|with_reducible refine c4c ?_
 | with_reducible refine c5z ?_|with_reducible refine c2v ?_|with_reducible refine c2w ?_|with_reducible refine c3n ?_|with_reducible refine c3o ?_
 | ((with_reducible refine c2b ?_);intro _ _)|with_reducible refine c2g ?_|with_reducible refine c2n ?_|with_reducible refine c3w ?_|with_reducible refine g_retN ?_|with_reducible refine c5u ?_|with_reducible refine c2q ?_|with_reducible refine b2b ?_|with_reducible refine c3t ?_|with_reducible refine g_sfld ?_|with_reducible refine b9x ?_|with_reducible refine b9v ?_
 | ((with_reducible refine' g_fld1 ?h ?c ?n ?l ?_);(case h=>walk_at "at");(case c=>walk_at "cls");(case n=>walk_at "nat");(case l=>first|exact rfl|assumption))
 | ((with_reducible refine' g_sfld1 ?h ?c ?n ?l ?_);(case h=>walk_at "at");(case c=>walk_at "cls");(case n=>walk_at "nat");(case l=>exact Nat.le_of_ble_eq_true rfl))
 | with_reducible refine g_aug ?_|with_reducible refine g_rAdd ?_
 | ((with_reducible refine' g_aug1 ?h ?c ?n ?l ?_);(case h=>walk_at "at");(case c=>walk_at "cls");(case n=>walk_at "nat");(case l=>first|exact rfl|assumption))
 | ((with_reducible refine' g_aug2 ?h ?l ?_);(case h=>walk_at "at");(case l=>exact Nat.le_of_ble_eq_true rfl))
 | ((with_reducible refine' g_mt1 ?h ?l ?_);(case h=>walk_at "at");(case l=>exact rfl))
 | ((with_reducible refine' a1s ?h ?e ?_);(case h=>walk_at "at");(case e=>exact rfl))
 | ((with_reducible refine' c4a ?h ?e ?_);(case h=>walk_at "at");(case e=>exact rfl))
 | ((with_reducible refine' c2k ?h ?_);(case h=>walk_at "at"))|((with_reducible refine' c2j ?h ?_);(case h=>walk_at "at"))|((with_reducible refine' g_lenT ?h ?_);(case h=>walk_at "at"))|((with_reducible refine' b9z ?h ?_);(case h=>walk_at "at"))|((with_reducible refine' c1y ?h ?_);(case h=>walk_at "at"))|with_reducible refine g_inRng ?_|with_reducible refine g_inRng2 ?_|with_reducible refine c1w ?_|with_reducible refine g_seqi ?_
 | with_reducible refine c4d ?_|with_reducible refine c2e ?_|with_reducible refine c2d ?_|with_reducible refine c2h ?_|with_reducible refine c2p ?_
 | ((with_reducible refine' b8h ?h1 ?h2 ?_);(case h1=>lia);(case h2=>lia))|((with_reducible refine' b8h ?h1 ?h2 ?_);(case h1=>decide);(case h2=>decide))
 | ((with_reducible refine' c2i ?h ?_);(case h=>exact SqL.of (by walk_at "at")))
 | with_reducible refine c4f ?_|((with_reducible refine' c0b ?h ?_);(case h=>walk_at "at"))
 | with_reducible refine c2c ?_|with_reducible refine b7n ?_|with_reducible refine c3u ?_|with_reducible refine c3q ?_|with_reducible refine b7k ?_|with_reducible refine c2a ?_|with_reducible refine c5q ?_|with_reducible refine c2f ?_|with_reducible refine b7l ?_
 | with_reducible refine c5y ?_|((with_reducible refine' c3r ?h ?_);(case h=>walk_at "at"))|((with_reducible refine' b5k ?h ?l ?_);(case h=>walk_at "at");(case l=>first|exact Nat.le_of_ble_eq_true rfl|lia))
 | ((with_reducible refine' b9u ?h ?_);(case h=>assumption))|((with_reducible refine g_hida ?_);intro _ _))
local macro_rules | `(tactic| walk_at "go")=>`(tactic| repeat (walk_at "go1"))
local macro_rules | `(tactic| fail "")=>`(tactic| walk_at "go")
set_option hygiene false in
local macro_rules | `(tactic| walk_at "cls")=>`(tactic| first|assumption)
set_option hygiene false in
local macro_rules | `(tactic| walk_at "nat")=>`(tactic| first|assumption)
section
variable{P:Program}{w:World}{K:Frag}{mg:Str->Option Value}{base:Heap}{cl:Cl}
theorem i8:1<=sizeLine:=by decide
def a2y(cl:Cl):Sp:=λvs H Q E=>∃n,vs=[.int n]/\(if 2<=n/\n<=8 then Q .non H else E (.ref cl.BadSize) none H)
abbrev a1n:Stmt:=top 20
theorem a6w:g6 ["size"] ["size"] (d8 a1n):=↑1
theorem a7i(D:DefT K mg "check_size" a1n ["size"])(T:Txt K mg cl):FnT P w K mg base "check_size" 1 ["size"] (a2y cl):=by
 refine D.fn a6w (λvs H Q E h=>?_) (λf cdv A outer s H vs Q E hr h=>?_)
 ·obtain⟨n,rfl,_⟩:=h
  rfl
 ·obtain⟨n,rfl,h⟩:=h
  refine⟨_,(d7 (m5 (PW.pt (a1d (f7 a7e (pv 0) (j7 T.m_LEAST_SIZE rfl) (g5 _)) (a0k (f7 b0q (pv 0) (j7 T.m_MOST_SIZE rfl) (g5 _)))))
    (d7 (v6 T.c_BadSize rfl rfl a4b (b0 g4 d3)))
    i5)),?_⟩
  refine⟨_,rfl,_,_,rfl,rfl,_,rfl,b5c (λc=>?_) (λc=>⟨_,rfl,_,_,rfl,rfl,_,rfl,b5c (λd=>?_) (λd=>?_)⟩)⟩
  ·rw[if_neg (by have:=of_decide_eq_true c;lia)] at h
   exact b5c (λ_=>⟨i8,h⟩) (λz=>absurd rfl z)
  ·rw[if_neg (by have:=of_decide_eq_true d;lia)] at h
   exact⟨i8,h⟩
  ·simp only[decide_eq_true_eq] at c d
   rw[if_pos (by lia)] at h
   exact h
def Well(H:Hp)(w:Addr):Prop:=∃a b p,H w=some (.lst [.int a,.int b,.int p])/\0<p/\p<2147483648
def But(w:Addr)(H H':Hp):Prop:=∀b o,H b=some o->b≠w->H' b=some o
theorem But.trans{w:Addr}{H H1 H2:Hp}(a:But w H H1)(b:But w H1 H2):But w H H2:=λc o e n=>b c o (a c o e n) n
theorem But.of{w:Addr}{H H':Hp}(s:Same H H'):But w H H':=λb o e _=>s b o e
theorem But.upd{w:Addr}{H:Hp}{o:HO}:But w H (upd H w o):=λb u e n=>by rw[f6 n];exact e
theorem c8{H:Hp}{p:Addr}{o:HO}(n:H p=none):Same H (upd H p o):=λb u e=>by rw[f6 (d6 e n)];exact e
theorem Well.same{H H':Hp}{w:Addr}(h:Well H w)(s:Same H H'):Well H' w:=let ⟨a,b,p,e,q⟩:=h;⟨a,b,p,s _ _ e,q⟩
theorem Well.at{H:Hp}{w:Addr}(h:Well H w):∃o,H w=some o:=let ⟨_,_,_,e,_⟩:=h;⟨_,e⟩
def k6:Sp:=λvs H Q _=>∃w m,vs=[.ref w,.int m]/\Well H w/\0<m/\m<2 ^ 200/\∀r H',0<=r->r<m->Well H' w->But w H H'->Q (.int r) H'
theorem b3k:2000<=sizeLine:=by decide
theorem c3m(n:Int)(h0:0<n)(h:n<2 ^ 200):n.natAbs.log2<9000:=by
 have h1:n.natAbs<2 ^ 200:=by lia
 have h2:=(Nat.log2_lt (n:=n.natAbs) (k:=200) (by lia)).mpr h1
 lia
abbrev a3m:Stmt:=top 49
theorem a4z:g6 ["well","many","got"] ["well","many"] (d8 a3m):=↑1
theorem b0s(D:DefT K mg "_law_take" a3m ["well","many"])(T:Txt K mg cl):FnT P w K mg base "_law_take" 1 ["well","many"] k6:=by
 refine D.fn a4z (λvs H Q E h=>?_) (λf cdv A outer s H vs Q E hr h=>?_)
 ·obtain⟨w,m,rfl,_⟩:=h
  rfl
 ·obtain⟨w,m,rfl,⟨a,b,p,hw,p0,p1⟩,m0,m1,k⟩:=h
  refine⟨_,(d4 (m5 (f7 b0q (o0 (i3 (K:=K)) (pv 0) d5 (λ_ _=>rfl)) d5 (g5 _))
     (
     d4 (f8 (i:=2) a4z.nd rfl (by first|exact Or.inl rfl|exact Or.inr rfl) (d9 a2e (o0 (i3 (K:=K)) (pv 0) d5 (λ_ _=>rfl)) (pv 1)))
     (d4 (a3c (d9 a0b (o0 (i3 (K:=K)) (pv 0) d5 (λ_ _=>rfl)) (pv 1)) (a3d (pv 0) d5 y1))
     (d7 (g9 (pv 2)))))
     i5)
   (d4 (a3c (d9 i9 (d9 a2e (d9 m9 (o0 (i3 (K:=K)) (pv 0) d5 (λ_ _=>rfl)) d5) (o0 (i3 (K:=K)) (pv 0) d5 (λ_ _=>rfl))) d5) (a3d (pv 0) d5 y1))
   (d7 (g9 (d9 a2e (d9 a0b (d9 a2e (d9 m9 (o0 (i3 (K:=K)) (pv 0) d5 (λ_ _=>rfl)) (o0 (i3 (K:=K)) (pv 0) d5 (λ_ _=>rfl))) d5) d5) (pv 1)))))),?_⟩
  refine⟨_,rfl,w,_,0,_,rfl,rfl,SqL.of hw,rfl,_,_,rfl,rfl,_,rfl,b5c (λc=>?_) (λc=>?_)⟩
  ·refine⟨_,rfl,w,_,0,_,rfl,rfl,SqL.of hw,rfl,_,rfl,_,_,rfl,rfl,m0,?_⟩
   refine⟨_,rfl,w,_,0,_,rfl,rfl,SqL.of hw,rfl,_,rfl,_,_,rfl,rfl,⟨m0,c3m m m0 m1⟩,_,rfl,w,_,0,0,rfl,rfl,hw,rfl,?_⟩;exact⟨_,rfl,k _ _ (Int.emod_nonneg _ (by lia)) (Int.emod_lt_of_pos _ m0) ⟨_,_,_,d0,p0,p1⟩ But.upd⟩
  ·refine⟨_,rfl,w,_,1,_,rfl,rfl,SqL.of hw,rfl,_,_,rfl,rfl,.inr ⟨by decide,by decide⟩,_,rfl,w,_,2,_,rfl,rfl,SqL.of hw,rfl,_,_,rfl,rfl,p0,_,_,rfl,rfl,_,rfl,w,_,1,1,rfl,rfl,hw,rfl,?_⟩
   have h1:=Int.emod_nonneg (b*48271) (show p≠0 by lia)
   have h2:=Int.emod_lt_of_pos (b*48271) p0;refine⟨_,rfl,w,_,1,_,rfl,rfl,SqL.of d0,rfl,_,rfl,w,_,1,_,rfl,rfl,SqL.of d0,rfl,_,_,rfl,rfl,.inl ⟨by lia,by lia⟩,_,_,rfl,rfl,(by show(0:Int)<2147483423;decide),_,_,rfl,rfl,⟨by decide,by decide⟩,_,rfl,_,_,rfl,rfl,m0,?_⟩
   exact k _ _ (Int.emod_nonneg _ (by lia)) (Int.emod_lt_of_pos _ m0) ⟨_,_,_,d0,p0,p1⟩ But.upd
theorem a7t{ns:List Int}{n:Nat}(h:n<ns.length):atI (ns.map V.int) (n:Int)=some (.int ns[n]):=by
 have hl:(ns.map V.int).length=ns.length:=List.length_map _;unfold atI ixN;rw[if_pos (by lia),if_pos (by lia)]
 show(ns.map V.int)[(n:Int).toNat]?=_;rw[show(n:Int).toNat=n by lia,List.getElem?_map,List.getElem?_eq_getElem h]
 rfl
abbrev b8z:List V:=[.int 2147483647,.int 2147483629,.int 2147483587,.int 2147483579,.int 2147483563,.int 2147483549,.int 2147483543,.int 2147483497]
theorem b4g(j:Int)(h0:0<=j)(h1:j<8):∃v,atI b8z j=some (.int v)/\0<v/\v<2147483648:=by
 have:j=0\/j=1\/j=2\/j=3\/j=4\/j=5\/j=6\/j=7:=by lia
 rcases this with rfl|rfl|rfl|rfl|rfl|rfl|rfl|rfl <;> exact⟨_,rfl,by decide,by decide⟩
def a4t(K:Frag):Sp:=λvs H Q _=>∃(c:Addr)(ns:List Int)(k:Nat),vs=[.ref c,.int (k:Int)]/\SqL K H c (ns.map V.int)/\k<1000/\∀w H',H w=none->Same H H'->Well H' w->Q (.ref w) H'
abbrev a3l:Stmt:=top 48
theorem u7:g6 ["script","k","cell","primes","seed"] ["script","k"] (d8 a3l):=↑1
theorem b0r(D:DefT K mg "_law_well" a3l ["script","k"])(T:Txt K mg cl):FnT P w K mg base "_law_well" 1 ["script","k"] (a4t K):=by
 refine D.fn u7 (λvs H Q E h=>?_) (λf cdv A outer s H vs Q E hr h=>?_)
 ·obtain⟨c,ns,k,rfl,_⟩:=h
  rfl
 ·obtain⟨c,ns,n,rfl,hc,hn,k⟩:=h
  refine⟨_,(d4 (f8 (i:=2) u7.nd rfl (by first|exact Or.inl rfl|exact Or.inr rfl) d5)
   (d4 (m5 (f7 a7e (pv 1) (f9 (i6 (K:=K)) (by rfl) T.z_len PySem.boot_len (b0 (pv 0) d3)) (g5 _))
     (d7 (f8 (i:=2) u7.nd rfl (by first|exact Or.inl rfl|exact Or.inr rfl) (o0 (i3 (K:=K)) (pv 0) (pv 1) (λ_ _=>rfl))))
     i5)
   (d4 (f8 (i:=3) u7.nd rfl (by first|exact Or.inl rfl|exact Or.inr rfl) (j8 (b0 d5 (b0 d5 (b0 d5 (b0 d5 (b0 d5 (b0 d5 (b0 d5 (b0 d5 d3))))))))))
   (d4 (f8 (i:=4) u7.nd rfl (by first|exact Or.inl rfl|exact Or.inr rfl) (d9 a2e (d9 m9 (d9 i9 (d9 a2e (pv 2) d5) d5) (d9 i9 d5 (d9 m9 d5 (pv 1)))) d5))
   (d4 (f8 (i:=4) u7.nd rfl (by first|exact Or.inl rfl|exact Or.inr rfl) (d9 i9 (d9 i9 (d9 a2e (d9 m9 (pv 4) (pv 4)) d5) (pv 1)) d5))
   (d4 (m5 (f7 b4q (pv 2) (d9 b1u d5 d5) (g5 _))
     (d7 (g9 (j8 (b0 (pv 2) (b0 (pv 4) (b0 (o0 (i3 (K:=K)) (pv 3) (d9 a2e (pv 1) d5) (λ_ _=>rfl)) d3))))))
     i5)
   (d7 (g9 (j8 (b0 d5 (b0 (pv 4) (b0 (o0 (i3 (K:=K)) (pv 3) (d9 a2e (pv 1) d5) (λ_ _=>rfl)) d3)))))))))))),?_⟩
  refine⟨_,rfl,_,rfl,c,_,rfl,.inl hc,_,_,rfl,rfl,_,rfl,b5c (λa=>⟨_,rfl,_,rfl,c,_,(n:Int),_,rfl,rfl,hc,a7t (by have:=of_decide_eq_true a;rw[List.length_map] at this;lia),?_⟩) (λa=>?_)⟩
  all_goals
   refine⟨by show 8<=sizeLine;decide,λp hp=>?_⟩
   refine⟨_,rfl,_,_,rfl,rfl,(by show(0:Int)<2147483489;decide),_,_,rfl,rfl,_,rfl,_,_,rfl,rfl,.inl ⟨by decide,by decide⟩,_,_,rfl,rfl,_,_,rfl,rfl,.inl ⟨by lia,by lia⟩,_,_,rfl,rfl,(by show(0:Int)<2147483489;decide),?_⟩
   refine⟨_,rfl,_,rfl,_,_,rfl,rfl,.inl ⟨by lia,by lia⟩,_,_,rfl,rfl,(by show(0:Int)<2147483477;decide),_,rfl,_,_,rfl,rfl,_,_,rfl,rfl,?_⟩
   refine⟨_,rfl,_,_,rfl,rfl,⟨by decide,by decide,by decide⟩,_,_,rfl,rfl,_,rfl,b5c (λb=>?_) (λb=>?_)⟩
   all_goals
    obtain⟨v,hv,v0,v1⟩:=b4g ((n:Int) % 8) (by lia) (by lia)
    first
     | refine⟨_,rfl,_,rfl,_,rfl,_,rfl,_,_,rfl,rfl,(by show(0:Int)<8;decide),p,_,_,_,rfl,rfl,SqL.of d0,hv,(by show 3<=sizeLine;decide),λq hq=>?_⟩
     | refine⟨_,rfl,_,rfl,_,rfl,_,_,rfl,rfl,(by show(0:Int)<8;decide),p,_,_,_,rfl,rfl,SqL.of d0,hv,(by show 3<=sizeLine;decide),λq hq=>?_⟩
    exact k q _ ((c8 hp).free hq) ((c8 hp).trans (c8 hq)) ⟨_,_,_,d0,v0,v1⟩
def a6d:Sp:=λvs H Q _=>∃w,vs=[.ref w]/\Well H w/\∀r H',1<=r->r<=10 ^ 58->Well H' w->But w H H'->Q (.int r) H'
abbrev a5c:Stmt:=top 50
theorem b2z:g6 ["well"] ["well"] (d8 a5c):=↑1
theorem b8s:(0:Int)<10 ^ 58/\(10:Int) ^ 58<2 ^ 200-1:=by decide
theorem b3d(D:DefT K mg "_law_far" a5c ["well"])(T:Txt K mg cl)(G_law_take:FnT P w K mg base "_law_take" 1 ["well","many"] k6):FnT P w K mg base "_law_far" 2 ["well"] a6d:=by
 refine D.fn b2z (λvs H Q E h=>?_) (λf cdv A outer s H vs Q E hr h=>?_)
 ·obtain⟨w,rfl,_⟩:=h
  rfl
 ·obtain⟨w,rfl,hw,k⟩:=h
  refine⟨_,(d7 (g9 (o0 (i3 (K:=K)) (j8 (b0 (d9 i9 d5 (i0 G_law_take hr (by decide) rfl i4 (b0 (pv 0) (b0 d5 d3)))) (b0 (d9 i9 d5 (i0 G_law_take hr (by decide) rfl i4 (b0 (pv 0) (b0 (d9 b1u d5 d5) d3)))) d3))) (i0 G_law_take hr (by decide) rfl i4 (b0 (pv 0) (b0 d5 d3))) (λ_ _=>rfl)))),?_⟩
  refine⟨_,rfl,w,3,rfl,hw,by decide,by decide,λr1 H1 a1 b1 w1 s1=>?_⟩
  refine⟨_,_,rfl,rfl,_,rfl,_,_,rfl,rfl,⟨by decide,by decide,by decide⟩,w,_,rfl,w1,b8s.1,Int.lt_trans b8s.2 (by decide),λr2 H2 a2 b2 w2 s2=>?_⟩
  refine⟨_,_,rfl,rfl,(by show 2<=sizeLine;decide),λp hp=>?_⟩
  have np:w≠p:=by obtain⟨o,e⟩:=w2.at;exact d6 e hp
  refine⟨_,rfl,w,2,rfl,w2.same (c8 hp),by decide,by decide,λr3 H3 a3 b3 w3 s3=>?_⟩
  have e3:H3 p=_:=s3 p _ d0 np.symm;have b58:=b8s.2;have b2:r2<10 ^ 58:=b2;have bt:But w H H3:=(s1.trans s2).trans ((But.of (c8 hp)).trans s3);have:r3=0\/r3=1:=by lia
  rcases this with rfl|rfl
  ·exact⟨p,_,0,_,rfl,rfl,SqL.of e3,rfl,k _ _ (by lia) (by lia) w3 bt⟩
  ·exact⟨p,_,1,_,rfl,rfl,SqL.of e3,rfl,k _ _ (by lia) (by lia) w3 bt⟩
theorem b9a{ns:List Int}{Pr:Int->Prop}(h:∀v∈ns,Pr v){r:Int}(h0:0<=r)(h1:r<ns.length):∃v,atI (ns.map V.int) r=some (.int v)/\Pr v:=by
 have hr:r.toNat<ns.length:=by lia
 refine⟨ns[r.toNat],?_,h _ (List.getElem_mem hr)⟩;have e:=a7t hr
 rwa [show((r.toNat:Nat):Int)=r by lia] at e
theorem Well.ne{H:Hp}{w p:Addr}(h:Well H w)(n:H p=none):p≠w:=by
 obtain⟨o,e⟩:=h.at;exact(d6 e n).symm
theorem But.nw{w:Addr}{H0 H:Hp}{p:Addr}{o:HO}(s:But w H0 H)(n:H p=none):But w H0 (L2.upd H p o):=s.trans (But.of (c8 n))
theorem But.free{w p:Addr}{H0 H:Hp}(s:But w H0 H)(hw:Well H w)(n:H p=none):H0 p=none:=by
 cases e:H0 p with
 | none=>rfl
 | some o=>
  have:=s p o e (hw.ne n);rw[n] at this;cases this
theorem _root_.L2.Same.set{H H':Hp}{p:Addr}{o:HO}(s:Same H H')(n:H p=none):Same H (upd H' p o):=λb u e=>by rw[f6 (d6 e n)];exact s b u e
theorem b2g{H:Hp}{p q:Addr}{ns:List Int}(ne:p≠q)(hp:H p=some (.lst (ns.map V.int)))(hq:H q=some (.lst (ns.map V.int))):EqD K H 1 (.ref p) (.ref q) true:=by
 have h:=b2i (K:=K) ne (SqL.of hp) (SqL.of hq) (a9l _) (a9l _);rw[b2l] at h
 simpa using h
theorem a5s{H:Hp}{p q:Addr}{ns:List Bool}(ne:p≠q)(hp:H p=some (.lst (ns.map V.bl)))(hq:H q=some (.lst (ns.map V.bl))):EqD K H 1 (.ref p) (.ref q) true:=by
 have h:=b2i (K:=K) ne (SqL.of hp) (SqL.of hq) (b2e _) (b2e _);rw[b5s] at h
 simpa using h
theorem b8f{l j:Nat}(h:j<l):ixN l (j:Int)=some j:=by
 unfold ixN;rw[if_pos (by lia),if_pos (by lia)]
 exact congrArg some (by lia)
theorem c1r(b:Nat->Int)(i:Nat)(y:Int)(h:y=b i):((List.range i).map b).map V.int++[V.int y]=((List.range (i+1)).map b).map V.int:=by
 subst h;rw[List.range_succ,List.map_append,List.map_append]
 rfl
theorem a9h(b:Nat->Int)(i:Nat):(((List.range i).map b).map V.int).length=i:=by rw[List.length_map,List.length_map,List.length_range]
def a1e(n g p:Int):Int:=(g-p+n-1) / n
def lmI(n f g p:Int):Int:=if a1e n g p=0 then 2 else 2*((a1e n g p-1) % 2)+(if f<=p+n*(a1e n g p-1) then 1 else 0)
def b0w(n:Nat)(f g:Int):List Int:=(List.range n).map λ(p:Nat)=>lmI n f g (0+(p:Int))
theorem b4y(n:Nat)(f g:Int):(b0w n f g).length=n:=by unfold b0w;rw[List.length_map,List.length_range]
def a3t:Sp:=λvs H Q _=>∃(n:Nat)(f g:Int),vs=[.int (n:Int),.int f,.int g]/\2<=n/\n<=8/\∀l H',H l=none->Same H H'->H' l=some (.lst ((b0w n f g).map V.int))->Q (.ref l) H'
abbrev a2n:Stmt:=top 51
theorem v5:g6 ["size","freed","given","marks","place","many","last"] ["size","freed","given"] (d8 a2n):=↑1
theorem a8y(D:DefT K mg "_law_marks" a2n ["size","freed","given"])(T:Txt K mg cl):FnT P w K mg base "_law_marks" 1 ["size","freed","given"] a3t:=by
 refine D.fn v5 (λvs H Q E h=>?_) (λf cdv A outer s H vs Q E hr h=>?_)
 ·obtain⟨n,f,g,rfl,_⟩:=h
  rfl
 ·obtain⟨n,f,g,rfl,h2,h8,k⟩:=h
  refine⟨_,(d4 (f8 (i:=3) v5.nd rfl (by first|exact Or.inl rfl|exact Or.inr rfl) (j8 d3))
   (d4 (u6 j3 rfl (l9 rfl T.z_range (b0 (pv 0) d3)) (i7 (i:=4) v5.nd rfl (by first|exact Or.inl rfl|exact Or.inr rfl))
     (
     d4 (f8 (i:=5) v5.nd rfl (by first|exact Or.inl rfl|exact Or.inr rfl) (d9 a0b (d9 y0 (d9 i9 (d9 y0 (pv 2) (pv 4)) (pv 0)) d5) (pv 0)))
     (d4 (f8 (i:=6) v5.nd rfl (by first|exact Or.inl rfl|exact Or.inr rfl) (d9 i9 (pv 4) (d9 m9 (pv 0) (d9 y0 (pv 5) d5))))
     (d7 (m5 (f7 a3e (pv 5) d5 (g5 _))
      (d7 (m6 (t7 (K:=K) (pv 3) (b0 d5 d3))))
      (d7 (m6 (t7 (K:=K) (pv 3) (b0 (d9 i9 (d9 m9 d5 (d9 a2e (d9 y0 (pv 5) d5) d5)) (p8 b6a (by rfl) T.z_int PyProof.Rows.boot_int (b0 (a0y b4q (pv 6) (pv 1) (g5 _)) d3))) d3)))))))))
   (d7 (g9 (pv 3))))),?_⟩
  have h8l:=b3k;refine⟨Nat.zero_le _,λp3 h3=>?_⟩;refine⟨_,rfl,(n:Int),rfl,by lia,by lia,?_⟩
  rw[show((n:Int)).toNat=n by lia]
  refine m3 (n:=n) (λi σ H'=>∃x4 x5 x6,σ=[some (.int (n:Int)),some (.int f),some (.int g),some (.ref p3),x4,x5,x6]/\Same H H'/\H' p3=some (.lst (((List.range i).map λ(p:Nat)=>lmI n f g (0+(p:Int))).map V.int))) ⟨_,_,_,rfl,c8 h3,d0⟩ ?_ ?_
  ·rintro i σ H1 hi ⟨x4,x5,x6,rfl,s1,e3⟩
   refine⟨_,rfl,_,rfl,_,_,rfl,rfl,_,rfl,_,_,rfl,rfl,_,_,rfl,rfl,_,rfl,_,_,rfl,rfl,⟨by lia,c3m _ (by lia) (by lia)⟩,?_⟩
   refine⟨_,rfl,_,rfl,_,rfl,_,_,rfl,rfl,_,_,rfl,rfl,.inl ⟨by lia,by lia⟩,_,_,rfl,rfl,?_⟩
   refine⟨_,rfl,rfl,_,rfl,b5c (λc=>?_) (λc=>?_)⟩
   ·have c:a1e n g (0+(i:Int))=0:=by have:=of_decide_eq_true c;exact(V.int.inj this)
    refine⟨_,rfl,.inl ⟨rfl,_,SqL.of e3⟩,p3,_,_,rfl,rfl,e3,by rw[a9h];lia,?_⟩
    rw[c1r _ _ _ (by unfold lmI;rw[if_pos c])]
    exact⟨_,_,_,rfl,s1.set h3,d0⟩
   ·have c:¬ a1e n g (0+(i:Int))=0:=λz=>c (decide_eq_true (congrArg V.int z))
    refine⟨_,rfl,.inl ⟨rfl,_,SqL.of e3⟩,_,rfl,_,_,rfl,rfl,_,_,rfl,rfl,(by show(0:Int)<2;decide),_,_,rfl,rfl,.inl ⟨by decide,by decide⟩,_,rfl,_,rfl,_,_,rfl,rfl,.inr ⟨_,rfl,_,_,rfl,rfl,p3,_,_,rfl,rfl,e3,by rw[a9h];lia,?_⟩⟩
    rw[c1r _ _ _ (by
     unfold lmI;rw[if_neg c];show 2*((a1e n g (0+(i:Int))-1) % 2)+(if decide (0+(i:Int)+n*(a1e n g (0+(i:Int))-1) >= f)=true then (1:Int) else 0)=_;simp only[decide_eq_true_eq,ge_iff_le])]
    exact⟨_,_,_,rfl,s1.set h3,d0⟩
  ·rintro σ H1 ⟨x4,x5,x6,rfl,s1,e3⟩
   exact⟨_,rfl,k p3 H1 h3 s1 e3⟩
theorem b2r{row:List Int}{c:Int}(h0:0<=c)(h1:c<row.length):atI (row.map V.int) c=some (.int (row.getD c.toNat 0)):=by
 have hn:c.toNat<row.length:=by lia
 have e:=a7t hn;rw[show((c.toNat:Nat):Int)=c by lia] at e
 rw[e,List.getD_eq_getElem?_getD,List.getElem?_eq_getElem hn]
 rfl
theorem a2f{l:Nat}{c:Int}(h0:0<=c)(h1:c<l):ixN l c=some c.toNat:=by
 unfold ixN;rw[if_pos h0,if_pos h1]
def b1z(n:Nat):List Int:=(List.replicate n [2,-1,0,0]).flatten++[-1,-1,0,0]
theorem b3g(n:Nat):(b1z n).length=4*n+4:=by
 unfold b1z;rw[List.length_append,b0x];show n*4+4=_;lia
theorem b8v(n:Nat)(ns:List Int):(List.replicate n (ns.map V.int)).flatten=((List.replicate n ns).flatten).map V.int:=by
 induction n with
 | zero=>rfl
 | succ n ih=>rw[List.replicate_succ,List.replicate_succ,List.flatten_cons,List.flatten_cons,List.map_append,ih]
def a2z(cl:Cl):Sp:=λvs H Q E=>∃h:Str,vs=[.str h]/\(if h="giver"\/h="taker" then Q .non H else E (.ref cl.NoHand) none H)
def a8b(d:Int):Sp:=λvs H Q _=>∃p,vs=[.int p]/\Q (.int (4*p+d)) H
def b1h(cl:Cl)(n:Int)(h:Str)(H:Hp)(E:XK)(k:Prop):Prop:=if 2<=n/\n<=8 then (if h="giver"\/h="taker" then k else E (.ref cl.NoHand) none H) else E (.ref cl.BadSize) none H
def b5h(h:Str):Int:=if h="giver" then 0 else 1
def a1j(cl:Cl):Sp:=λvs H Q E=>∃(n:Int)(h:Str),vs=[.int n,.str h]/\b1h cl n h H E (Q (.int (4*n+b5h h)) H)
def a3x(cl:Cl):Sp:=λvs H Q E=>∃(n:Int)(h:Str),vs=[.int n,.str h]/\b1h cl n h H E (Q (.int (4*n+b5h h+2)) H)
def a3q:Sp:=λvs H Q _=>∃n:Nat,vs=[.int n]/\n<=8/\∀l H',H l=none->Same H H'->H' l=some (.lst ((b1z n).map V.int))->Q (.ref l) H'
theorem a7n(x y:Str):eqV (.str x) (.str y)=decide (x=y):=by
 first
  | rfl
  | (unfold eqV;simp)
abbrev a1o:Stmt:=top 30
theorem a6x:g6 ["hand"] ["hand"] (d8 a1o):=↑1
theorem a7j(D:DefT K mg "check_hand" a1o ["hand"])(T:Txt K mg cl):FnT P w K mg base "check_hand" 1 ["hand"] (a2z cl):=by
 refine D.fn a6x (λvs H Q E h=>?_) (λf cdv A outer s H vs Q E hr h=>?_)
 ·obtain⟨n,rfl,_⟩:=h
  rfl
 ·obtain⟨n,rfl,h⟩:=h
  refine⟨_,(d7 (m5 (f7 (a8p (K:=K)) (pv 0) (a7b T.r_HANDS rfl) (by with_unfolding_all rfl))
    (d7 (v6 T.c_NoHand rfl rfl a4b (b0 g4 d3)))
    i5)),?_⟩
  fail "";refine⟨_,_,rfl,.inr T.kt_HANDS.sq,rfl,rfl,?_⟩;fail "";have e:inV (.str n) [.str "giver",.str "taker"]=decide (n="giver"\/n="taker"):=by
   unfold inV;simp only[List.any_cons,List.any_nil,a7n,Bool.or_false];rw[Bool.eq_iff_iff];simp only[Bool.or_eq_true,decide_eq_true_eq];exact or_congr eq_comm eq_comm
  simp only[if_true,e];refine a6m (λc=>?_) (λc=>?_)
  ·rw[if_neg c] at h
   fail "";exact⟨i8,h⟩
  ·rw[if_pos c] at h
   fail "";exact h
abbrev a2j:Stmt:=top 31
theorem a8e:g6 ["place"] ["place"] (d8 a2j):=↑1
theorem a8u(D:DefT K mg "mark_cell" a2j ["place"])(T:Txt K mg cl):FnT P w K mg base "mark_cell" 1 ["place"] (a8b 0):=by
 refine D.fn a8e (λvs H Q E h=>?_) (λf cdv A outer s H vs Q E hr h=>?_)
 ·obtain⟨n,rfl,_⟩:=h
  rfl
 ·obtain⟨n,rfl,h⟩:=h
  refine⟨_,(d7 (g9 (d9 m9 (j7 T.m_CELLS_OF_A_PLACE rfl) (pv 0)))),?_⟩;fail "";rw[Int.add_zero] at h;exact h
abbrev a2r:Stmt:=top 32
theorem a8f:g6 ["size","hand"] ["size","hand"] (d8 a2r):=↑1
theorem a9c(D:DefT K mg "card_cell" a2r ["size","hand"])(T:Txt K mg cl)(G_check_size:FnT P w K mg base "check_size" 1 ["size"] (a2y cl))(G_check_hand:FnT P w K mg base "check_hand" 1 ["hand"] (a2z cl)):FnT P w K mg base "card_cell" 2 ["size","hand"] (a1j cl):=by
 refine D.fn a8f (λvs H Q E h=>?_) (λf cdv A outer s H vs Q E hr h=>?_)
 ·obtain⟨n,x,rfl,_⟩:=h
  rfl
 ·obtain⟨n,x,rfl,h⟩:=h
  refine⟨_,(d4 (m6 (i0 G_check_size hr (by decide) rfl i4 (b0 (pv 0) d3)))
   (d4 (m6 (i0 G_check_hand hr (by decide) rfl i4 (b0 (pv 1) d3)))
   (d7 (g9 (d9 i9 (d9 m9 (j7 T.m_CELLS_OF_A_PLACE rfl) (pv 0)) (b3a (K:=K) (a7b T.r_HANDS rfl) (b0 (pv 1) d3))))))),?_⟩
  unfold b1h at h;fail "";refine⟨n,rfl,b5c (λa=>?_) (λa=>?_)⟩
  ·rw[if_pos a] at h
   fail "";refine⟨x,rfl,b5c (λb=>?_) (λb=>?_)⟩
   ·rw[if_pos b] at h
    fail "";refine⟨T.kt_HANDS.ty,?_⟩;fail "";refine⟨_,_,_,_,rfl,rfl,T.kt_HANDS,rfl,rfl,rfl,?_,?_⟩
    ·rw[a7n,a7n,decide_eq_true_eq,decide_eq_true_eq]
     exact b.imp Eq.symm Eq.symm
    ·fail ""
     have e:(if eqV (.str "giver") (.str x)=true then (0:Int) else 1)=b5h x:=by
      unfold b5h;rw[a7n];simp only[decide_eq_true_eq];by_cases c:x="giver"
      ·rw[if_pos c,if_pos c.symm]
      ·rw[if_neg c,if_neg λz=>c z.symm]
     rw[e];exact h
   ·rw[if_neg b] at h
    exact h
  ·rw[if_neg a] at h
   exact h
abbrev a2s:Stmt:=top 33
theorem a8g:g6 ["size","hand"] ["size","hand"] (d8 a2s):=↑1
theorem a9d(D:DefT K mg "bell_cell" a2s ["size","hand"])(T:Txt K mg cl)(G_card_cell:FnT P w K mg base "card_cell" 2 ["size","hand"] (a1j cl)):FnT P w K mg base "bell_cell" 3 ["size","hand"] (a3x cl):=by
 refine D.fn a8g (λvs H Q E h=>?_) (λf cdv A outer s H vs Q E hr h=>?_)
 ·obtain⟨n,x,rfl,_⟩:=h
  rfl
 ·obtain⟨n,x,rfl,h⟩:=h
  refine⟨_,(d7 (g9 (d9 i9 (i0 G_card_cell hr (by decide) rfl i4 (b0 (pv 0) (b0 (pv 1) d3))) (f9 (i6 (K:=K)) (by rfl) T.z_len PySem.boot_len (b0 (a7b T.r_HANDS rfl) d3))))),?_⟩
  unfold b1h at h;fail "";refine⟨n,x,rfl,?_⟩;unfold b1h;refine b5c (λa=>b5c (λb=>?_) (λb=>?_)) (λa=>?_)
  ·rw[if_pos a,if_pos b] at h
   fail "";refine⟨_,_,rfl,.inr T.kt_HANDS.sq,?_⟩;fail "";exact h
  ·rw[if_pos a,if_neg b] at h
   exact h
  ·rw[if_neg a] at h
   exact h
abbrev a2i:Stmt:=top 34
theorem a8d:g6 ["size"] ["size"] (d8 a2i):=↑1
theorem a8t(D:DefT K mg "new_cells" a2i ["size"])(T:Txt K mg cl):FnT P w K mg base "new_cells" 1 ["size"] a3q:=by
 refine D.fn a8d (λvs H Q E h=>?_) (λf cdv A outer s H vs Q E hr h=>?_)
 ·obtain⟨n,rfl,_⟩:=h
  rfl
 ·obtain⟨n,rfl,h8,k⟩:=h
  refine⟨_,(d7 (g9 (d9 a8r (d9 c1f (j8 (b0 (j7 T.m_NEW_MARK rfl) (b0 (j7 T.m_NO_ORDER rfl) (b0 d5 (b0 d5 d3))))) (pv 0)) (j8 (b0 (j7 T.m_NO_TURN rfl) (b0 (j7 T.m_NO_TURN rfl) (b0 (j7 T.m_STILL rfl) (b0 (j7 T.m_STILL rfl) d3)))))))),?_⟩;have h20:2000<=sizeLine:=by decide
  fail "";refine⟨by show 4<=sizeLine;lia,λp1 h1=>?_⟩
  fail "";refine⟨p1,n,_,rfl,rfl,d0,by lia,by lia,by show 4*(n:Int).toNat<=sizeLine;lia,λp2 h2=>?_⟩
  fail "";refine⟨by show 4<=sizeLine;lia,λp3 h3=>?_⟩
  refine b5j (c8 h3 _ _ d0) d0 ?_ (λp4 h4=>?_)
  ·rw[b0x]
   show(n:Int).toNat*4+4<=sizeLine;lia
  refine k p4 _ ((((c8 h1).trans (c8 h2)).trans (c8 h3)).free h4) ((((c8 h1).trans (c8 h2)).trans (c8 h3)).trans (c8 h4)) ?_;rw[d0];unfold b1z;rw[List.map_append,show((n:Int)).toNat=n by lia]
  rw[<- b8v n [2,-1,0,0]]
  rfl
def t0(n:Nat)(row:List Int):List Int:=(List.range n).map λ(q:Nat)=>row.getD (4*q) 0
theorem a1a(n:Nat)(row:List Int):(t0 n row).length=n:=by unfold t0;rw[List.length_map,List.length_range]
theorem b3h{n:Nat}{row:List Int}{q:Nat}(h:q<n):(t0 n row)[q]?=some (row.getD (4*q) 0):=by
 unfold t0;rw[List.getElem?_map,List.getElem?_range h]
 rfl
structure b3o(n:Nat)(row:List Int):Prop where
 mks:∀q,q<n->0<=row.getD (4*q) 0/\row.getD (4*q) 0<=3
 cd:∀k,k<2->-1<=row.getD (4*n+k) 0/\row.getD (4*n+k) 0<2*(n:Int)
 bl:∀k,k<2->row.getD (4*n+2+k) 0=0\/row.getD (4*n+2+k) 0=1
structure GoodRow(n:Nat)(row:List Int):Prop where
 n2:2<=n
 n8:n<=8
 len:row.length=4*n+4
 ok:b3o n row
theorem GoodRow.one{n m:Nat}{row:List Int}(h:row.length=4*n+4)(g:GoodRow m row):m=n:=by
 have:=g.len;lia
def a2a:Sp:=λvs H Q _=>∃(a:Addr)(row:List Int)(n:Nat),vs=[.ref a]/\H a=some (.lst (row.map V.int))/\row.length=4*n+4/\n<=8/\∀l H',H l=none->Same H H'->H' l=some (.lst ((t0 n row).map V.int))->Q (.ref l) H'
def a1b(cl:Cl):Sp:=λvs H Q E=>∃(a:Addr)(row:List Int)(n:Nat),vs=[.int n,.ref a]/\H a=some (.lst (row.map V.int))/\row.length=4*n+4/\2<=n/\n<=8 /\
 ((b3o n row/\∀H',Same H H'->Q .non H')\/(¬ b3o n row/\∀H',Same H H'->E (.ref cl.BadCells) none H'))
def v7(cl:Cl):Sp:=λvs H Q E=>∃(a:Addr)(row:List Int),vs=[.ref a]/\H a=some (.lst (row.map V.int)) /\
 ((∃n:Nat,GoodRow n row/\∀H',Same H H'->Q (.int n) H')\/((¬ ∃n,GoodRow n row)/\∀H',Same H H'->E (.ref cl.BadCells) none H'))
abbrev a0u:Stmt:=top 35
theorem a2d:g6 ["cells","places"] ["cells"] (d8 a0u):=↑1
theorem a5z(D:DefT K mg "marks_among" a0u ["cells"])(T:Txt K mg cl)(G_mark_cell:FnT P w K mg base "mark_cell" 1 ["place"] (a8b 0)):FnT P w K mg base "marks_among" 2 ["cells"] a2a:=by
 refine D.fn a2d (λvs H Q E h=>?_) (λf cdv A outer s H vs Q E hr h=>?_)
 ·obtain⟨a,row,n,rfl,_⟩:=h
  rfl
 ·obtain⟨a,row,n,rfl,ea,hl,n8,k⟩:=h
  refine⟨_,(d4 (f8 (i:=1) a2d.nd rfl (by first|exact Or.inl rfl|exact Or.inr rfl) (d9 y0 (d9 a0b (f9 (i6 (K:=K)) (by rfl) T.z_len PySem.boot_len (b0 (pv 0) d3)) (j7 T.m_CELLS_OF_A_PLACE rfl)) d5))
   (d7 (g9 (a5h (N:=["place","cells"]) (nt:=1) (fr:=[0]) rfl (b7t (i:=0) rfl rfl (by decide +kernel) (by decide +kernel) rfl rfl rfl rfl rfl rfl rfl) (l9 rfl T.z_range (b0 (pv 1) d3)) (a0j (by decide)) (λ_ _ _ _ _=>i7 (i:=0) (show(["place","cells"]:List Str).Nodup by decide +kernel) rfl (Or.inl rfl) (Or.inr rfl)) (λ_ _ _ _ _=>(o0 (i3 (K:=K)) (pv 1) (i0 G_mark_cell hr (by decide) rfl b9h (b0 (pv 0) d3)) (λ_ _=>rfl))))))),?_⟩
  have h20:2000<=sizeLine:=by decide
  fail "";rw[List.length_map,hl];have en:(((4*n+4:Nat):Int) / 4-1)=(n:Int):=by lia
  rw[en];fail "";refine b1c (n:=(n:Int).toNat) (by lia) (f:=λq=>V.int (row.getD (4*q) 0)) (λj H' kk hj sm q=>?_) (λp hp=>?_)
  ·have hj:j<n:=by lia
   have e1:=sm _ _ ea;fail "";refine⟨_,rfl,?_⟩;refine a1s e1 (b2r (by lia) (by lia)) ?_
   rw[show(4*(0+(j:Int))+0).toNat=4*j by lia]
   exact q
  ·refine k p _ hp (c8 hp) ?_
   rw[d0];unfold t0;rw[List.map_map,show((n:Int)).toNat=n by lia]
   rfl
abbrev y9:Stmt:=top 37
theorem l7:g6 ["size","cells","mark","hand","card","bell"] ["size","cells"] (d8 y9):=↑1
theorem a4g(D:DefT K mg "check_numbers" y9 ["size","cells"])(T:Txt K mg cl)(G_marks_among:FnT P w K mg base "marks_among" 2 ["cells"] a2a)(G_card_cell:FnT P w K mg base "card_cell" 2 ["size","hand"] (a1j cl))(G_bell_cell:FnT P w K mg base "bell_cell" 3 ["size","hand"] (a3x cl)):FnT P w K mg base "check_numbers" 4 ["size","cells"] (a1b cl):=by
 refine D.fn l7 (λvs H Q E h=>?_) (λf cdv A outer s H vs Q E hr h=>?_)
 ·obtain⟨a,row,n,rfl,_⟩:=h
  rfl
 ·obtain⟨a,row,n,rfl,ea,hl,n2,n8,k⟩:=h
  refine⟨_,(d4 (u6 j3 rfl (u9 (K:=K) (i0 G_marks_among hr (by decide) rfl i4 (b0 (pv 1) d3))) (i7 (i:=2) l7.nd rfl (by first|exact Or.inl rfl|exact Or.inr rfl))
     (d7 (m5 (PW.pt (a1d (f7 a7e (pv 2) d5 (g5 _)) (a0k (f7 b0q (pv 2) (j7 T.m_MOST_MARK rfl) (g5 _)))))
      (d7 (v6 T.c_BadCells rfl rfl a4b (b0 g4 d3)))
      i5)))
   (d7 (u6 j3 rfl (b9b (K:=K) (a7b T.r_HANDS rfl)) (i7 (i:=3) l7.nd rfl (by first|exact Or.inl rfl|exact Or.inr rfl))
    (
     d4 (f8 (i:=4) l7.nd rfl (by first|exact Or.inl rfl|exact Or.inr rfl) (o0 (i3 (K:=K)) (pv 1) (i0 G_card_cell hr (by decide) rfl i4 (b0 (pv 0) (b0 (pv 3) d3))) (λ_ _=>rfl)))
     (d4 (m5 (PW.pt (a1d (f7 a7e (pv 4) (j7 T.m_NO_TURN rfl) (g5 _)) (a0k (f7 b4q (pv 4) (d9 m9 d5 (pv 0)) (g5 _)))))
      (d7 (v6 T.c_BadCells rfl rfl a4b (b0 g4 d3)))
      i5)
     (d4 (f8 (i:=5) l7.nd rfl (by first|exact Or.inl rfl|exact Or.inr rfl) (o0 (i3 (K:=K)) (pv 1) (i0 G_bell_cell hr (by decide) rfl i4 (b0 (pv 0) (b0 (pv 3) d3))) (λ_ _=>rfl)))
     (d7 (m5 (PW.pt (b8b (f7 b3b (pv 5) (j7 T.m_STILL rfl) (g5 _)) (b4e (f7 b3b (pv 5) (j7 T.m_RUNG rfl) (g5 _)))))
      (d7 (v6 T.c_BadCells rfl rfl a4b (b0 g4 d3)))
      i5)))))))),?_⟩
  have bad:∀H',Same H H'->¬ b3o n row->E (.ref cl.BadCells) none H':=λH' s' nn=>by
   rcases k with ⟨g,_⟩|⟨_,z⟩
   ·exact absurd g nn
   ·exact z H' s'
  fail "";refine⟨a,row,n,rfl,ea,hl,n8,λl H1 hl1 s1 e1=>?_⟩;fail "";refine a4m (xs:=(t0 n row).map V.int) (λi σ H'=>∃x2,σ=[some (.int n),some (.ref a),x2,none,none,none]/\Same H H'/\H' l=some (.lst ((t0 n row).map V.int))/\∀q,q<i->0<=row.getD (4*q) 0/\row.getD (4*q) 0<=3) ⟨_,rfl,s1,e1,λq hq=>absurd hq (by lia)⟩ ?_ ?_ ?_
  ·rintro i σ H2 hi ⟨x2,rfl,s2,e2,_⟩
   exact SqL.of e2
  ·rintro i x σ H2 hx ⟨x2,rfl,s2,e2,g⟩
   have hi:i<n:=by
    have:=(List.getElem?_eq_some_iff.mp hx).1;rw[List.length_map,a1a] at this;exact this
   rw[List.getElem?_map,b3h hi] at hx;cases hx;fail "";refine u4 (λc=>?_) (λc=>?_)
   ·fail ""
    exact⟨i8,bad _ s2 λz=>by have:=z.mks i hi;lia⟩
   ·fail ""
    refine u4 (λd=>?_) (λd=>?_)
    ·fail ""
     exact⟨i8,bad _ s2 λz=>by have:=z.mks i hi;lia⟩
    ·fail ""
     refine⟨_,rfl,s2,e2,λq hq=>?_⟩;by_cases hqi:q=i
     ·subst hqi;lia
     ·exact g q (by lia)
  ·rintro σ H2 ⟨x2,rfl,s2,e2,g1⟩
   rw[List.length_map,a1a] at g1;fail "";refine c1x T.kt_HANDS.sq ?_;refine c0c (xs:=[.str "giver",.str "taker"]) (λi σ H'=>∃x3 x4 x5,σ=[some (.int n),some (.ref a),x2,x3,x4,x5]/\Same H H'/\∀q,q<i->(-1<=row.getD (4*n+q) 0/\row.getD (4*n+q) 0<2*(n:Int))/\(row.getD (4*n+2+q) 0=0\/row.getD (4*n+2+q) 0=1)) ⟨_,_,_,rfl,s2,λq hq=>absurd hq (by lia)⟩ ?_ ?_ ?_
   ·intro i σ H3 _ _
    exact T.kt_HANDS.sq
   ·rintro i x σ H3 hx ⟨x3,x4,x5,rfl,s3,g⟩
    have hi:i<2:=(List.getElem?_eq_some_iff.mp hx).1;obtain⟨nm,rfl,hnm,enm⟩:∃nm:Str,x=.str nm/\(nm="giver"\/nm="taker")/\b5h nm=(i:Int):=by
     have:i=0\/i=1:=by lia
     rcases this with rfl|rfl <;> cases hx
     ·exact⟨_,rfl,.inl rfl,by decide⟩
     ·exact⟨_,rfl,.inr rfl,by decide⟩
    have e3:=s3 _ _ ea;have card:∀(H':Hp)(k:Prop),k->b1h cl n nm H' E k:=λH' k hk=>by
     unfold b1h;rw[if_pos (by lia),if_pos hnm]
     exact hk
    fail "";refine⟨n,nm,rfl,card _ _ ?_⟩;refine a1s e3 (b2r (by lia) (by lia)) ?_
    rw[enm,show(4*(n:Int)+(i:Int)).toNat=4*n+i by lia]
    fail "";refine u4 (λc=>?_) (λc=>?_)
    ·fail ""
     exact⟨i8,bad _ s3 λz=>by have:=z.cd i hi;lia⟩
    ·fail ""
     refine u4 (λd=>?_) (λd=>?_)
     ·fail ""
      exact⟨i8,bad _ s3 λz=>by have:=z.cd i hi;lia⟩
     ·fail ""
      refine⟨n,nm,rfl,card _ _ ?_⟩;refine a1s e3 (b2r (by lia) (by lia)) ?_
      rw[enm,show(4*(n:Int)+(i:Int)+2).toNat=4*n+2+i by lia]
      fail "";refine a6m (λp=>?_) (λp=>?_)
      ·fail ""
       refine a6m (λq=>?_) (λq=>?_)
       ·fail ""
        refine⟨i8,bad _ s3 λz=>?_⟩;rcases z.bl i hi with z|z
        ·exact p (by rw[z])
        ·exact q (by rw[z])
       ·fail ""
        refine⟨_,_,_,rfl,s3,λy hy=>?_⟩;by_cases hyi:y=i
        ·subst hyi
         exact⟨⟨by lia,by lia⟩,.inr (V.int.inj q)⟩
        ·exact g y (by lia)
      ·fail ""
       refine⟨_,_,_,rfl,s3,λy hy=>?_⟩;by_cases hyi:y=i
       ·subst hyi
        exact⟨⟨by lia,by lia⟩,.inl (V.int.inj p)⟩
       ·exact g y (by lia)
   ·rintro σ H3 ⟨x3,x4,x5,rfl,s3,g⟩
    have nk:b3o n row:=⟨g1,λk hk=>(g k hk).1,λk hk=>(g k hk).2⟩;fail "";rcases k with ⟨_,z⟩|⟨z,_⟩
    ·exact z H3 s3
    ·exact absurd nk z
abbrev y7:Stmt:=top 36
theorem a1c:g6 ["cells","size"] ["cells"] (d8 y7):=↑1
theorem a4f(D:DefT K mg "size_of_cells" y7 ["cells"])(T:Txt K mg cl)(G_new_cells:FnT P w K mg base "new_cells" 1 ["size"] a3q)(G_check_numbers:FnT P w K mg base "check_numbers" 4 ["size","cells"] (a1b cl)):FnT P w K mg base "size_of_cells" 5 ["cells"] (v7 cl):=by
 refine D.fn a1c (λvs H Q E h=>?_) (λf cdv A outer s H vs Q E hr h=>?_)
 ·obtain⟨a,row,rfl,_⟩:=h
  rfl
 ·obtain⟨a,row,rfl,ea,k⟩:=h
  refine⟨_,(d4 (u6 j3 rfl (a8j rfl T.z_range (b0 (j7 T.m_LEAST_SIZE rfl) (b0 (d9 i9 (j7 T.m_MOST_SIZE rfl) d5) d3))) (i7 (i:=1) a1c.nd rfl (by first|exact Or.inl rfl|exact Or.inr rfl))
     (d7 (m5 (f7 a3e (f9 (i6 (K:=K)) (by rfl) T.z_len PySem.boot_len (b0 (pv 0) d3)) (f9 (i6 (K:=K)) (by rfl) T.z_len PySem.boot_len (b0 (i0 G_new_cells hr (by decide) rfl i4 (b0 (pv 1) d3)) d3)) (g5 _))
      (
       d4 (m6 (i0 G_check_numbers hr (by decide) rfl i4 (b0 (pv 1) (b0 (pv 0) d3))))
       (d7 (g9 (pv 1))))
      i5)))
   (d7 (v6 T.c_BadCells rfl rfl a4b (b0 g4 d3)))),?_⟩
  have bad:∀H',Same H H'->(¬ ∃n,GoodRow n row)->E (.ref cl.BadCells) none H':=λH' s' nn=>by
   rcases k with ⟨m,g,_⟩|⟨_,z⟩
   ·exact absurd ⟨m,g⟩ nn
   ·exact z H' s'
  fail "";refine⟨2,9,rfl,⟨by decide,by decide,by decide,by decide⟩,?_⟩
  refine m3 (lo:=2) (n:=7) (λi σ H'=>∃x1,σ=[some (.ref a),x1]/\Same H H'/\∀q,q<i->row.length≠4*(2+q)+4) ⟨_,rfl,Same.refl H,λq hq=>absurd hq (by lia)⟩ ?_ ?_
  ·rintro i σ H1 hi ⟨x1,rfl,s1,g⟩
   have e1:=s1 _ _ ea;fail "";rw[List.length_map];refine⟨2+i,by rw[show((2+i:Nat):Int)=2+(i:Int) by lia],by lia,λl H2 hl2 s2 e2=>?_⟩
   have e3:=s2 _ _ e1;fail "";rw[List.length_map,b3g];refine u4 (λc=>?_) (λc=>?_)
   ·have c:row.length=4*(2+i)+4:=by have:=V.int.inj c;lia
    fail "";refine⟨a,row,2+i,by rw[show((2+i:Nat):Int)=2+(i:Int) by lia],e3,c,by lia,by lia,?_⟩
    by_cases nk:b3o (2+i) row
    ·refine .inl ⟨nk,λH' s'=>?_⟩
     fail "";rcases k with ⟨m,g,z⟩|⟨z,_⟩
     ·have:=g.one c
      subst this;have:=z H' ((s1.trans s2).trans s')
      rwa [show(((2+i:Nat):Int))=2+(i:Int) by lia] at this
     ·exact absurd ⟨_,(⟨by lia,by lia,c,nk⟩:GoodRow (2+i) row)⟩ z
    ·refine .inr ⟨nk,λH' s'=>bad _ ((s1.trans s2).trans s') ?_⟩
     rintro⟨m,g⟩;have:=g.one c;subst this;exact nk g.ok
   ·fail ""
    refine⟨_,rfl,s1.trans s2,λq hq=>?_⟩;by_cases hqi:q=i
    ·subst hqi
     intro z;exact c (by rw[z])
    ·exact g q (by lia)
  ·rintro σ H1 ⟨x1,rfl,s1,g⟩
   fail "";refine⟨i8,bad _ s1 ?_⟩;rintro⟨m,z⟩;have z1:=z.n2;have z2:=z.n8;exact g (m-2) (by lia) (by rw[z.len];lia)
theorem b5m(c:Nat):(!(Builtin.Str.occurrences ("0123456789":Str) ⟨#[c]⟩ 0 ("0123456789":Str).length 1).isEmpty)=decide (48<=c/\c<=57):=by
 rw[StrLaws.found_one,show(("0123456789":Str).cps.toList)=[48,49,50,51,52,53,54,55,56,57] from rfl,Bool.eq_iff_iff,decide_eq_true_eq,decide_eq_true_eq];simp only[List.mem_cons,List.not_mem_nil,or_false];constructor
 ·intro h
  rcases h with rfl|rfl|rfl|rfl|rfl|rfl|rfl|rfl|rfl|rfl <;> decide
 ·rintro⟨a,b⟩
  lia
theorem b1o(x:Str)(y:Str)(c:Nat)(h:y=⟨#[c]⟩):Txt.startswith x y=decide (x.cps.toList.head?=some c):=by rw[h,b2y]
def SgP(H:Hp)(f:Str)(D:Addr)(i:Nat)(acc:List V)(H':Hp):Prop:=H'=upd H D (.lst acc)/\acc=(((f.cps.toList.take i).map λc=>decide (48<=c/\c<=57)).map V.bl)/\i<=f.cps.toList.length
theorem SgP.len{H H':Hp}{f:Str}{D:Addr}{i:Nat}{acc:List V}(h:SgP H f D i acc H'):H' D=some (.lst acc)/\acc.length=i:=by
 obtain⟨rfl,rfl,l⟩:=h;refine⟨d0,?_⟩;rw[List.length_map,List.length_map,List.length_take];lia
theorem SgP.step{H H':Hp}{f:Str}{D:Addr}{i:Nat}{x:V}{acc:List V}(h:SgP H f D i acc H')(hx:(a3y f)[i]?=some x):∃c,x=.str ⟨#[c]⟩/\H' D=some (.lst acc)/\SgP H f D (i+1) (acc++[.bl (decide (48<=c/\c<=57))]) (upd H' D (.lst (acc++[.bl (decide (48<=c/\c<=57))]))):=by
 obtain⟨rfl,rfl,l⟩:=h;unfold a3y at hx;rw[List.getElem?_map] at hx;have hi:i<f.cps.toList.length:=by
  by_cases z:i<f.cps.toList.length
  ·exact z
  ·rw[List.getElem?_eq_none (by lia)] at hx;cases hx
 rw[List.getElem?_eq_getElem hi] at hx;cases hx;refine⟨_,rfl,d0,a3k,?_,hi⟩;rw[List.take_add_one,List.getElem?_eq_getElem hi,List.map_append,List.map_append]
 rfl
theorem b2t(l:List Nat):((l.map λc=>decide (48<=c/\c<=57)).all id)=true ↔ ∀c∈l,48<=c/\c<=57:=by
 rw[List.all_map,List.all_eq_true];constructor
 ·intro h c hc
  have:=h c hc;exact of_decide_eq_true this
 ·intro h c hc
  exact decide_eq_true (h c hc)
def a3w:Sp:=λvs H Q _=>∃x:Str,vs=[.str x]/\x.length<1000000/\∀(b:Bool)(H':Hp),(b=true ↔ a5v x)->Same H H'->Q (.bl b) H'
abbrev a2q:Stmt:=top 41
theorem a4a:g6 ["word","figures"] ["word"] (d8 a2q):=↑1
theorem a9b(D:DefT K mg "is_number" a2q ["word"])(T:Txt K mg cl):FnT P w K mg base "is_number" 1 ["word"] a3w:=by
 refine D.fn a4a (λvs H Q E h=>?_) (λf cdv A outer s H vs Q E hr h=>?_)
 ·obtain⟨x,rfl,_⟩:=h
  rfl
 ·obtain⟨x,rfl,hl,k⟩:=h
  refine⟨_,(d4 (f8 (i:=1) a4a.nd rfl (by first|exact Or.inl rfl|exact Or.inr rfl) (b6u (a1r (a6h (K:=K) (pv 0) (b0 g4 d3))) (n6 a3a (pv 0) (m4 d5) z0) (pv 0)))
   (d4 (m5 (PW.pt (a1d (f7 a7e (f9 u0 (by rfl) T.z_len PySem.boot_len (b0 (pv 1) d3)) d5 (g5 _)) (a0k (f7 b0q (f9 u0 (by rfl) T.z_len PySem.boot_len (b0 (pv 1) d3)) (j7 T.m_MOST_FIGURES rfl) (g5 _)))))
     (d7 (g9 a7d))
     i5)
   (d4 (m5 (a1r (a6h (K:=K) (pv 1) (b0 g4 d3)))
     (d7 (g9 (a0y a3e (pv 0) g4 (g5 _))))
     i5)
   (d7 (g9 (f9 (b0a (K:=K) rfl) (by rfl) T.z_all PyProof.Rows.boot_all (b0 (a5h (N:=["sign"]) (nt:=1) (fr:=[]) rfl (a0d rfl rfl (by decide +kernel) (by decide +kernel) rfl rfl) (b8c (pv 1)) (a0j (by decide)) (λ_ _ _ _ _=>i7 (i:=0) (show(["sign"]:List Str).Nodup by decide +kernel) rfl (Or.inl rfl) (Or.inr rfl)) (λ_ _ _ _ _=>(a0y a8q (pv 0) (b9e T.m_FIGURES rfl) (by with_unfolding_all rfl)))) d3))))))),?_⟩
  have lm:=a0c;have k:=λb H' z=>k b H' (Iff.trans z (b1w x).symm);refine a4l (M:=λσ' H'=>∃f:Str,σ'=[some (.str x),some (.str f)]/\H'=H/\f.cps.toList=a1f x) ?_ ?_
  rotate_left
  ·intro R hR
   fail "";rw[b1o x ("-":Str) 45 rfl];refine u4 (λc=>?_) (λc=>?_)
   ·fail ""
    have l1:1<=x.length:=by
     rw[j1];cases e:x.cps.toList with
     | nil=>rw[e] at c;cases c
     | cons a r=>rw[List.length_cons];lia
    have e:=b2m x 1 l1;have l2:(a7p x (some 1) none).length<=sizeLine:=by
     rw[j1];refine Nat.le_trans (Nat.le_of_eq (congrArg List.length e)) ?_;rw[List.length_drop,<- j1];lia
    refine⟨_,rfl,?_⟩;fail "";refine a3h l2 ?_;fail "";refine hR _ _ ⟨_,rfl,rfl,?_⟩;refine e.trans ?_;unfold a1f;rw[if_pos c,List.drop_one]
   ·fail ""
    refine hR _ _ ⟨_,rfl,rfl,?_⟩;unfold a1f;rw[if_neg c]
  rintro σ' H' ⟨f,rfl,rfl,ef⟩;have fl:f.length=(a1f x).length:=by rw[j1,ef]
  have fx:(a1f x).length<=x.length:=by
   unfold a1f;rw[j1];split
   ·rw[List.length_tail];lia
   ·exact Nat.le_refl _
  fail "";refine⟨f,rfl,by lia,?_⟩
  fail "";refine u4 (λc=>?_) (λc1=>?_)
  ·fail ""
   refine k _ _ ?_ (Same.refl _);constructor
   ·intro z;cases z
   ·intro z;exact absurd z.1 (by lia)
  fail "";refine⟨f,rfl,by lia,?_⟩
  fail "";refine u4 (λc=>?_) (λc2=>?_)
  ·fail ""
   refine k _ _ ?_ (Same.refl _);constructor
   ·intro z;cases z
   ·intro z;exact absurd z.2.1 (by lia)
  fail "";rw[b1o f ("0":Str) 48 rfl,ef];refine u4 (λc=>?_) (λc=>?_)
  ·fail ""
   refine k _ _ ?_ (Same.refl _);rw[if_pos c,decide_eq_true_eq];constructor
   ·intro z
    cases z;exact⟨by lia,by lia,rfl⟩
   ·intro z
    exact congrArg V.str (a4s z.2.2)
  fail "";refine⟨f,rfl,?_⟩;refine a9p (by rw[y4];have:f.cps.size=f.length:=rfl;lia) (SgP H' f) (λD hD=>⟨rfl,rfl,Nat.zero_le _⟩) (λD i acc H' p=>p.len) ?_ ?_
  ·intro D i v acc H' hD hx p
   obtain⟨c,rfl,e,p'⟩:=p.step hx;fail "";refine⟨_,_,rfl,rfl,?_⟩;rw[b5m];exact⟨e,p'⟩
  ·rintro D acc H' hD ⟨rfl,rfl,l⟩
   fail "";refine⟨D,_,rfl,SqL.of d0,?_⟩;refine k _ _ ?_ (c8 hD);rw[y4,List.take_of_length_le (Nat.le_of_eq Array.length_toList),b2t,ef,if_neg c];exact⟨λz=>⟨by lia,by lia,z⟩,λz=>z.2.2⟩
def a1z(cl:Cl):Sp:=λvs H Q E=>∃x:Str,vs=[.str x]/\x.length<1000000/\(a5v x->∀H',Same H H'->Q (.int (rd x)) H')/\(¬ a5v x->∀H',Same H H'->E (.ref cl.NoText) none H')
abbrev a0t:Stmt:=top 42
theorem a5w:g6 ["word"] ["word"] (d8 a0t):=↑1
theorem a5y(D:DefT K mg "number_read" a0t ["word"])(T:Txt K mg cl)(G_is_number:FnT P w K mg base "is_number" 1 ["word"] a3w):FnT P w K mg base "number_read" 2 ["word"] (a1z cl):=by
 refine D.fn a5w (λvs H Q E h=>?_) (λf cdv A outer s H vs Q E hr h=>?_)
 ·obtain⟨x,rfl,_⟩:=h
  rfl
 ·obtain⟨x,rfl,hl,k,kb⟩:=h
  refine⟨_,(d4 (m5 (a3b (a1r (i0 G_is_number hr (by decide) rfl i4 (b0 (pv 0) d3))))
     (d7 (v6 T.c_NoText rfl rfl a4b (b0 g4 d3)))
     i5)
   (d7 (g9 (p8 a9z (by rfl) T.z_int PyProof.Rows.boot_int (b0 (pv 0) d3))))),?_⟩
  fail "";refine⟨x,rfl,hl,λb H' hb s'=>?_⟩;fail "";cases b
  ·fail ""
   exact⟨i8,kb (λz=>by cases hb.mpr z) _ s'⟩
  ·have nw:=hb.mp rfl
   obtain⟨_,_,e,l⟩:=a5e nw;fail "";exact⟨x,_,rfl,e,by lia,k nw _ s'⟩
def a1h(cl:Cl):Sp:=λvs H Q E=>∃(a:Addr)(ss:List Str),vs=[.ref a]/\H a=some (.lst (ss.map V.str))/\wt ss<=1000000/\((∀x∈ss,a5v x)->∀p H',H p=none->Same H H'->H' p=some (.tup ((ss.map rd).map V.int))->Q (.ref p) H')/\(¬ (∀x∈ss,a5v x)->∀H',Same H H'->E (.ref cl.NoText) none H')
abbrev a0g:Stmt:=top 43
theorem a4y:g6 ["words"] ["words"] (d8 a0g):=↑1
theorem a5k(D:DefT K mg "numbers_read" a0g ["words"])(T:Txt K mg cl)(G_number_read:FnT P w K mg base "number_read" 2 ["word"] (a1z cl)):FnT P w K mg base "numbers_read" 3 ["words"] (a1h cl):=by
 refine D.fn a4y (λvs H Q E h=>?_) (λf cdv A outer s H vs Q E hr h=>?_)
 ·obtain⟨a,ss,rfl,_⟩:=h
  rfl
 ·obtain⟨a,ss,rfl,ea,hw,k,kb⟩:=h
  refine⟨_,(d7 (g9 (p8 (b5x (K:=K)) (by rfl) T.z_tuple PyProof.Rows.boot_tuple (b0 (b6w rfl (N:=["word"]) (nt:=1) (fr:=[]) rfl (a0d rfl rfl (by decide +kernel) (by decide +kernel) rfl rfl) (u9 (K:=K) (pv 0)) (a0j (by decide)) (λ_ _ _ _ _=>i7 (i:=0) (show(["word"]:List Str).Nodup by decide +kernel) rfl (Or.inl rfl) (Or.inr rfl)) (λ_ _ _ _ _=>(i0 G_number_read hr (by decide) rfl c3k (b0 (pv 0) d3)))) d3)))),?_⟩
  have lm:1000001<=sizeLine:=by decide
  have hl:=a2v ss;fail "";refine a1x (xs:=ss.map V.str) (by rw[List.length_map];lia) (MpP H ss (λx=>V.int (rd x)) a5v) (λD hD=>MpP.new hD) (λD i acc H' p=>⟨p.len.1,p.len.2,SqL.of (p.2.1 _ _ ea)⟩) ?_ ?_
  ·intro D i x acc H' hD hx hp
   obtain⟨y,hy,rfl⟩:=a6c hx;have my:y∈ss:=List.mem_of_getElem? hy;have:=a4p my;fail "";exact⟨y,rfl,by lia,λnw H3 s3=>hp.step hD hy nw rfl s3,λnb H3 s3=>kb (λz=>nb (z y my)) _ (Same.trans hp.2.1 s3)⟩
  ·intro D acc H' hD hp
   obtain⟨e,s',g⟩:=hp.done (List.length_map _);rw[hp.len.1] at e;have e:=HO.lst.inj (Option.some.inj e);subst e;have e1:=hp.len.1;fail "";intro p hpn;refine k g p _ (Same.free s' hpn) (Same.trans s' (c8 hpn)) ?_;rw[d0,List.map_map]
   rfl
theorem a9e{n:Int}(h:n.natAbs<10 ^ 60):n.natAbs.log2<1920:=by
 by_cases z:n.natAbs=0
 ·rw[z];decide
 ·exact(Nat.log2_lt z).mpr (Nat.lt_of_lt_of_le h (Nat.le_trans (show 10 ^ 60<=2 ^ 200 by decide) (Nat.pow_le_pow_right (by decide) (by decide))))
def a1g:Sp:=λvs H Q _=>∃(a:Addr)(ns:List Int),vs=[.ref a]/\H a=some (.lst (ns.map V.int))/\ns.length<=1000/\(∀n∈ns,n.natAbs<10 ^ 60)/\∀H',Same H H'->Q (.str (b6d ns)) H'
abbrev a0f:Stmt:=top 44
theorem a4x:g6 ["numbers"] ["numbers"] (d8 a0f):=↑1
theorem a5j(D:DefT K mg "numbers_text" a0f ["numbers"])(T:Txt K mg cl):FnT P w K mg base "numbers_text" 1 ["numbers"] a1g:=by
 refine D.fn a4x (λvs H Q E h=>?_) (λf cdv A outer s H vs Q E hr h=>?_)
 ·obtain⟨a,ns,rfl,_⟩:=h
  rfl
 ·obtain⟨a,ns,rfl,ea,hl,hs,k⟩:=h
  refine⟨_,(d7 (g9 (a0x (K:=K) g4 (b0 (a5h (N:=["number"]) (nt:=1) (fr:=[]) rfl (a0d rfl rfl (by decide +kernel) (by decide +kernel) rfl rfl) (u9 (K:=K) (pv 0)) (a0j (by decide)) (λ_ _ _ _ _=>i7 (i:=0) (show(["number"]:List Str).Nodup by decide +kernel) rfl (Or.inl rfl) (Or.inr rfl)) (λ_ _ _ _ _=>(p8 a4d (by rfl) T.z_str PyProof.Rows.boot_str (b0 (pv 0) d3)))) d3)))),?_⟩
  have lm:=a0c;fail "";refine a1x (xs:=ns.map V.int) (by rw[List.length_map];lia) (MpP H ns (λx=>V.str (b3f x)) (λ_=>True)) (λD hD=>MpP.new hD) (λD i acc H' p=>⟨p.len.1,p.len.2,SqL.of (p.2.1 _ _ ea)⟩) ?_ ?_
  ·intro D i x acc H' hD hx hp
   obtain⟨y,hy,rfl⟩:=a6c hx;have my:y∈ns:=List.mem_of_getElem? hy;fail "";exact⟨y,rfl,a9e (hs y my),hp.step hD hy trivial rfl (Same.refl _)⟩
  ·intro D acc H' hD hp
   obtain⟨e,s',_⟩:=hp.done (List.length_map _);fail "";have w1:=b0g hs;refine a2u n5 (ss:=ns.map b3f) (e.trans (by rw[List.map_map];rfl)) (by lia) ?_
   exact k _ s'
theorem b5w{xs:List V}{i j:Int}(h0:0<=i)(h1:i<=j):b7r xs (some i) (some j)=(xs.drop i.toNat).take (j-i).toNat:=by
 unfold b7r;show(xs.drop (if i<0 then (i+(xs.length:Int)).toNat else min i.toNat xs.length)).take ((if j<0 then (j+(xs.length:Int)).toNat else min j.toNat xs.length)-(if i<0 then (i+(xs.length:Int)).toNat else min i.toNat xs.length))=_;rw[if_neg (by lia),if_neg (by lia)]
 by_cases a:i.toNat<=xs.length
 ·rw[Nat.min_eq_left a]
  by_cases b:j.toNat<=xs.length
  ·rw[Nat.min_eq_left b,show j.toNat-i.toNat=(j-i).toNat by lia]
  ·rw[Nat.min_eq_right (by lia),List.take_of_length_le (by rw[List.length_drop];lia),List.take_of_length_le (by rw[List.length_drop];lia)]
 ·rw[Nat.min_eq_right (show xs.length<=i.toNat by lia),List.drop_of_length_le (Nat.le_refl _),List.drop_of_length_le (by lia),List.take_nil,List.take_nil]
theorem b2n{xs:List Int}{i:Nat}{a b:Int}(ha:a=4*(i:Int))(hb:b=4*(i:Int)+4):b7r (xs.map V.int) (some a) (some b)=(a4o xs i).map V.int:=by
 rw[b5w (by lia) (by lia)]
 unfold a4o;rw[List.map_take,List.map_drop,show a.toNat=4*i by lia,show(b-a).toNat=4 by lia]
theorem a6f{f:Nat->Str}(i:Nat):((List.range i).map f).map V.str++[.str (f i)]=((List.range (i+1)).map f).map V.str:=by
 rw[List.range_succ,List.map_append,List.map_append]
 rfl
def a0p:Sp:=λvs H Q _=>∃(a:Addr)(xs:List Int)(n:Nat),vs=[.ref a]/\H a=some (.lst (xs.map V.int))/\GoodRow n xs/\(∀x∈xs,x.natAbs<10 ^ 60)/\∀H',Same H H'->Q (.str (a6q xs)) H'
abbrev a1p:Stmt:=top 45
theorem a0s:g6 ["cells","rows","start"] ["cells"] (d8 a1p):=↑1
theorem a7k(D:DefT K mg "cells_text" a1p ["cells"])(T:Txt K mg cl)(G_size_of_cells:FnT P w K mg base "size_of_cells" 5 ["cells"] (v7 cl))(G_numbers_text:FnT P w K mg base "numbers_text" 1 ["numbers"] a1g):FnT P w K mg base "cells_text" 6 ["cells"] a0p:=by
 refine D.fn a0s (λvs H Q E h=>?_) (λf cdv A outer s H vs Q E hr h=>?_)
 ·obtain⟨a,xs,n,rfl,_⟩:=h
  rfl
 ·obtain⟨a,xs,n,rfl,ea,g,hs,k⟩:=h
  refine⟨_,(d4 (m6 (i0 G_size_of_cells hr (by decide) rfl i4 (b0 (pv 0) d3)))
   (d4 (f8 (i:=1) a0s.nd rfl (by first|exact Or.inl rfl|exact Or.inr rfl) (j8 d3))
   (d4 (u6 j3 rfl (b4i rfl T.z_range (b0 d5 (b0 (f9 (i6 (K:=K)) (by rfl) T.z_len PySem.boot_len (b0 (pv 0) d3)) (b0 (j7 T.m_CELLS_OF_A_PLACE rfl) d3)))) (i7 (i:=2) a0s.nd rfl (by first|exact Or.inl rfl|exact Or.inr rfl))
     (d7 (m6 (t7 (K:=K) (pv 1) (b0 (i0 G_numbers_text hr (by decide) rfl i4 (b0 (n6 (a4k (K:=K)) (pv 0) (m4 (pv 2)) (m4 (d9 i9 (pv 2) (j7 T.m_CELLS_OF_A_PLACE rfl)))) d3)) d3)))))
   (d7 (g9 (a0x (K:=K) g4 (b0 (pv 1) d3))))))),?_⟩
  have lm:=a0c;have gl:=g.len;have g8:=g.n8;fail "";refine⟨a,xs,rfl,ea,.inl ⟨n,g,λH1 s1=>?_⟩⟩;have e1:=s1 _ _ ea;fail "";refine⟨Nat.zero_le _,λp hp=>?_⟩;have e2:upd H1 p (.lst []) a=_:=c8 hp _ _ e1;fail "";rw[List.length_map];obtain⟨r1,r2,r3,r4⟩:=c3e (n:=xs.length) (by lia)
  refine⟨0,xs.length,4,rfl,by decide,r1,r2,r3,?_⟩
  rw[r4,show(xs.length+3) / 4=xs.length / 4 by lia]
  clear r1 r2 r3 r4;refine b7o (λi σ H'=>∃x2,σ=[some (.ref a),some (.ref p),x2]/\Same H H'/\H' p=some (.lst (((List.range i).map λj=>b6d (a4o xs j)).map V.str))) ⟨_,rfl,s1.trans (c8 hp),d0⟩ ?_ ?_
  ·rintro i σ H2 hi ⟨x2,rfl,s2,e3⟩
   have ea2:=s2 _ _ ea;fail "";refine⟨_,rfl,?_⟩;fail "";refine⟨_,rfl,?_⟩;refine⟨a,_,rfl,SqL.of ea2,λq hq=>?_⟩;rw[b2n (i:=i) (by lia) (by lia)]
   fail "";have npq:p≠q:=d6 e3 hq;refine⟨q,_,rfl,d0,Nat.le_trans (a7r xs i) (by decide),λx hx=>hs x (a7q hx),λH3 s3=>?_⟩
   have e4:H3 p=_:=s3 _ _ (c8 hq _ _ e3);fail "";refine b5k e4 (by rw[List.length_map,List.length_map,List.length_range];lia) ?_
   rw[a6f];exact⟨_,rfl,((s2.trans (c8 hq)).trans s3).set (s1.free hp),d0⟩
  ·rintro σ H2 ⟨x2,rfl,s2,e3⟩
   fail "";have:=a6z hs;refine a2u j6 (ss:=b3z xs) e3 (by lia) ?_
   exact k _ s2
def a0q(cl:Cl):Sp:=λvs H Q E=>∃t:Str,vs=[.str t]/\t.length<=100000/\(a3j t->(∃n,GoodRow n (p9 t))->∀p H',H p=none->Same H H'->H' p=some (.lst ((p9 t).map V.int))->Q (.ref p) H')/\(a3j t->(¬ ∃n,GoodRow n (p9 t))->∀H',Same H H'->E (.ref cl.BadCells) none H')/\(¬ a3j t->∀H',Same H H'->E (.ref cl.NoText) none H')
theorem b5l{l:List Str}{i:Nat}{row:Str}(h:l[i]?=some row):((l.take (i+1)).map a7v).flatten=((l.take i).map a7v).flatten++a7v row:=by
 rw[List.take_add_one,h,List.map_append,List.flatten_append];show _=_++_
 congr 1
 exact List.append_nil _
theorem b3t{l:List Str}{i:Nat}{row:Str}(h:l[i]?=some row)(g:∀r∈l.take i,a4i r)(r:a4i row):∀r∈l.take (i+1),a4i r:=by
 intro z hz;rw[List.take_add_one,h] at hz;rcases List.mem_append.mp hz with hz|hz
 ·exact g z hz
 ·have:z=row:=by simpa using hz
  rw[this];exact r
abbrev a1q:Stmt:=top 46
theorem y3:g6 ["text","cells","row","words"] ["text"] (d8 a1q):=↑1
theorem a7l(D:DefT K mg "cells_read" a1q ["text"])(T:Txt K mg cl)(G_size_of_cells:FnT P w K mg base "size_of_cells" 5 ["cells"] (v7 cl))(G_numbers_read:FnT P w K mg base "numbers_read" 3 ["words"] (a1h cl)):FnT P w K mg base "cells_read" 6 ["text"] (a0q cl):=by
 refine D.fn y3 (λvs H Q E h=>?_) (λf cdv A outer s H vs Q E hr h=>?_)
 ·obtain⟨t,rfl,_⟩:=h
  rfl
 ·obtain⟨t,rfl,hl,k,kb,kn⟩:=h
  refine⟨_,(d4 (f8 (i:=1) y3.nd rfl (by first|exact Or.inl rfl|exact Or.inr rfl) (j8 d3))
   (d4 (u6 j3 rfl (u9 (K:=K) (a0l (K:=K) (pv 0) (b0 g4 d3))) (i7 (i:=2) y3.nd rfl (by first|exact Or.inl rfl|exact Or.inr rfl))
     (
     d4 (f8 (i:=3) y3.nd rfl (by first|exact Or.inl rfl|exact Or.inr rfl) (a0l (K:=K) (pv 2) (b0 g4 d3)))
     (d4 (m5 (f7 b3b (f9 (i6 (K:=K)) (by rfl) T.z_len PySem.boot_len (b0 (pv 3) d3)) (j7 T.m_CELLS_OF_A_PLACE rfl) (g5 _))
       (d7 (v6 T.c_NoText rfl rfl a4b (b0 g4 d3)))
       i5)
     (d7 (m6 (b6v (K:=K) (pv 1) (b0 (i0 G_numbers_read hr (by decide) rfl i4 (b0 (pv 3) d3)) d3)))))))
   (d4 (m6 (i0 G_size_of_cells hr (by decide) rfl i4 (b0 (pv 1) d3)))
   (d7 (g9 (pv 1)))))),?_⟩
  have lm:=a0c;fail "";refine⟨Nat.zero_le _,λp hp=>?_⟩;fail "";refine a1w j6 (by lia) (λq hq=>?_)
  have w1:=a0o (x:=t) j6;have w2:=a2v (Txt.split t "\n");have npq:p≠q:=d6 d0 hq;fail "";refine a4m (xs:=(Txt.split t "\n").map V.str) (λi σ H'=>∃x2 x3,σ=[some (.str t),some (.ref p),x2,x3]/\Same H H'/\H' q=some (.lst ((Txt.split t "\n").map V.str))/\(∀r∈(Txt.split t "\n").take i,a4i r)/\H' p=some (.lst ((((Txt.split t "\n").take i).map a7v).flatten.map V.int))) ⟨_,_,rfl,(c8 hp).trans (c8 hq),d0,by simp,by rw[f6 npq];exact d0⟩ ?_ ?_ ?_
  ·rintro i σ H2 hi ⟨x2,x3,rfl,s2,e2,_⟩
   exact SqL.of e2
  ·rintro i x σ H2 hx ⟨x2,x3,rfl,s2,e2,g2,c2⟩
   obtain⟨row,hrow,rfl⟩:=a6c hx;have mr:row∈Txt.split t "\n":=List.mem_of_getElem? hrow;have w3:=a4p mr;have hi:i<(Txt.split t "\n").length:=(List.getElem?_eq_some_iff.mp hrow).1;fail "";refine a1w n5 (by lia) (λu hu=>?_)
   have w4:=a0o (x:=row) n5;fail "";rw[List.length_map];refine a6m (λc=>?_) (λc=>?_)
   ·fail ""
    exact⟨i8,kn (λz=>c (by rw[(z row mr).1];rfl)) _ (s2.trans (c8 hu))⟩
   ·have c:(Txt.split row " ").length=4:=by have:=V.int.inj c;lia
    fail "";refine⟨u,_,rfl,d0,by lia,λnw r H3 hr3 s3 e3=>?_,λnw H3 s3=>kn (λz=>nw (z row mr).2) _ ((s2.trans (c8 hu)).trans s3)⟩
    have s4:=(s2.trans (c8 hu)).trans s3;have ok:a4i row:=⟨c,nw⟩;have fl:=a4n g2;rw[List.length_take] at fl;have c3:H3 p=_:=s3 _ _ (c8 hu _ _ c2);fail "";refine c2m c3 e3 (by rw[List.length_map,fl,List.length_map,List.length_map,c];lia) ?_
    refine⟨_,_,rfl,s4.set hp,?_,b3t hrow g2 ok,?_⟩
    ·rw[f6 (Ne.symm npq)]
     exact s3 _ _ (c8 hu _ _ e2)
    ·rw[d0,b5l hrow,List.map_append]
     rfl
  ·rintro σ H2 ⟨x2,x3,rfl,s2,e2,g2,c2⟩
   rw[List.length_map,List.take_length] at g2 c2;have ok:a3j t:=g2;fail "";refine⟨p,p9 t,rfl,c2,?_⟩;by_cases gr:∃n,GoodRow n (p9 t)
   ·obtain⟨n,g⟩:=gr
    refine .inl ⟨n,g,λH3 s3=>?_⟩;fail "";exact k ok ⟨n,g⟩ p H3 hp (s2.trans s3) (s3 _ _ c2)
   ·exact .inr ⟨gr,λH3 s3=>kb ok gr _ (s2.trans s3)⟩
end
section
variable{P:Program}{w:World}{K:Frag}{mg:Str->Option Value}{base:Heap}{cl:Cl}
open Builtin Builtin.Str in
theorem b1a(x:Str):(a7p x none (some 1)).cps.toList=x.cps.toList.take 1:=by
 by_cases h:1<=x.length
 ·exact c2s x 1 h
 ·have h:x.length=0:=by lia
  have e:a7p x none (some 1)=x:=by
   unfold a7p;rw[h];exact if_pos (by decide)
  have:x.cps.toList=[]:=List.length_eq_zero_iff.mp ((j1 x).symm.trans h);rw[e,this]
  rfl
theorem a8s(x:Str):(V.str (a7p x none (some 1))=V.str "-") ↔ x.cps.toList.head?=some 45:=by
 constructor
 ·intro h
  have:(a7p x none (some 1)).cps.toList=[45]:=by rw[V.str.inj h];rfl
  rw[b1a] at this;cases e:x.cps.toList with
  | nil=>rw[e] at this;cases this
  | cons a r=>rw[e] at this;cases this;rfl
 ·intro h
  refine congrArg V.str (a4s ?_);rw[b1a];cases e:x.cps.toList with
  | nil=>rw[e] at h;cases h
  | cons a r=>rw[e] at h;cases h;rfl
theorem a1u{x:Str}:a5v x ↔ (1<=(a1f x).length/\(a1f x).length<=60/\(∀c∈a1f x,48<=c/\c<=57)/\¬ ((a1f x).head?=some 48/\x.cps.toList≠[48])):=by
 rw[b1w];constructor
 ·rintro⟨a,b,c⟩
  refine⟨a,b,?_,?_⟩
  ·split at c
   ·have:a1f x=[48]:=by unfold a1f;rw[c];rfl
    rw[this];intro z hz;rw[List.mem_singleton.mp hz];decide
   ·exact c
  ·rintro⟨h1,h2⟩
   rw[if_pos h1] at c;exact h2 c
 ·rintro⟨a,b,c,d⟩
  refine⟨a,b,?_⟩;split
  ·next h=>
   by_cases z:x.cps.toList=[48]
   ·exact z
   ·exact absurd ⟨h,z⟩ d
  ·exact c
def a2x:Sp:=λvs H Q _=>∃x:Str,vs=[.str x]/\x.length<1000000/\(a5v x->∀H',Same H H'->Q (.int (rd x)) H')/\(¬ a5v x->∀H',Same H H'->Q .non H')
abbrev a1m:Stmt:=top 61
theorem a0r:g6 ["word","figures"] ["word"] (d8 a1m):=↑1
theorem a7h(D:DefT K mg "_law_number" a1m ["word"])(T:Txt K mg cl):FnT P w K mg base "_law_number" 1 ["word"] a2x:=by
 refine D.fn a0r (λvs H Q E h=>?_) (λf cdv A outer s H vs Q E hr h=>?_)
 ·obtain⟨x,rfl,_⟩:=h
  rfl
 ·obtain⟨x,rfl,hl,k,kn⟩:=h
  refine⟨_,(d4 (f8 (i:=1) a0r.nd rfl (by first|exact Or.inl rfl|exact Or.inr rfl) (pv 0))
   (d4 (m5 (f7 a3e (n6 a3a (pv 0) z0 (m4 d5)) g4 (g5 _))
     (d7 (f8 (i:=1) a0r.nd rfl (by first|exact Or.inl rfl|exact Or.inr rfl) (n6 a3a (pv 0) (m4 d5) z0)))
     i5)
   (d4 (m5 (PW.pt (a1d (f7 a7e (f9 u0 (by rfl) T.z_len PySem.boot_len (b0 (pv 1) d3)) d5 (g5 _)) (a1d (f7 b0q (f9 u0 (by rfl) T.z_len PySem.boot_len (b0 (pv 1) d3)) d5 (g5 _)) (a0k (a3b (a1r (f9 (b0a (K:=K) rfl) (by rfl) T.z_all PyProof.Rows.boot_all (b0 (a5h (N:=["sign"]) (nt:=1) (fr:=[]) rfl (a0d rfl rfl (by decide +kernel) (by decide +kernel) rfl rfl) (b8c (pv 1)) (a0j (by decide)) (λ_ _ _ _ _=>i7 (i:=0) (show(["sign"]:List Str).Nodup by decide +kernel) rfl (Or.inl rfl) (Or.inr rfl)) (λ_ _ _ _ _=>(a0y a8q (pv 0) g4 (by with_unfolding_all rfl)))) d3))))))))
     (d7 (g9 a8k))
     i5)
   (d4 (m5 (PW.pt (b8b (f7 a3e (o0 b5a (pv 1) d5 (λ_ _=>rfl)) g4 (g5 _)) (b4e (f7 b3b (pv 0) g4 (g5 _)))))
     (d7 (g9 a8k))
     i5)
   (d7 (g9 (p8 a9z (by rfl) T.z_int PyProof.Rows.boot_int (b0 (pv 0) d3)))))))),?_⟩
  have lm:=a0c;have lc:(a7p x none (some 1)).length<=sizeLine:=by
   rw[j1,b1a,List.length_take];lia
  refine c3v ?_;refine c2q ?_;refine' c1v ?h ?_
  case h=>exact rfl
  refine b2b ?_;refine a4l (M:=λσ' H'=>∃f:Str,σ'=[some (.str x),some (.str f)]/\H'=H/\f.cps.toList=a1f x) ?_ ?_
  rotate_left
  ·intro R hR
   fail "";refine⟨_,rfl,?_⟩;fail "";refine a3h lc ?_;fail "";refine u4 (λc=>?_) (λc=>?_)
   ·have c:=(a8s x).mp c
    fail "";have l1:1<=x.length:=by
     rw[j1];cases e:x.cps.toList with
     | nil=>rw[e] at c;cases c
     | cons a r=>rw[List.length_cons];lia
    have e:=b2m x 1 l1;have l2:(a7p x (some 1) none).length<=sizeLine:=by
     rw[j1];refine Nat.le_trans (Nat.le_of_eq (congrArg List.length e)) ?_;rw[List.length_drop,<- j1];lia
    refine⟨_,rfl,?_⟩;fail "";refine a3h l2 ?_;fail "";refine hR _ _ ⟨_,rfl,rfl,?_⟩;refine e.trans ?_;unfold a1f;rw[if_pos c,List.drop_one]
   ·have c:=λz=>c ((a8s x).mpr z)
    fail "";refine hR _ _ ⟨_,rfl,rfl,?_⟩;unfold a1f;rw[if_neg c]
  rintro σ' H' ⟨f,rfl,rfl,ef⟩;have fl:f.length=(a1f x).length:=by rw[j1,ef]
  have fx:(a1f x).length<=x.length:=by
   unfold a1f;rw[j1];split
   ·rw[List.length_tail];lia
   ·exact Nat.le_refl _
  fail "";refine⟨f,rfl,by lia,?_⟩
  fail "";refine u4 (λc=>?_) (λc1=>?_)
  ·fail ""
   exact kn (λz=>absurd (a1u.mp z).1 (by lia)) _ (Same.refl _)
  fail "";refine⟨f,rfl,by lia,?_⟩
  fail "";refine u4 (λc=>?_) (λc2=>?_)
  ·fail ""
   exact kn (λz=>absurd (a1u.mp z).2.1 (by lia)) _ (Same.refl _)
  fail "";refine⟨f,rfl,?_⟩;refine a9p (by rw[y4];have:f.cps.size=f.length:=rfl;lia) (SgP H' f) (λD hD=>⟨rfl,rfl,Nat.zero_le _⟩) (λD i acc H' p=>p.len) ?_ ?_
  ·intro D i v acc H' hD hx p
   obtain⟨c,rfl,e,p'⟩:=p.step hx;fail "";refine⟨_,_,rfl,rfl,?_⟩;rw[b5m];exact⟨e,p'⟩
  ·rintro D acc H1 hD ⟨rfl,rfl,l⟩
   fail "";refine⟨D,_,rfl,SqL.of d0,?_⟩;rw[y4,List.take_of_length_le (Nat.le_of_eq Array.length_toList)];have af:=b2t f.cps.toList;rw[ef] at af ⊢;generalize hb:(((a1f x).map λc=>decide (48<=c/\c<=57)).all id)=b at af ⊢;fail "";cases b
   ·fail ""
    exact kn (λz=>by cases af.mpr (a1u.mp z).2.2.1) _ (c8 hD)
   ·have af:=af.mp rfl
    fail "";obtain⟨c0,r0,e0⟩:∃c0 r0,a1f x=c0::r0:=by
     cases e:a1f x with
     | nil=>rw[e] at fl;exact absurd fl (by simp;lia)
     | cons a r=>exact⟨a,r,rfl⟩
    refine⟨f,0,c0,rfl,rfl,by lia,by rw[ef,e0];unfold atI;rw[a2f (by decide) (by rw[List.length_cons];lia)];rfl,?_⟩
    fail "";have h0:(V.str ⟨#[c0]⟩=V.str "0") ↔ c0=48:=by
     constructor
     ·intro z
      have:=congrArg (λz:Str=>z.cps.toList) (V.str.inj z);cases this
      rfl
     ·rintro rfl
      rfl
    have hx0:(V.str x=V.str "0") ↔ x.cps.toList=[48]:=by
     constructor
     ·intro z
      cases z
      rfl
     ·intro z
      exact congrArg V.str (a4s z)
    refine u4 (λc=>?_) (λc=>?_)
    ·fail ""
     refine a6m (λd=>?_) (λd=>?_)
     ·fail ""
      refine kn (λz=>(a1u.mp z).2.2.2 ⟨?_,λz=>d (hx0.mpr z)⟩) _ (c8 hD);rw[e0,h0.mp c]
      rfl
     ·fail ""
      have nw:a5v x:=a1u.mpr ⟨by lia,by lia,af,λz=>z.2 (hx0.mp d)⟩
      obtain⟨_,_,e,l⟩:=a5e nw;exact⟨x,_,rfl,e,by lia,k nw _ (c8 hD)⟩
    ·fail ""
     have nw:a5v x:=a1u.mpr ⟨by lia,by lia,af,λz=>c (h0.mpr (by have:=z.1;rw[e0] at this;cases this;rfl))⟩
     obtain⟨_,_,e,l⟩:=a5e nw;exact⟨x,_,rfl,e,by lia,k nw _ (c8 hD)⟩
end
section
variable{P:Program}{w:World}{K:Frag}{mg:Str->Option Value}{base:Heap}{cl:Cl}
open Classical in
noncomputable def numV(x:Str):V:=if a5v x then .int (rd x) else .non
theorem b1x{x:Str}(h:a5v x):numV x=.int (rd x):=by unfold numV;rw[if_pos h]
theorem b4t{x:Str}(h:¬ a5v x):numV x=.non:=by unfold numV;rw[if_neg h]
theorem b4s(ss:List Str):(ss.map numV).all z9=true:=by
 rw[List.all_map,List.all_eq_true];intro x _;show z9 (numV x)=true;by_cases h:a5v x
 ·rw[b1x h];rfl
 ·rw[b4t h];rfl
theorem b9r(ss:List Str):inV .non (ss.map numV)=true ↔ ¬ ∀x∈ss,a5v x:=by
 unfold inV;rw[List.any_map,List.any_eq_true];constructor
 ·rintro⟨x,hx,h⟩ z
  have h:eqV (numV x) .non=true:=h;rw[b1x (z x hx)] at h;cases h
 ·intro h
  by_cases z:∃x∈ss,¬ a5v x
  ·obtain⟨x,hx,n⟩:=z
   refine⟨x,hx,?_⟩;show eqV (numV x) .non=true;rw[b4t n]
   rfl
  ·exact absurd (λx hx=>Classical.byContradiction λn=>z ⟨x,hx,n⟩) h
theorem b6z{ss:List Str}(h:∀x∈ss,a5v x):ss.map numV=(ss.map rd).map V.int:=by
 rw[List.map_map];exact List.map_congr_left λx hx=>b1x (h x hx)
theorem b5p{H:Hp}{p q:Addr}{xs:List V}(ne:p≠q)(hp:H p=some (.lst xs))(hq:H q=some (.lst [])):EqD K H 1 (.ref p) (.ref q) xs.isEmpty:=by
 cases xs with
 | nil=>exact EqD.lst (e:=λ_=>true) ne (SqL.of hp) (SqL.of hq) rfl (λj x y h=>by simp at h)
 | cons x r=>exact EqD.lstN ne (SqL.of hp) (SqL.of hq) (by simp)
theorem b8t:(List.range 9).all (λn=>decide (n<2) || (b1n (4*n+4) none (some (4*(n:Int))) (some 4) == (List.range n).map λq=>4*q))=true:=by decide +kernel
theorem b2x{n:Nat}{row:List Int}(n2:2<=n)(n8:n<=8)(hl:row.length=4*n+4):b0j (row.map V.int) none (some (4*(n:Int))) (some 4)=(t0 n row).map V.int:=by
 have h:=List.all_eq_true.mp b8t n (List.mem_range.mpr (by lia))
 rw[show decide (n<2)=false from decide_eq_false (by lia),Bool.false_or,beq_iff_eq] at h
 unfold b0j;rw[List.length_map,hl,h,List.filterMap_map];unfold t0;rw[List.map_map];have:∀L:List Nat,(∀q∈L,q<n)->L.filterMap ((λx=>(row.map V.int)[x]?) ∘ λq=>4*q)=L.map (V.int ∘ λq=>row.getD (4*q) 0):=by
  intro L
  induction L with
  | nil=>intro _;rfl
  | cons q L ih=>
   intro hq;have h1:4*q<row.length:=by have:=hq q (List.mem_cons_self ..);lia
   have e:((λx=>(row.map V.int)[x]?) ∘ λq=>4*q) q=some (.int (row.getD (4*q) 0)):=by
    show(row.map V.int)[4*q]?=_;rw[List.getElem?_map,List.getD_eq_getElem?_getD,List.getElem?_eq_getElem h1]
    rfl
   rw[List.filterMap_cons,e,ih λz hz=>hq z (List.mem_cons_of_mem _ hz)]
   rfl
 exact this _ λq hq=>List.mem_range.mp hq
theorem b7q{xs:List V}{j:Nat}(h:j<=xs.length):b7r xs (some (j:Int)) none=xs.drop j:=by
 unfold b7r;show(xs.drop (if (j:Int)<0 then ((j:Int)+(xs.length:Int)).toNat else min (j:Int).toNat xs.length)).take (xs.length-(if (j:Int)<0 then ((j:Int)+(xs.length:Int)).toNat else min (j:Int).toNat xs.length))=_;rw[if_neg (by lia),Int.toNat_natCast,Nat.min_eq_left h,List.take_of_length_le (by rw[List.length_drop];lia)]
def c5g:V->Bool|.int i=>decide (i<0) || decide (3<i)|_=>false
def c4j:V->Bool|.int i=>!(i == 0 || i == 1)|_=>false
theorem b2f{α:Type}{l:List α}{p:V->Bool}{g:α->V}(h:(((l.map g).filter p).isEmpty)=true):∀x∈l,p (g x)=false:=by
 intro x hx;have:=List.filter_eq_nil_iff.mp (List.isEmpty_iff.mp h) (g x) (List.mem_map_of_mem hx)
 simpa using this
theorem a9m{α:Type}{l:List α}{p:V->Bool}{g:α->V}(h:(((l.map g).filter p).isEmpty)=false):∃x∈l,p (g x)=true:=by
 by_cases z:∃x∈l,p (g x)=true
 ·exact z
 ·have:(l.map g).filter p=[]:=by
   rw[List.filter_eq_nil_iff];intro v hv;obtain⟨x,hx,rfl⟩:=List.mem_map.mp hv;exact λq=>z ⟨x,hx,q⟩
  rw[this] at h;cases h
theorem b7f{n:Nat}{row:List Int}{x:Int}(h:x∈t0 n row):∃q,q<n/\x=row.getD (4*q) 0:=by
 obtain⟨q,hq,rfl⟩:=List.mem_map.mp h;exact⟨q,List.mem_range.mp hq,rfl⟩
theorem b9l{k:Nat}{row:List Int}{x:Int}(h:x∈row.drop k):∃j,k+j<row.length/\x=row.getD (k+j) 0:=by
 obtain⟨j,hj,rfl⟩:=List.mem_iff_getElem.mp h;rw[List.length_drop] at hj;refine⟨j,by lia,?_⟩
 rw[List.getElem_drop,List.getD_eq_getElem?_getD,List.getElem?_eq_getElem (by lia)]
 rfl
theorem b7j{k j:Nat}{row:List Int}(h:k+j<row.length):row.getD (k+j) 0∈row.drop k:=by
 rw[List.getD_eq_getElem?_getD,List.getElem?_eq_getElem h];refine List.mem_iff_getElem.mpr ⟨j,by rw[List.length_drop];lia,?_⟩
 rw[List.getElem_drop]
 rfl
def a6e:Sp:=λvs H Q _=>∃t:Str,vs=[.str t]/\t.length<=100000/\(a3j t->(∃n,GoodRow n (p9 t))->∀p H',H p=none->Same H H'->H' p=some (.lst ((p9 t).map V.int))->Q (.ref p) H')/\(a3j t->(¬ ∃n,GoodRow n (p9 t))->∀H',Same H H'->Q (.str "cells") H')/\(¬ a3j t->∀H',Same H H'->Q (.str "text") H')
abbrev a5d:Stmt:=top 62
theorem t5:g6 ["text","cells","row","words","numbers","size","card"] ["text"] (d8 a5d):=↑1
theorem b3e(D:DefT K mg "_law_due" a5d ["text"])(T:Txt K mg cl)(G_law_number:FnT P w K mg base "_law_number" 1 ["word"] a2x):FnT P w K mg base "_law_due" 2 ["text"] a6e:=by
 refine D.fn t5 (λvs H Q E h=>?_) (λf cdv A outer s H vs Q E hr h=>?_)
 ·obtain⟨t,rfl,_⟩:=h
  rfl
 ·obtain⟨t,rfl,hl,k,kb,kn⟩:=h
  refine⟨_,(d4 (f8 (i:=1) t5.nd rfl (by first|exact Or.inl rfl|exact Or.inr rfl) (j8 d3))
   (d4 (u6 j3 rfl (u9 (K:=K) (a0l (K:=K) (pv 0) (b0 g4 d3))) (i7 (i:=2) t5.nd rfl (by first|exact Or.inl rfl|exact Or.inr rfl))
     (
     d4 (f8 (i:=3) t5.nd rfl (by first|exact Or.inl rfl|exact Or.inr rfl) (a0l (K:=K) (pv 2) (b0 g4 d3)))
     (d4 (a6g (ix:=4) (N:=["word"]) (nt:=1) (fr:=[]) rfl (a0d rfl rfl (by decide +kernel) (by decide +kernel) rfl rfl) (u9 (K:=K) (pv 3)) (a0j (by decide)) (λ_ _ _ _ _=>i7 (i:=0) (show(["word"]:List Str).Nodup by decide +kernel) rfl (Or.inl rfl) (Or.inr rfl)) (λ_ _ _ _ _=>(i0 G_law_number hr (by decide) rfl b9h (b0 (pv 0) d3))) t5.nd rfl rfl)
     (d4 (m5 (PW.pt (a1d (f7 b3b (f9 (i6 (K:=K)) (by rfl) T.z_len PySem.boot_len (b0 (pv 3) d3)) d5 (g5 _)) (a0k (f7 (c1h (K:=K)) a8k (pv 4) (by with_unfolding_all rfl)))))
       (d7 (g9 g4))
       i5)
     (d7 (f8 (i:=1) t5.nd rfl (by first|exact Or.inl rfl|exact Or.inr rfl) (d9 a8r (pv 1) (pv 4))))))))
   (d4 (f8 (i:=5) t5.nd rfl (by first|exact Or.inl rfl|exact Or.inr rfl) (d9 y0 (d9 a0b (f9 (i6 (K:=K)) (by rfl) T.z_len PySem.boot_len (b0 (pv 1) d3)) d5) d5))
   (d4 (m5 (PW.pt (a1d (f7 a7e (pv 5) d5 (g5 _)) (a1d (f7 b0q (pv 5) d5 (g5 _)) (a0k (f7 (b1v (K:=K) (n:=0) (huN hr 1)) (a8l (N:=["mark"]) (nt:=1) (fr:=[]) rfl (a0d rfl rfl (by decide +kernel) (by decide +kernel) rfl rfl) (u9 (K:=K) (b4j (K:=K) (pv 1) z0 (m4 (d9 m9 d5 (pv 5))) (m4 d5))) (a0j (by decide)) (λ_ _ _ _ _=>i7 (i:=0) (show(["mark"]:List Str).Nodup by decide +kernel) rfl (Or.inl rfl) (Or.inr rfl)) (λ_ _ _ _ _=>(PW.pt (a1d (f7 a7e (pv 0) d5 (g5 _)) (a0k (f7 b0q (pv 0) d5 (g5 _)))))) (λ_ _ _ _ _=>(pv 0))) (j8 d3) (g5 _))))))
     (d7 (g9 g4))
     i5)
   (d4 (u6 j3 rfl (u9 (K:=K) (n6 (a4k (K:=K)) (pv 1) (m4 (d9 m9 d5 (pv 5))) (m4 (d9 i9 (d9 m9 d5 (pv 5)) d5)))) (i7 (i:=6) t5.nd rfl (by first|exact Or.inl rfl|exact Or.inr rfl))
     (d7 (m5 (PW.pt (a1d (f7 a7e (pv 6) (b6t b1m d5) (g5 _)) (a0k (f7 b4q (pv 6) (d9 m9 d5 (pv 5)) (g5 _)))))
      (d7 (g9 g4))
      i5)))
   (d4 (m5 (f7 (b1v (K:=K) (n:=0) (huN hr 1)) (a8l (N:=["bell"]) (nt:=1) (fr:=[]) rfl (a0d rfl rfl (by decide +kernel) (by decide +kernel) rfl rfl) (u9 (K:=K) (n6 (a4k (K:=K)) (pv 1) (m4 (d9 i9 (d9 m9 d5 (pv 5)) d5)) z0)) (a0j (by decide)) (λ_ _ _ _ _=>i7 (i:=0) (show(["bell"]:List Str).Nodup by decide +kernel) rfl (Or.inl rfl) (Or.inr rfl)) (λ_ _ _ _ _=>(f7 (a8p (K:=K)) (pv 0) (j8 (b0 d5 (b0 d5 d3))) (by with_unfolding_all rfl))) (λ_ _ _ _ _=>(pv 0))) (j8 d3) (g5 _))
     (d7 (g9 g4))
     i5)
   (d7 (g9 (pv 1))))))))),?_⟩
  have lm:=a0c;fail "";refine⟨Nat.zero_le _,λp hp=>?_⟩;fail "";refine a1w j6 (by lia) (λq hq=>?_)
  have w1:=a0o (x:=t) j6;have w2:=a2v (Txt.split t "\n");have npq:p≠q:=d6 d0 hq;fail "";refine a4m (xs:=(Txt.split t "\n").map V.str) (λi σ H'=>∃c x2 x3 x4,σ=[some (.str t),some (.ref c),x2,x3,x4,none,none]/\Same H H'/\H c=none/\H' q=some (.lst ((Txt.split t "\n").map V.str))/\(∀r∈(Txt.split t "\n").take i,a4i r)/\H' c=some (.lst ((((Txt.split t "\n").take i).map a7v).flatten.map V.int))) ⟨p,_,_,_,rfl,(c8 hp).trans (c8 hq),hp,d0,by simp,by rw[f6 npq];exact d0⟩ ?_ ?_ ?_
  ·rintro i σ H2 hi ⟨c,x2,x3,x4,rfl,s2,hc,e2,_⟩
   exact SqL.of e2
  ·rintro i x σ H2 hx ⟨c,x2,x3,x4,rfl,s2,hc,e2,g2,c2⟩
   obtain⟨row,hrow,rfl⟩:=a6c hx;have mr:row∈Txt.split t "\n":=List.mem_of_getElem? hrow;have w3:=a4p mr;have hi:i<(Txt.split t "\n").length:=(List.getElem?_eq_some_iff.mp hrow).1;fail "";refine a1w n5 (by lia) (λu hu=>?_)
   have w4:=a0o (x:=row) n5;have w5:=a2v (Txt.split row " ");fail "";have eu:upd H2 u (.lst ((Txt.split row " ").map V.str)) u=_:=d0;have s3:Same H2 (upd H2 u (.lst ((Txt.split row " ").map V.str))):=c8 hu;generalize upd H2 u (.lst ((Txt.split row " ").map V.str))=H3 at eu s3 ⊢;refine a1x (xs:=(Txt.split row " ").map V.str) (by rw[List.length_map];lia) (MpP H3 (Txt.split row " ") numV (λ_=>True)) (λD hD=>MpP.new hD) (λD i acc H' p=>⟨p.len.1,p.len.2,SqL.of (p.2.1 _ _ eu)⟩) ?_ ?_
   ·intro D i x acc H' hD hx hp
    obtain⟨y,hy,rfl⟩:=a6c hx;have:=a4p (List.mem_of_getElem? hy);fail "";exact⟨y,rfl,by lia,λnw H3 s3=>hp.step hD hy trivial (b1x nw).symm s3,λnw H3 s3=>hp.step hD hy trivial (b4t nw).symm s3⟩
   ·intro D acc H4 hD hp
    obtain⟨e4,s4,_⟩:=hp.done (List.length_map _);rw[hp.len.1] at e4;have e:=HO.lst.inj (Option.some.inj e4);subst e;have e4:=hp.len.1;have s4:Same H3 H4:=s4;have eu4:=s4 _ _ eu;have s04:Same H H4:=(s2.trans s3).trans s4;fail "";rw[List.length_map];refine a6m (λz=>?_) (λz=>?_)
    ·fail ""
     exact kn (λok=>z (by rw[(ok row mr).1];rfl)) _ s04
    ·have z:(Txt.split row " ").length=4:=by have:=V.int.inj z;lia
     fail "";refine⟨D,_,rfl,.inl (SqL.of e4),rfl,b4s _,?_⟩;have nn:=b9r (Txt.split row " ");fail "";refine b8i (λz2=>?_) (λz2=>?_)
     ·fail ""
      exact kn (λok=>nn.mp z2 (ok row mr).2) _ s04
     ·have nw:∀x∈Txt.split row " ",a5v x:=Classical.byContradiction λh=>by
       have:=nn.mpr h;rw[show inV .non ((Txt.split row " ").map numV)=false from z2] at this;cases this
      have ok:a4i row:=⟨z,nw⟩;rw[b6z nw] at e4;have c4:H4 c=_:=s4 _ _ (s3 _ _ c2);have fl:=a4n g2;rw[List.length_take] at fl;fail "";refine b5j c4 e4 (by rw[List.length_map,fl,List.length_map,List.length_map,z];lia) (λd hd=>?_)
      fail "";refine⟨d,_,_,_,rfl,s04.trans (c8 hd),s04.free hd,c8 hd _ _ (s4 _ _ (s3 _ _ e2)),b3t hrow g2 ok,?_⟩;rw[d0,b5l hrow,List.map_append]
      rfl
  ·rintro σ H2 ⟨c,x2,x3,x4,rfl,s2,hc,e2,g2,c2⟩
   rw[List.length_map,List.take_length] at g2 c2;have ok:a3j t:=g2;have cl0:=b3m ok;have k0:1<=(Txt.split t "\n").length:=by
    cases e:Txt.split t "\n" with
    | nil=>exact absurd e (a4j t "\n")
    | cons a r=>rw[List.length_cons];lia
   obtain⟨m,em⟩:∃m,(Txt.split t "\n").length=m+1:=⟨(Txt.split t "\n").length-1,by lia⟩
   have rl:(p9 t).length=4*m+4:=by lia
   have c2:H2 c=some (.lst ((p9 t).map V.int)):=c2;clear e2 g2;generalize p9 t=row at *;fail "";rw[List.length_map,rl,show(((4*m+4:Nat):Int) / 4-1)=(m:Int) by lia]
   fail "";refine u4 (λz=>?_) (λz2=>?_)
   ·fail ""
    refine kb ok ?_ _ s2;rintro⟨n,g⟩;have:=g.one rl;have:=g.n2;lia
   fail "";refine u4 (λz=>?_) (λz8=>?_)
   ·fail ""
    refine kb ok ?_ _ s2;rintro⟨n,g⟩;have:=g.one rl;have:=g.n8;lia
   have m2:2<=m:=by lia
   have m8:m<=8:=by lia
   have one:∀n,GoodRow n row->n=m:=λn g=>g.one rl;have bad:∀H',Same H H'->(∀n,n=m->¬ GoodRow n row)->Q (.str "cells") H':=λH' s' nn=>kb ok (by rintro⟨n,g⟩;exact nn n (one n g) g) H' s'
   clear kb kn;have es:=b2x m2 m8 rl;fail "";refine⟨_,rfl,?_⟩;fail "";refine⟨_,rfl,?_⟩;refine⟨c,_,rfl,SqL.of c2,by simp,by rw[es,List.length_map,a1a];lia,λd hd=>?_⟩
   rw[es];fail "";have s3:Same H2 (upd H2 d (.lst ((t0 m row).map V.int))):=c8 hd;have e3:upd H2 d (.lst ((t0 m row).map V.int)) d=_:=d0;generalize upd H2 d (.lst ((t0 m row).map V.int))=H3 at s3 e3 ⊢;refine a4c (p:=c5g) e3 (by rw[List.length_map,a1a];lia) ?_ ?_
   ·intro i x H' k1 k2 hx s' h1 h2
    obtain⟨y,hy,rfl⟩:=a6c hx;fail "";refine u4 (λz=>?_) (λz=>?_)
    ·fail ""
     exact h1 (by show(decide (y<0) || decide (3<y))=true;rw[decide_eq_true z];rfl) _ (Same.refl _)
    fail "";refine u4 (λz'=>?_) (λz'=>?_)
    ·fail ""
     exact h1 (by show(decide (y<0) || decide (3<y))=true;rw[decide_eq_true z',Bool.or_true]) _ (Same.refl _)
    ·fail ""
     exact h2 (by show(decide (y<0) || decide (3<y))=false;rw[decide_eq_false z,decide_eq_false z'];rfl) _ (Same.refl _)
   intro D' H4 hD' s4 e4;fail "";refine⟨Nat.zero_le _,λl hl'=>?_⟩;refine b7m (b5p (d6 e4 hl') (c8 hl' _ _ e4) d0) ?_;have s5:Same H (upd H4 l (.lst [])):=((s2.trans s3).trans s4).trans (c8 hl');have c5:upd H4 l (.lst []) c=_:=c8 hl' _ _ (s4 _ _ (s3 _ _ c2));generalize upd H4 l (.lst [])=H5 at s5 c5 ⊢;clear e3 e4 s3 s4 hD' hl' hd;fail "";cases hb:(((t0 m row).map V.int).filter c5g).isEmpty with
   | false=>
    fail "";refine bad _ s5 ?_;rintro _ rfl g;obtain⟨x,hx,b⟩:=a9m hb;obtain⟨q,hq,rfl⟩:=b7f hx;have:=g.ok.mks q hq;have b:(decide (row.getD (4*q) 0<0) || decide (3<row.getD (4*q) 0))=true:=b;rw[decide_eq_false (by lia),decide_eq_false (by lia)] at b
    cases b
   | true=>
    have mk:∀q,q<m->0<=row.getD (4*q) 0/\row.getD (4*q) 0<=3:=by
     intro q hq;have:(decide (row.getD (4*q) 0<0) || decide (3<row.getD (4*q) 0))=false:=b2f hb _ (List.mem_map.mpr ⟨q,List.mem_range.mpr hq,rfl⟩);rw[Bool.or_eq_false_iff,decide_eq_false_iff_not,decide_eq_false_iff_not] at this;lia
    clear hb;fail "";refine⟨_,rfl,?_⟩;fail "";refine⟨_,rfl,?_⟩;refine⟨c,_,rfl,SqL.of c5,λd hd=>?_⟩;rw[b5w (by lia) (by lia),show(4*(m:Int)).toNat=4*m by lia,show(4*(m:Int)+2-4*(m:Int)).toNat=2 by lia,<- List.map_drop,<- List.map_take]
    fail "";have s6:Same H5 (upd H5 d (.lst (((row.drop (4*m)).take 2).map V.int))):=c8 hd;have e6:upd H5 d (.lst (((row.drop (4*m)).take 2).map V.int)) d=_:=d0;generalize upd H5 d (.lst (((row.drop (4*m)).take 2).map V.int))=H6 at s6 e6 ⊢;have c6:=s6 _ _ c5;have at2:∀i x,((row.drop (4*m)).take 2)[i]?=some x->i<2/\x=row.getD (4*m+i) 0:=by
     intro i x hx;have hi:i<2:=by
      have:=(List.getElem?_eq_some_iff.mp hx).1;rw[List.length_take] at this;lia
     rw[List.getElem?_take_of_lt hi,List.getElem?_drop] at hx;refine⟨hi,?_⟩;rw[List.getD_eq_getElem?_getD,hx]
     rfl
    refine a4m (xs:=((row.drop (4*m)).take 2).map V.int) (λi σ H'=>∃x6,σ=[some (.str t),some (.ref c),x2,x3,x4,some (.int (m:Int)),x6]/\Same H6 H'/\∀j,j<i->-1<=row.getD (4*m+j) 0/\row.getD (4*m+j) 0<2*(m:Int)) ⟨_,rfl,Same.refl _,λj hj=>absurd hj (Nat.not_lt_zero _)⟩ ?_ ?_ ?_
    ·rintro i σ H7 hi ⟨x6,rfl,s7,_⟩
     exact SqL.of (s7 _ _ e6)
    ·rintro i x σ H7 hx ⟨x6,rfl,s7,g7⟩
     obtain⟨y,hy,rfl⟩:=a6c hx;obtain⟨hi,rfl⟩:=at2 i y hy;fail "";refine u4 (λz=>?_) (λz=>?_)
     ·fail ""
      refine bad _ ((s5.trans s6).trans s7) ?_;rintro _ rfl g;have:=g.ok.cd i hi;lia
     fail "";refine u4 (λz'=>?_) (λz'=>?_)
     ·fail ""
      refine bad _ ((s5.trans s6).trans s7) ?_;rintro _ rfl g;have:=g.ok.cd i hi;lia
     ·fail ""
      refine⟨_,rfl,s7,λj hj=>?_⟩;by_cases y:j=i
      ·subst y;lia
      ·exact g7 j (by lia)
    ·rintro σ H7 ⟨x6,rfl,s7,g7⟩
     have l2:(((row.drop (4*m)).take 2).map V.int).length=2:=by rw[List.length_map,List.length_take,List.length_drop];lia
     rw[l2] at g7;have s07:Same H H7:=(s5.trans s6).trans s7;have c7:=s7 _ _ c6;fail "";refine⟨_,rfl,?_⟩;fail "";refine⟨c,_,rfl,SqL.of c7,λd2 hd2=>?_⟩;rw[show(4*(m:Int)+2)=((4*m+2:Nat):Int) by lia,b7q (by rw[List.length_map];lia),<- List.map_drop]
     fail "";have s8:Same H7 (upd H7 d2 (.lst ((row.drop (4*m+2)).map V.int))):=c8 hd2;have e8:upd H7 d2 (.lst ((row.drop (4*m+2)).map V.int)) d2=_:=d0;generalize upd H7 d2 (.lst ((row.drop (4*m+2)).map V.int))=H8 at s8 e8 ⊢;refine a4c (p:=c4j) e8 (by rw[List.length_map,List.length_drop];lia) ?_ ?_
     ·intro i x H' k1 k2 hx s' h1 h2
      obtain⟨y,hy,rfl⟩:=a6c hx;fail "";refine⟨by show 2<=sizeLine;lia,λu hu=>?_⟩
      refine⟨u,_,rfl,.inl (SqL.of d0),rfl,rfl,?_⟩;fail "";have e:(!inV (.int y) [.int 0,.int 1])=c4j (.int y):=by
       show(!(((0:Int) == y) || (((1:Int) == y) || false)))=(!(y == 0 || y == 1));rw[Bool.or_false,Bool.beq_comm (a:=(0:Int)),Bool.beq_comm (a:=(1:Int))]
      show if (!inV (.int y) [.int 0,.int 1])=true then _ else _;rw[e];refine b8i (λz=>?_) (λz=>?_)
      ·fail ""
       exact h1 z _ (c8 hu)
      ·fail ""
       exact h2 z _ (c8 hu)
     intro D' H9 hD' s9 e9;fail "";refine⟨Nat.zero_le _,λl hl'=>?_⟩;refine b7m (b5p (d6 e9 hl') (c8 hl' _ _ e9) d0) ?_;have s10:Same H (upd H9 l (.lst [])):=((s07.trans s8).trans s9).trans (c8 hl');have c10:upd H9 l (.lst []) c=_:=c8 hl' _ _ (s9 _ _ (s8 _ _ c7));generalize upd H9 l (.lst [])=H10 at s10 c10 ⊢;fail "";cases hb:(((row.drop (4*m+2)).map V.int).filter c4j).isEmpty with
     | false=>
      fail "";refine bad _ s10 ?_;rintro n en g;rw[en] at g;obtain⟨x,hx,b⟩:=a9m hb;obtain⟨j,hj,rfl⟩:=b9l hx;have:=g.ok.bl j (by lia)
      have b:(!(row.getD (4*m+2+j) 0 == 0 || row.getD (4*m+2+j) 0 == 1))=true:=b;rcases this with e|e <;> rw[e] at b <;> cases b
     | true=>
      fail "";refine k ok ⟨m,m2,m8,rl,mk,g7,λj hj=>?_⟩ c _ hc s10 c10;have b:(!(row.getD (4*m+2+j) 0 == 0 || row.getD (4*m+2+j) 0 == 1))=false:=b2f hb _ (b7j (by lia))
      rw[Bool.not_eq_false',Bool.or_eq_true,beq_iff_eq,beq_iff_eq] at b;exact b
end
section
variable{P:Program}{w:World}{K:Frag}{mg:Str->Option Value}{base:Heap}{cl:Cl}
def b1p(K:Frag):Sp:=λvs H Q _=>∃(a:Addr)(ns:List Int),vs=[.ref a]/\SqL K H a (ns.map V.int)/\ns.length<=63/\∀H',Q (.bl true) H'
theorem b2h{H:Hp}{p q k k':Addr}{x:V}(ne:p≠q)(hp:H p=some (.tup [.ref k,x]))(hq:H q=some (.tup [.ref k',x]))(hk:EqD K H 1 (.ref k) (.ref k') true)(fx:z9 x=true)(ex:eqV x x=true):EqD K H 2 (.ref p) (.ref q) true:=by
 have h:=EqD.tup (K:=K) (n:=1) (e:=λ_=>true) ne (SqT.of hp) (SqT.of hq) (λj y z hy hz=>?_)
 ·exact h
 ·match j,hy,hz with
  | 0,hy,hz=>cases hy;cases hz;exact hk
  | 1,hy,hz=>
   cases hy;cases hz;have:=EqD.flat (K:=K) (H:=H) (n:=1) fx fx;rw[ex] at this;exact this
theorem c0d{H H':Hp}{p:Addr}(h:H' p=none)(s:Same H H'):Same H H':=s
structure Kd(K:Frag)(cl:Cl)(C:Addr)(n b:Bool):Prop where
 k:ExK K C
 x:exmOne K (.ref C) (.ref cl.RingError)=some true
 N:kitOne K (.ref C) (.ref cl.NoText)=some n
 B:kitOne K (.ref C) (.ref cl.BadCells)=some b
 V:kitOne K (.ref C) (.type "ValueError")=some true
 s9:PySem.W.kitAny K (.ref C) [.ref cl.BadMark,.ref cl.BadOrder,.ref cl.BadSize,.ref cl.Crooked,.ref cl.NoCell,.ref cl.NoHand,.ref cl.NoRow,.ref cl.NotSound,.ref cl.NoTurn]=some false
 t4:PySem.W.kitAny K (.ref C) [.ref cl.BadStand,.ref cl.NoName,.ref cl.NoWaiting,.ref cl.TooMany]=some false
def a4v(cl:Cl):Sp:=λvs H Q _=>∃t:Str,vs=[.str t]/\t.length<=100000 /\
 (a3j t->(∃n,GoodRow n (p9 t))->∀tp kk p H',H tp=none->H kk=none->H p=none->Same H H'->H' tp=some (.tup [.ref kk,.ref p])->H' kk=some (.lst [])->H' p=some (.lst ((p9 t).map V.int))->Q (.ref tp) H') /\
 (a3j t->(¬ ∃n,GoodRow n (p9 t))->∀tp kk H',H tp=none->H kk=none->Same H H'->H' tp=some (.tup [.ref kk,.non])->H' kk=some (.lst ([false,true,true,false,false].map V.bl))->Q (.ref tp) H') /\
 (¬ a3j t->∀tp kk H',H tp=none->H kk=none->Same H H'->H' tp=some (.tup [.ref kk,.non])->H' kk=some (.lst ([true,false,true,false,false].map V.bl))->Q (.ref tp) H')
abbrev a3o:Stmt:=top 63
theorem u8:g6 ["text","kinds","told","e"] ["text"] (d8 a3o):=↑1
theorem b0u(D:DefT K mg "_law_read" a3o ["text"])(T:Txt K mg cl)(kdB:Kd K cl cl.BadCells false true)(kdN:Kd K cl cl.NoText true false)(G_cells_read:FnT P w K mg base "cells_read" 6 ["text"] (a0q cl)):FnT P w K mg base "_law_read" 7 ["text"] (a4v cl):=by
 refine D.fn u8 (λvs H Q E h=>?_) (λf cdv A outer s H vs Q E hr h=>?_)
 ·obtain⟨t,rfl,_⟩:=h
  rfl
 ·obtain⟨t,rfl,hl,k,kb,kn⟩:=h
  refine'⟨_,(d4 (f8 (i:=1) u8.nd rfl (by first|exact Or.inl rfl|exact Or.inr rfl) (j8 d3))
   (d4 (f8 (i:=2) u8.nd rfl (by first|exact Or.inl rfl|exact Or.inr rfl) a8k)
   (d4 (b6r (i:=3) rfl rfl rfl rfl T.c_RingError.m u8.nd rfl rfl ?tb ?th)
   (d7 (g9 (a5f (b0 (pv 1) (b0 (pv 2) d3)))))))),?rd⟩
  case tb=>exact λ_ _ _ hx=>(d7 (f8 (i:=2) u8.nd rfl (by first|exact Or.inl rfl|exact Or.inr rfl) (c1c G_cells_read hr (by decide) rfl hx (b0 (pv 0) d3))))
  case th=>exact λ_ _=>(d4 (f8 (i:=1) u8.nd rfl (by first|exact Or.inl rfl|exact Or.inr rfl) (j8 (b0 (f9 (a1t (K:=K)) (by rfl) T.z_isinstance PyProof.Rows.boot_isinstance (b0 (pv 3) (b0 (a7c T.c_NoText rfl) d3))) (b0 (f9 (a1t (K:=K)) (by rfl) T.z_isinstance PyProof.Rows.boot_isinstance (b0 (pv 3) (b0 (a7c T.c_BadCells rfl) d3))) (b0 (f9 (a1t (K:=K)) (by rfl) T.z_isinstance PyProof.Rows.boot_isinstance (b0 (pv 3) (b0 (b4l T.z_ValueError c0f rfl) d3))) d3)))))
     (d4 (m6 (t7 (K:=K) (pv 1) (b0 (f9 (a6r (K:=K)) (by rfl) T.z_isinstance PyProof.Rows.boot_isinstance (b0 (pv 3) (b0 (a5f (b0 (z5 T.c_BadMark rfl) (b0 (z5 T.c_BadOrder rfl) (b0 (a7c T.c_BadSize rfl) (b0 (z5 T.c_Crooked rfl) (b0 (z5 T.c_NoCell rfl) (b0 (a7c T.c_NoHand rfl) (b0 (z5 T.c_NoRow rfl) (b0 (z5 T.c_NotSound rfl) (b0 (z5 T.c_NoTurn rfl) d3)))))))))) d3))) d3)))
     (d7 (m6 (t7 (K:=K) (pv 1) (b0 (f9 (a6r (K:=K)) (by rfl) T.z_isinstance PyProof.Rows.boot_isinstance (b0 (pv 3) (b0 (a5f (b0 (z5 T.c_BadStand rfl) (b0 (z5 T.c_NoName rfl) (b0 (z5 T.c_NoWaiting rfl) (b0 (z5 T.c_TooMany rfl) d3))))) d3))) d3))))))
  fail "";refine⟨Nat.zero_le _,λk0 hk0=>?_⟩;fail "";refine⟨t,rfl,hl,λok g p H2 hp s2 e2=>?_,λok ng H2 s2=>?_,λnt H2 s2=>?_⟩
  ·fail ""
   refine⟨by show 2<=sizeLine;decide,λtp htp=>?_⟩
   have s0:Same H H2:=(c8 hk0).trans s2;exact k ok g tp k0 p _ (s0.free htp) hk0 ((c8 hk0).free hp) (s0.trans (c8 htp)) d0 (c8 htp _ _ (s2 _ _ d0)) (c8 htp _ _ e2)
  ·have kd:=kdB
   have kk:=kb ok ng;clear k kb kn kdB kdN ok ng;refine⟨kd.x,λe he=>?_⟩;fail "";refine a9j (.exc d0 kd.k) rfl kd.N ?_;fail "";refine a9j (.exc d0 kd.k) rfl kd.B ?_;fail "";refine a9j (.exc d0 kd.k) rfl kd.V ?_;fail "";refine⟨by show 3<=sizeLine;decide,λq hq=>?_⟩
   have ne:e≠q:=d6 d0 hq;fail "";refine⟨by show 9<=sizeLine;decide,λt8 ht8=>?_⟩
   have ne8:e≠t8:=d6 (c8 hq _ _ d0) ht8;have nq8:q≠t8:=d6 d0 ht8;fail "";refine b2c ((f6 ne8).trans ((f6 ne).trans d0)) kd.k d0 rfl kd.s9 ?_;fail "";refine⟨by show 4<=sizeLine;decide,λt6 ht6=>?_⟩
   have ne6:e≠t6:=d6 ((f6 ne).trans ((f6 ne8).trans ((f6 ne).trans d0))) ht6;have nq6:q≠t6:=d6 d0 ht6;fail "";refine b2c ((f6 ne6).trans ((f6 ne).trans ((f6 ne8).trans ((f6 ne).trans d0)))) kd.k d0 rfl kd.t4 ?_;fail "";refine⟨by show 2<=sizeLine;decide,λtp htp=>?_⟩
   have s0:Same H H2:=(c8 hk0).trans s2;have s1:=c0d hq (s0.trans (c8 he));have hq0:H q=none:=s1.free hq;have s3:=c0d ht6 ((s1.trans ((c8 hq).trans (c8 ht8))).set hq0);have s4:=c0d htp ((s3.trans (c8 ht6)).set hq0);refine kk tp q _ (s4.free htp) hq0 (s4.trans (c8 htp)) d0 ?_;rw[f6 (d6 d0 htp),d0]
   rfl
  ·have kd:=kdN
   have kk:=kn nt;clear k kb kn kdB kdN nt;refine⟨kd.x,λe he=>?_⟩;fail "";refine a9j (.exc d0 kd.k) rfl kd.N ?_;fail "";refine a9j (.exc d0 kd.k) rfl kd.B ?_;fail "";refine a9j (.exc d0 kd.k) rfl kd.V ?_;fail "";refine⟨by show 3<=sizeLine;decide,λq hq=>?_⟩
   have ne:e≠q:=d6 d0 hq;fail "";refine⟨by show 9<=sizeLine;decide,λt8 ht8=>?_⟩
   have ne8:e≠t8:=d6 (c8 hq _ _ d0) ht8;have nq8:q≠t8:=d6 d0 ht8;fail "";refine b2c ((f6 ne8).trans ((f6 ne).trans d0)) kd.k d0 rfl kd.s9 ?_;fail "";refine⟨by show 4<=sizeLine;decide,λt6 ht6=>?_⟩
   have ne6:e≠t6:=d6 ((f6 ne).trans ((f6 ne8).trans ((f6 ne).trans d0))) ht6;have nq6:q≠t6:=d6 d0 ht6;fail "";refine b2c ((f6 ne6).trans ((f6 ne).trans ((f6 ne8).trans ((f6 ne).trans d0)))) kd.k d0 rfl kd.t4 ?_;fail "";refine⟨by show 2<=sizeLine;decide,λtp htp=>?_⟩
   have s0:Same H H2:=(c8 hk0).trans s2;have s1:=c0d hq (s0.trans (c8 he));have hq0:H q=none:=s1.free hq;have s3:=c0d ht6 ((s1.trans ((c8 hq).trans (c8 ht8))).set hq0);have s4:=c0d htp ((s3.trans (c8 ht6)).set hq0);refine kk tp q _ (s4.free htp) hq0 (s4.trans (c8 htp)) d0 ?_;rw[f6 (d6 d0 htp),d0]
   rfl
theorem b5o{H:Hp}{p q k k' u u':Addr}(ne:p≠q)(hp:H p=some (.tup [.ref k,.ref u]))(hq:H q=some (.tup [.ref k',.ref u']))(hk:EqD K H 1 (.ref k) (.ref k') true)(hu:EqD K H 1 (.ref u) (.ref u') true):EqD K H 2 (.ref p) (.ref q) true:=by
 have h:=EqD.tup (K:=K) (n:=1) (e:=λ_=>true) ne (SqT.of hp) (SqT.of hq) (λj y z hy hz=>?_)
 ·exact h
 ·match j,hy,hz with
  | 0,hy,hz=>cases hy;cases hz;exact hk
  | 1,hy,hz=>cases hy;cases hz;exact hu
theorem b5q{H:Hp}{p q:Addr}{ns:List Int}(ne:p≠q)(hp:H p=some (.lst (ns.map V.int)))(hq:H q=some (.lst (ns.map V.int))):EqD K H 2 (.ref p) (.ref q) true:=by
 have h:=EqD.lst (K:=K) (n:=1) (e:=λ_=>true) ne (SqL.of hp) (SqL.of hq) rfl (λj x y h1 h2=>?_)
 ·rw[show((List.range (ns.map V.int).length).all λ_=>true)=true by simp] at h
  exact h
 ·rw[h1] at h2
  cases h2;obtain⟨z,_,rfl⟩:=a6c h1;have:=EqD.flat (K:=K) (H:=H) (n:=1) (x:=.int z) (y:=.int z) rfl rfl;rw[show eqV (.int z) (.int z)=true from beq_self_eq_true z] at this;exact this
def a3r:Sp:=λvs H Q _=>∃t:Str,vs=[.str t]/\t.length<=100000/\∀H',Same H H'->Q (.bl true) H'
abbrev a2k:Stmt:=top 64
theorem a1k:g6 ["text","due","found"] ["text"] (d8 a2k):=↑1
theorem a8v(D:DefT K mg "_law_right" a2k ["text"])(T:Txt K mg cl)(kl:kitOne K (.type "list") (.type "list")=some true)(G_law_due:FnT P w K mg base "_law_due" 2 ["text"] a6e)(G_law_read:FnT P w K mg base "_law_read" 7 ["text"] (a4v cl))(G_cells_text:FnT P w K mg base "cells_text" 6 ["cells"] a0p)(G_cells_read:FnT P w K mg base "cells_read" 6 ["text"] (a0q cl)):FnT P w K mg base "_law_right" 8 ["text"] a3r:=by
 refine D.fn a1k (λvs H Q E h=>?_) (λf cdv A outer s H vs Q E hr h=>?_)
 ·obtain⟨t,rfl,_⟩:=h
  rfl
 ·obtain⟨t,rfl,hl,k⟩:=h
  refine⟨_,(d4 (f8 (i:=1) a1k.nd rfl (by first|exact Or.inl rfl|exact Or.inr rfl) (i0 G_law_due hr (by decide) rfl i4 (b0 (pv 0) d3)))
   (d4 (f8 (i:=2) a1k.nd rfl (by first|exact Or.inl rfl|exact Or.inr rfl) (i0 G_law_read hr (by decide) rfl i4 (b0 (pv 0) d3)))
   (d4 (m5 (PW.pt (a1d (f7 (a7f (K:=K) (huN hr 0)) (pv 1) g4 (g5 _)) (a0k (f7 (a7f (K:=K) (huN hr 0)) (pv 1) g4 (g5 _)))))
     (d7 (g9 (a0y (b8d (K:=K) (n:=1) (huN hr 2)) (pv 2) (a5f (b0 (j8 (b0 (a0y (a7f (K:=K) (huN hr 0)) (pv 1) g4 (g5 _)) (b0 (a0y (a7f (K:=K) (huN hr 0)) (pv 1) g4 (g5 _)) (b0 a7d (b0 a7d (b0 a7d d3)))))) (b0 a8k d3))) (g5 _))))
     i5)
   (d4 (m5 (PW.pt (a1d (f7 (b1v (K:=K) (n:=1) (huN hr 2)) (pv 2) (a5f (b0 (j8 d3) (b0 (pv 1) d3))) (g5 _)) (a0k (a3b (a1r (f9 (a1t (K:=K)) (by rfl) T.z_isinstance PyProof.Rows.boot_isinstance (b0 (o0 (b4z (K:=K)) (pv 2) d5 (λ_ _=>rfl)) (b0 (b4l T.z_list PyProof.Rows.boot_list rfl) d3))))))))
     (d7 (g9 a7d))
     i5)
   (d4 (m6 (b4m (K:=K) (o0 (b4z (K:=K)) (pv 2) d5 (λ_ _=>rfl))))
   (d7 (g9 (c1e (a0y a3e (i0 G_cells_text hr (by decide) rfl i4 (b0 (p8 (a1y (K:=K)) (by rfl) T.z_list PyProof.Rows.boot_list (b0 (pv 1) d3)) d3)) (pv 0) (g5 _)) (c1b (a0y (b8d (K:=K) (n:=1) (huN hr 2)) (i0 G_cells_read hr (by decide) rfl i4 (b0 (pv 0) d3)) (pv 1) (g5 _))))))))))),?_⟩
  have lm:=a0c;fail "";refine⟨t,rfl,hl,λok g p H1 hp s1 e1=>?_,λok ng H1 s1=>?_,λnt H1 s1=>?_⟩
  ·have sm:=a9t ok
   fail "";refine⟨t,rfl,hl,λ_ _ tp kk p2 H2 htp hkk hp2 s2 et ek e2=>?_,λ_ n _=>absurd g n,λn _=>absurd ok n⟩;have ep:=s2 _ _ e1;fail "";refine b8j ep ?_;fail "";refine b8j ep ?_;fail "";refine⟨Nat.zero_le _,λl hl0=>?_⟩;fail "";refine⟨by show 2<=sizeLine;lia,λtq htq=>?_⟩
   have s3:=(c8 (o:=.lst []) hl0).trans (c8 (o:=.tup [.ref l,.ref p]) htq);have np2:p2≠p:=(d6 e1 hp2).symm;refine b7m (b5o (d6 (c8 hl0 _ _ et) htq) (s3 _ _ et) d0 (a5s (ns:=[]) (d6 ek hl0) (s3 _ _ ek) (c8 htq _ _ d0)) (b2g np2 (s3 _ _ e2) (s3 _ _ ep))) ?_;have et3:=s3 _ _ et;have ek3:=s3 _ _ ek;have e23:=s3 _ _ e2;have ep3:=s3 _ _ ep;generalize upd (upd H2 l (.lst [])) tq (.tup [.ref l,.ref p])=H3 at s3 et3 ek3 e23 ep3 ⊢;fail "";refine a9j (.ty (.lst e23)) rfl kl ?_;fail "";have s4:Same H (upd H3 p2 (.lst [])):=((s1.trans s2).trans s3).set (s1.free hp2);have ep4:upd H3 p2 (.lst []) p=_:=(f6 np2.symm).trans ep3;generalize upd H3 p2 (.lst [])=H4 at s4 ep4 ⊢;fail "";intro q hq;fail "";obtain⟨n,gn⟩:=id g;refine⟨q,p9 t,n,rfl,d0,gn,sm,λH5 s5=>?_⟩;rw[b8n ok];have s05:Same H H5:=(s4.trans (c8 hq)).trans s5;have ep5:H5 p=_:=s5 _ _ (c8 hq _ _ ep4);fail "";rw[show decide (V.str t=V.str t)=true by simp]
   fail "";refine⟨t,rfl,hl,λ_ _ r H6 hr6 s6 e6=>?_,λ_ n _=>absurd g n,λn _=>absurd ok n⟩;fail "";refine c0a (b5q (d6 ep5 hr6).symm e6 (s6 _ _ ep5)) ?_;exact k _ (s05.trans s6)
  ·fail ""
   refine⟨t,rfl,hl,λ_ g=>absurd g ng,λ_ _ tp kk H2 htp hkk s2 et ek=>?_,λn _=>absurd ok n⟩;fail "";have dt:decide (("cells":Str)="text")=false:=by decide
   have dc:decide (("cells":Str)="cells")=true:=by decide
   refine a5r ?_;rw[dt];fail "";refine a5r ?_;rw[dc];fail "";refine a5r ?_;rw[dt];fail "";refine a5r ?_;rw[dc];fail "";refine⟨by show 5<=sizeLine;lia,λl hl0=>?_⟩
   fail "";refine⟨by show 2<=sizeLine;lia,λtq htq=>?_⟩
   have s3:=(c8 (o:=.lst ([false,true,true,false,false].map V.bl)) hl0).trans (c8 (o:=.tup [.ref l,.non]) htq);refine c0a (b2h (d6 (c8 hl0 _ _ et) htq) (s3 _ _ et) d0 (a5s (ns:=[false,true,true,false,false]) (d6 ek hl0) (s3 _ _ ek) (c8 htq _ _ d0)) rfl rfl) ?_;exact k _ ((s1.trans s2).trans s3)
  ·fail ""
   refine⟨t,rfl,hl,λok=>absurd ok nt,λok=>absurd ok nt,λ_ tp kk H2 htp hkk s2 et ek=>?_⟩;fail "";have dt:decide (("text":Str)="text")=true:=by decide
   have dc:decide (("text":Str)="cells")=false:=by decide
   refine a5r ?_;rw[dt];fail "";refine a5r ?_;rw[dt];fail "";refine a5r ?_;rw[dc];fail "";refine⟨by show 5<=sizeLine;lia,λl hl0=>?_⟩
   fail "";refine⟨by show 2<=sizeLine;lia,λtq htq=>?_⟩
   have s3:=(c8 (o:=.lst ([true,false,true,false,false].map V.bl)) hl0).trans (c8 (o:=.tup [.ref l,.non]) htq);refine c0a (b2h (d6 (c8 hl0 _ _ et) htq) (s3 _ _ et) d0 (a5s (ns:=[true,false,true,false,false]) (d6 ek hl0) (s3 _ _ ek) (c8 htq _ _ d0)) rfl rfl) ?_;exact k _ ((s1.trans s2).trans s3)
def a2b:Sp:=λvs H Q _=>∃(a:Addr)(xs:List Int)(n:Nat),vs=[.ref a]/\H a=some (.lst (xs.map V.int))/\GoodRow n xs/\(∀x∈xs,x.natAbs<10 ^ 60)/\∀H',Same H H'->Q (.str (a6q xs)) H'
abbrev a0v:Stmt:=top 56
theorem a0e:g6 ["cells","rows","at"] ["cells"] (d8 a0v):=↑1
theorem a6a(D:DefT K mg "_law_written" a0v ["cells"])(T:Txt K mg cl):FnT P w K mg base "_law_written" 1 ["cells"] a2b:=by
 refine D.fn a0e (λvs H Q E h=>?_) (λf cdv A outer s H vs Q E hr h=>?_)
 ·obtain⟨a,xs,n,rfl,_⟩:=h
  rfl
 ·obtain⟨a,xs,n,rfl,ea,g,hs,k⟩:=h
  refine⟨_,(d4 (f8 (i:=1) a0e.nd rfl (by first|exact Or.inl rfl|exact Or.inr rfl) (j8 d3))
   (d4 (u6 j3 rfl (l9 rfl T.z_range (b0 (d9 a0b (f9 (i6 (K:=K)) (by rfl) T.z_len PySem.boot_len (b0 (pv 0) d3)) d5) d3)) (i7 (i:=2) a0e.nd rfl (by first|exact Or.inl rfl|exact Or.inr rfl))
     (d7 (m6 (t7 (K:=K) (pv 1) (b0 (a0x (K:=K) g4 (b0 (a5h (N:=["number"]) (nt:=1) (fr:=[]) rfl (a0d rfl rfl (by decide +kernel) (by decide +kernel) rfl rfl) (u9 (K:=K) (n6 (a4k (K:=K)) (pv 0) (m4 (d9 m9 d5 (pv 2))) (m4 (d9 i9 (d9 m9 d5 (pv 2)) d5)))) (a0j (by decide)) (λ_ _ _ _ _=>i7 (i:=0) (show(["number"]:List Str).Nodup by decide +kernel) rfl (Or.inl rfl) (Or.inr rfl)) (λ_ _ _ _ _=>(p8 a4d (by rfl) T.z_str PyProof.Rows.boot_str (b0 (pv 0) d3)))) d3)) d3)))))
   (d7 (g9 (a0x (K:=K) g4 (b0 (pv 1) d3)))))),?_⟩
  have lm:=a0c;have gl:=g.len;have g8:=g.n8;fail "";refine⟨Nat.zero_le _,λp hp=>?_⟩;have e2:upd H p (.lst []) a=_:=c8 hp _ _ ea;fail "";rw[List.length_map];refine⟨_,rfl,by lia,by lia,?_⟩
  rw[show((xs.length:Int) / 4).toNat=xs.length / 4 by lia]
  refine m3 (λi σ H'=>∃x2,σ=[some (.ref a),some (.ref p),x2]/\Same H H'/\H' p=some (.lst (((List.range i).map λj=>b6d (a4o xs j)).map V.str))) ⟨_,rfl,c8 hp,d0⟩ ?_ ?_
  ·rintro i σ H2 hi ⟨x2,rfl,s2,e3⟩
   have ea2:=s2 _ _ ea;fail "";refine⟨_,rfl,?_⟩;fail "";refine⟨_,rfl,?_⟩;refine⟨a,_,rfl,SqL.of ea2,λq hq=>?_⟩;rw[b2n (i:=i) (by lia) (by lia)]
   fail "";have hc4:=a7r xs i;have hs4:∀x∈a4o xs i,x.natAbs<10 ^ 60:=λx hx=>hs x (a7q hx);have e4:upd H2 q (.lst ((a4o xs i).map V.int)) p=_:=c8 hq _ _ e3;have eq4:upd H2 q (.lst ((a4o xs i).map V.int)) q=_:=d0;have s4:Same H (upd H2 q (.lst ((a4o xs i).map V.int))):=s2.trans (c8 hq);generalize upd H2 q (.lst ((a4o xs i).map V.int))=H4 at e4 eq4 s4 ⊢;refine a1x (xs:=(a4o xs i).map V.int) (by rw[List.length_map];lia) (MpP H4 (a4o xs i) (λx=>V.str (b3f x)) (λ_=>True)) (λD hD=>MpP.new hD) (λD i acc H' p=>⟨p.len.1,p.len.2,SqL.of (p.2.1 _ _ eq4)⟩) ?_ ?_
   ·intro D i x acc H' hD hx hp
    obtain⟨y,hy,rfl⟩:=a6c hx;fail "";exact⟨y,rfl,a9e (hs4 y (List.mem_of_getElem? hy)),hp.step hD hy trivial rfl (Same.refl _)⟩
   ·intro D acc H5 hD hp5
    obtain⟨e5,s5,_⟩:=hp5.done (List.length_map _);have s5:Same H4 H5:=s5;fail "";have w1:=b0g hs4;refine a2u n5 (ss:=(a4o xs i).map b3f) (e5.trans (by rw[List.map_map];rfl)) (by lia) ?_
    fail "";refine b5k (s5 _ _ e4) (by rw[List.length_map,List.length_map,List.length_range];lia) ?_
    rw[show V.str (Txt.join " " ((a4o xs i).map b3f))=V.str ((λj=>b6d (a4o xs j)) i) from rfl,a6f];exact⟨_,rfl,(s4.trans s5).set hp,d0⟩
  ·rintro σ H2 ⟨x2,rfl,s2,e3⟩
   fail "";have:=a6z hs;refine a2u j6 (ss:=b3z xs) e3 (by lia) ?_
   exact k _ s2
theorem b6j:(0:Int)<10 ^ 59/\(10:Int) ^ 59<2 ^ 200-1/\(5:Int)*10 ^ 58+5*10 ^ 58=10 ^ 59/\(8:Int)<5*10 ^ 58:=by decide
def Small(x:Int):Prop:=-(5*10 ^ 58)<=x/\x<=5*10 ^ 58
def a3s:Sp:=λvs H Q _=>∃(w:Addr)(n:Int),vs=[.ref w,.int n]/\Well H w/\1<=n/\n<=8/\∀(p:Addr)(H':Hp)(row:List Int),H p=none->H' p=some (.lst (row.map V.int))->1<=row.length->(row.length:Int)<=n->(∀x∈row,Small x)->Well H' w->But w H H'->Q (.ref p) H'
abbrev a2m:Stmt:=top 52
theorem v4:g6 ["well","size","way","order","k","far"] ["well","size"] (d8 a2m):=↑1
theorem a8x(D:DefT K mg "_law_order" a2m ["well","size"])(T:Txt K mg cl)(G_law_take:FnT P w K mg base "_law_take" 1 ["well","many"] k6):FnT P w K mg base "_law_order" 2 ["well","size"] a3s:=by
 refine D.fn v4 (λvs H Q E h=>?_) (λf cdv A outer s H vs Q E hr h=>?_)
 ·obtain⟨w,n,rfl,_⟩:=h
  rfl
 ·obtain⟨w,n,rfl,hw,n1,n8,k⟩:=h
  refine⟨_,(d4 (f8 (i:=2) v4.nd rfl (by first|exact Or.inl rfl|exact Or.inr rfl) (i0 G_law_take hr (by decide) rfl i4 (b0 (pv 0) (b0 d5 d3))))
   (d4 (f8 (i:=3) v4.nd rfl (by first|exact Or.inl rfl|exact Or.inr rfl) (j8 d3))
   (d4 (u6 j3 rfl (l9 rfl T.z_range (b0 (o0 (i3 (K:=K)) (j8 (b0 d5 (b0 (pv 1) (b0 (d9 i9 d5 (i0 G_law_take hr (by decide) rfl i4 (b0 (pv 0) (b0 (pv 1) d3)))) d3)))) (pv 2) (λ_ _=>rfl)) d3)) (i7 (i:=4) v4.nd rfl (by first|exact Or.inl rfl|exact Or.inr rfl))
     (
     d4 (f8 (i:=5) v4.nd rfl (by first|exact Or.inl rfl|exact Or.inr rfl) (d9 y0 (i0 G_law_take hr (by decide) rfl i4 (b0 (pv 0) (b0 (d9 b1u d5 d5) d3))) (d9 m9 d5 (d9 b1u d5 d5))))
     (d7 (m6 (t7 (K:=K) (pv 3) (b0 (o0 (i3 (K:=K)) (j8 (b0 (d9 y0 (i0 G_law_take hr (by decide) rfl i4 (b0 (pv 0) (b0 d5 d3))) d5) (b0 (pv 5) d3))) (d9 a0b (i0 G_law_take hr (by decide) rfl i4 (b0 (pv 0) (b0 d5 d3))) d5) (λ_ _=>rfl)) d3))))))
   (d7 (g9 (pv 3)))))),?_⟩
  have h20:2000<=sizeLine:=by decide
  fail "";refine⟨w,3,rfl,hw,by decide,by decide,λway H1 a1 c1 w1 b1=>?_⟩
  fail "";refine⟨Nat.zero_le _,λp hp=>?_⟩;have hp0:H p=none:=b1.free w1 hp;have np:p≠w:=w1.ne hp;fail "";refine⟨w,n,rfl,w1.same (c8 hp),by lia,by lia,λr H2 a2 c2 w2 b2=>?_⟩
  have e2:H2 p=some (.lst (([]:List Int).map V.int)):=b2 p _ d0 np;have bb2:But w H H2:=b1.trans ((But.of (c8 hp)).trans b2);fail "";refine⟨by show 3<=sizeLine;lia,λq hq=>?_⟩
  obtain⟨N,hN,g1,g8⟩:=b9a (ns:=[1,n,1+r]) (Pr:=λv=>1<=v/\v<=n) (by intro v hv;simp only[List.mem_cons,List.not_mem_nil,or_false] at hv;lia) a1 c1
  fail "";refine a1s d0 hN ?_;fail "";refine m3 (n:=N.toNat) (λi σ H'=>∃x4 x5 row,σ=[some (.ref w),some (.int n),some (.int way),some (.ref p),x4,x5]/\H' p=some (.lst ((row:List Int).map V.int))/\row.length=i/\(∀x∈row,Small x)/\Well H' w/\But w H H') ⟨_,_,[],rfl,c8 hq _ _ e2,rfl,by simp,w2.same (c8 hq),bb2.nw hq⟩ ?_ ?_
  ·rintro i σ H3 hi ⟨x4,x5,row,rfl,e3,hl,hs,w3,b3⟩
   fail "";refine⟨w,_,rfl,w3,b6j.1,Int.lt_trans b6j.2.1 (by decide),λr4 H4 a4 c4 w4 b4=>?_⟩
   have c4:r4<10 ^ 59:=c4;have e4:H4 p=_:=b4 p _ e3 np;fail "";refine⟨w,9,rfl,w4,by decide,by decide,λr5 H5 a5 c5 w5 b5=>?_⟩
   have e5:H5 p=_:=b5 p _ e4 np;fail "";refine⟨by show 2<=sizeLine;lia,λq hq=>?_⟩
   have nq:q≠w:=w5.ne hq;have e5':upd H5 q (.lst [.int (r5-4),.int (r4-5*10 ^ 58)]) p=_:=c8 hq _ _ e5;fail "";refine⟨w,5,rfl,w5.same (c8 hq),by decide,by decide,λr6 H6 a6 c6 w6 b6=>?_⟩
   have e6:H6 p=_:=b6 p _ e5' np;have e6q:H6 q=_:=b6 q _ d0 nq;fail "";obtain⟨y,hy,sy⟩:=b9a (ns:=[r5-4,r4-5*10 ^ 58]) (Pr:=Small) (by
    have z1:=b6j.2.2.1;have z2:=b6j.2.2.2;intro v hv;simp only[List.mem_cons,List.not_mem_nil,or_false] at hv;unfold Small;rcases hv with rfl|rfl <;> constructor <;> lia) (r:=r6 / 4) (by lia) (by show r6 / 4<2;lia)
   refine a1s e6q hy ?_;fail "";refine b5k e6 (by rw[List.length_map];lia) ?_
   fail "";refine⟨_,_,row++[y],rfl,by rw[d0,List.map_append];rfl,by rw[List.length_append];show row.length+1=_;lia,?_,?_,?_⟩
   ·intro x hx
    rcases List.mem_append.mp hx with h|h
    ·exact hs x h
    ·rw[List.mem_singleton.mp h];exact sy
   ·obtain⟨a,b,pr,z,zz⟩:=w6
    exact⟨a,b,pr,(f6 np.symm).trans z,zz⟩
   ·have:But w H H6:=b3.trans (b4.trans (b5.trans ((But.of (c8 hq)).trans b6)))
    intro c o e ne;rw[f6 (d6 e hp0)];exact this c o e ne
  ·rintro σ H3 ⟨x4,x5,row,rfl,e3,hl,hs,w3,b3⟩
   fail "";exact k p H3 row hp0 e3 (by lia) (by lia) hs w3 b3
def Rws(H:Hp)(a:Addr)(os:List (List Int)):Prop:=∃ps:List Addr,H a=some (.lst (ps.map V.ref))/\ps.length=os.length/\∀(i:Nat)(p:Addr)(o:List Int),ps[i]?=some p->os[i]?=some o->H p=some (.lst (o.map V.int))
def Tps(H:Hp)(a:Addr)(ts:List (Int×Int×Int)):Prop:=∃ps:List Addr,H a=some (.lst (ps.map V.ref))/\ps.length=ts.length/\∀(i:Nat)(p:Addr)(t:Int×Int×Int),ps[i]?=some p->ts[i]?=some t->H p=some (.tup [.int t.1,.int t.2.1,.int t.2.2])
theorem Rws.same{H H':Hp}{a:Addr}{os:List (List Int)}(h:Rws H a os)(s:Same H H'):Rws H' a os:=by
 obtain⟨ps,e,l,r⟩:=h;exact⟨ps,s _ _ e,l,λi p o hp ho=>s _ _ (r i p o hp ho)⟩
theorem Tps.same{H H':Hp}{a:Addr}{ts:List (Int×Int×Int)}(h:Tps H a ts)(s:Same H H'):Tps H' a ts:=by
 obtain⟨ps,e,l,r⟩:=h;exact⟨ps,s _ _ e,l,λi p o hp ho=>s _ _ (r i p o hp ho)⟩
theorem Rws.pick{H:Hp}{a:Addr}{os:List (List Int)}(h:Rws H a os){i:Nat}(hi:i<os.length):∃xs p,H a=some (.lst xs)/\atI xs (i:Int)=some (.ref p)/\H p=some (.lst ((os[i]).map V.int)):=by
 obtain⟨ps,e,l,r⟩:=h;have hp:i<ps.length:=by lia
 refine⟨_,ps[i],e,?_,r i _ _ (List.getElem?_eq_getElem hp) (List.getElem?_eq_getElem hi)⟩;unfold atI;rw[List.length_map,b8f hp];show(ps.map V.ref)[i]?=_;rw[List.getElem?_map,List.getElem?_eq_getElem hp]
 rfl
theorem Rws.len{H:Hp}{a:Addr}{os:List (List Int)}(h:Rws H a os):∃xs,H a=some (.lst xs)/\xs.length=os.length:=by
 obtain⟨ps,e,l,_⟩:=h;exact⟨_,e,by rw[List.length_map];exact l⟩
theorem Tps.pick{H:Hp}{a:Addr}{ts:List (Int×Int×Int)}(h:Tps H a ts){i:Nat}(hi:i<ts.length):∃xs p,H a=some (.lst xs)/\atI xs (i:Int)=some (.ref p)/\H p=some (.tup [.int ts[i].1,.int ts[i].2.1,.int ts[i].2.2]):=by
 obtain⟨ps,e,l,r⟩:=h;have hp:i<ps.length:=by lia
 refine⟨_,ps[i],e,?_,r i _ _ (List.getElem?_eq_getElem hp) (List.getElem?_eq_getElem hi)⟩;unfold atI;rw[List.length_map,b8f hp];show(ps.map V.ref)[i]?=_;rw[List.getElem?_map,List.getElem?_eq_getElem hp]
 rfl
theorem Tps.len{H:Hp}{a:Addr}{ts:List (Int×Int×Int)}(h:Tps H a ts):∃xs,H a=some (.lst xs)/\xs.length=ts.length:=by
 obtain⟨ps,e,l,_⟩:=h;exact⟨_,e,by rw[List.length_map];exact l⟩
theorem Tps.push{H:Hp}{a q:Addr}{ts:List (Int×Int×Int)}{t:Int×Int×Int}(h:Tps H a ts)(n:H q=none):∃xs,H a=some (.lst xs)/\xs.length=ts.length/\Tps (upd (upd H q (.tup [.int t.1,.int t.2.1,.int t.2.2])) a (.lst (xs++[.ref q]))) a (ts++[t]):=by
 obtain⟨ps,e,l,r⟩:=h;refine⟨_,e,by rw[List.length_map];exact l,ps++[q],by rw[d0,List.map_append];rfl,by rw[List.length_append,List.length_append];show ps.length+1=ts.length+1;lia,?_⟩
 intro i p u hp hu;by_cases hi:i<ps.length
 ·rw[List.getElem?_append_left hi] at hp
  rw[List.getElem?_append_left (by lia)] at hu
  have z:=r i p u hp hu;rw[f6 (λw=>by subst w;rw[e] at z;cases z),f6 (d6 z n)]
  exact z
 ·have e1:i=ps.length:=by
   have:=List.getElem?_eq_some_iff.mp hp;obtain⟨hh,_⟩:=this;rw[List.length_append] at hh;have:i<ps.length+1:=hh;lia
  subst e1;rw[List.getElem?_append_right (Nat.le_refl _)] at hp;rw[List.getElem?_append_right (by lia)] at hu
  simp at hp;rw[l] at hu;simp at hu;subst hp hu;have nq:q≠a:=(d6 e n).symm;rw[f6 nq,d0]
def a0i(j:Nat)(o:List Int)(k:Nat):List (Int×Int×Int):=(List.range k).map λ(i:Nat)=>((j:Int),((o.length:Int)-1-(i:Int)),o.getD i 0)
def a0h(os:List (List Int)):Nat->List (Int×Int×Int)
 | 0=>[]
 | j+1=>a0h os j++a0i j (os.getD j []) (os.getD j []).length
def t9(os:List (List Int)):List (Int×Int×Int):=a0h os os.length
theorem a5i(j:Nat)(o:List Int)(k:Nat):(a0i j o k).length=k:=by unfold a0i;rw[List.length_map,List.length_range]
theorem a8n(j:Nat)(o:List Int)(k:Nat):a0i j o (k+1)=a0i j o k++[((j:Int),((o.length:Int)-1-(k:Int)),o.getD k 0)]:=by
 unfold a0i;rw[List.range_succ,List.map_append]
 rfl
theorem a6i(os:List (List Int))(n:Nat)(h:∀o∈os,o.length<=n)(j:Nat):(a0h os j).length<=n*j:=by
 induction j with
 | zero=>exact Nat.zero_le _
 | succ j ih=>
  show(a0h os j++_).length<=_;rw[List.length_append,a5i,Nat.mul_succ];have:(os.getD j []).length<=n:=by
   by_cases hj:j<os.length
   ·have e:os.getD j []=os[j]:=by rw[List.getD_eq_getElem?_getD,List.getElem?_eq_getElem hj];rfl
    rw[e];exact h _ (List.getElem_mem hj)
   ·rw[List.getD_eq_getElem?_getD,List.getElem?_eq_none (by lia)]
    exact Nat.zero_le _
  lia
def a1i:Sp:=λvs H Q _=>∃(a:Addr)(os:List (List Int)),vs=[.ref a]/\Rws H a os/\os.length<=400/\(∀o∈os,o.length<=8)/\∀p H',H p=none->Same H H'->Tps H' p (t9 os)->Q (.ref p) H'
abbrev a2l:Stmt:=top 53
theorem v3:g6 ["orders","told","number","order","k"] ["orders"] (d8 a2l):=↑1
theorem a8w(D:DefT K mg "_law_parts" a2l ["orders"])(T:Txt K mg cl):FnT P w K mg base "_law_parts" 1 ["orders"] a1i:=by
 refine D.fn v3 (λvs H Q E h=>?_) (λf cdv A outer s H vs Q E hr h=>?_)
 ·obtain⟨a,os,rfl,_⟩:=h
  rfl
 ·obtain⟨a,os,rfl,hR,h400,h8,k⟩:=h
  refine⟨_,(d4 (f8 (i:=1) v3.nd rfl (by first|exact Or.inl rfl|exact Or.inr rfl) (j8 d3))
   (d4 (u6 j3 rfl (l9 rfl T.z_range (b0 (f9 (i6 (K:=K)) (by rfl) T.z_len PySem.boot_len (b0 (pv 0) d3)) d3)) (i7 (i:=2) v3.nd rfl (by first|exact Or.inl rfl|exact Or.inr rfl))
     (
     d4 (f8 (i:=3) v3.nd rfl (by first|exact Or.inl rfl|exact Or.inr rfl) (o0 (i3 (K:=K)) (pv 0) (pv 2) (λ_ _=>rfl)))
     (d7 (u6 j3 rfl (l9 rfl T.z_range (b0 (f9 (i6 (K:=K)) (by rfl) T.z_len PySem.boot_len (b0 (pv 3) d3)) d3)) (i7 (i:=4) v3.nd rfl (by first|exact Or.inl rfl|exact Or.inr rfl))
      (d7 (m6 (t7 (K:=K) (pv 1) (b0 (a5f (b0 (pv 2) (b0 (d9 y0 (d9 y0 (f9 (i6 (K:=K)) (by rfl) T.z_len PySem.boot_len (b0 (pv 3) d3)) d5) (pv 4)) (b0 (o0 (i3 (K:=K)) (pv 3) (pv 4) (λ_ _=>rfl)) d3)))) d3))))))))
   (d7 (g9 (pv 1))))),?_⟩
  have h20:8000<=sizeLine:=by decide
  fail "";refine⟨Nat.zero_le _,λp hp=>?_⟩;have R1:=hR.same (c8 (o:=.lst []) hp);have s1:Same H (upd H p (.lst [])):=c8 hp;have t1:Tps (upd H p (.lst [])) p []:=⟨[],d0,rfl,by simp⟩
  revert R1 s1 t1
  generalize upd H p (.lst [])=H1;intro R1 s1 t1;obtain⟨xs,ex,lx⟩:=R1.len;fail "";rw[lx];refine m3 (n:=(os.length:Int).toNat) (λj σ H'=>∃x2 x3 x4,σ=[some (.ref a),some (.ref p),x2,x3,x4]/\Same H H'/\Tps H' p (a0h os j)) ⟨_,_,_,rfl,s1,t1⟩ ?_ ?_
  ·rintro j σ H2 hj ⟨x2,x3,x4,rfl,s2,t2⟩
   have hj:j<os.length:=by lia
   obtain⟨ys,q,ey,hq,eq⟩:=hR.pick hj;have eo:os.getD j []=os[j]:=by rw[List.getD_eq_getElem?_getD,List.getElem?_eq_getElem hj];rfl
   have l8:os[j].length<=8:=h8 _ (List.getElem_mem hj);have lt:(a0h os j).length<=8*j:=a6i os 8 h8 j;fail "";rw[show(0+(j:Int))=(j:Int) by lia]
   refine a1s (s2 _ _ ey) hq ?_;fail "";refine c2k (s2 _ _ eq) ?_;fail "";rw[List.length_map];refine⟨_,rfl,by lia,by lia,?_⟩
   refine m3 (n:=(os[j].length:Int).toNat) (λi σ H'=>∃x4,σ=[some (.ref a),some (.ref p),some (.int (j:Int)),some (.ref q),x4]/\Same H H'/\Tps H' p (a0h os j++a0i j os[j] i)) ⟨_,rfl,s2,by simpa[a0i] using t2⟩ ?_ ?_
   ·rintro i σ H3 hi ⟨x4,rfl,s3,t3⟩
    have hi:i<os[j].length:=by lia
    have e3:H3 q=_:=s3 _ _ eq;obtain⟨zs,ez,lz⟩:=t3.len;fail "";rw[show(0+(i:Int))=(i:Int) by lia,List.length_map]
    refine a1s e3 (a7t hi) ?_;fail "";refine⟨by show 3<=sizeLine;lia,λr hr=>?_⟩
    obtain⟨zs',ez',_,t4⟩:=t3.push (t:=((j:Int),((os[j].length:Int)-1-(i:Int)),os[j][i])) hr;cases (HO.lst.inj (Option.some.inj (ez.symm.trans ez')));fail "";refine b5k ((f6 (d6 ez hr)).trans ez) (by rw[lz,List.length_append,a5i];lia) ?_
    refine⟨_,rfl,(s3.trans (c8 hr)).set hp,?_⟩;rw[a8n,<- List.append_assoc,show os[j].getD i 0=os[j][i] by rw[List.getD_eq_getElem?_getD,List.getElem?_eq_getElem hi];rfl]
    exact t4
   ·rintro σ H3 ⟨x4,rfl,s3,t3⟩
    refine⟨_,_,_,rfl,s3,?_⟩;show Tps H3 p (a0h os j++a0i j (os.getD j []) (os.getD j []).length);rw[eo]
    rwa [show((os[j].length:Int)).toNat=os[j].length by lia] at t3
  ·rintro σ H2 ⟨x2,x3,x4,rfl,s2,t2⟩
   fail "";refine k p H2 hp s2 ?_
   rwa [show((os.length:Int)).toNat=os.length by lia] at t2
def a2g(ts:List (Int×Int×Int))(n g q:Int):Int×Int×Int:=if 0<=q+n*(a1e n g q-1) then ts.getD (q+n*(a1e n g q-1)).toNat (-1,0,0) else (-1,0,0)
def x0(n:Nat)(ts:List (Int×Int×Int))(f g:Int):Nat->List Int
 | 0=>[]
 | i+1=>x0 n ts f g i++[lmI n f g (0+(i:Int)),(a2g ts n g (0+(i:Int))).1,(a2g ts n g (0+(i:Int))).2.1,(a2g ts n g (0+(i:Int))).2.2]
def a0a(n:Nat)(ts:List (Int×Int×Int))(f g:Int):List Int:=x0 n ts f g n++[-1,-1,0,0]
theorem l6(n:Nat)(ts:List (Int×Int×Int))(f g:Int)(i:Nat):(x0 n ts f g i).length=4*i:=by
 induction i with
 | zero=>rfl
 | succ i ih=>
  show(x0 n ts f g i++_).length=_;rw[List.length_append,ih];show 4*i+4=_;lia
theorem b1g(n:Nat)(ts:List (Int×Int×Int))(f g:Int):(a0a n ts f g).length=4*n+4:=by
 unfold a0a;rw[List.length_append,l6]
 rfl
theorem a9i{xs ys:List Int}{i:Nat}(h:i<xs.length):(xs++ys).getD i 0=xs.getD i 0:=by
 rw[List.getD_eq_getElem?_getD,List.getD_eq_getElem?_getD,List.getElem?_append_left h]
theorem a6l{xs ys:List Int}{i:Nat}(h:xs.length<=i):(xs++ys).getD i 0=ys.getD (i-xs.length) 0:=by
 rw[List.getD_eq_getElem?_getD,List.getD_eq_getElem?_getD,List.getElem?_append_right h]
theorem a9s(n:Nat)(ts:List (Int×Int×Int))(f g:Int)(i q:Nat)(h:q<i):(x0 n ts f g i).getD (4*q) 0=lmI n f g (0+(q:Int)):=by
 induction i with
 | zero=>exact absurd h (by lia)
 | succ i ih=>
  show(x0 n ts f g i++_).getD _ _=_;by_cases hq:q<i
  ·rw[a9i (by rw[l6];lia)]
   exact ih hq
  ·have:q=i:=by lia
   subst this;rw[a6l (by rw[l6];lia),l6,Nat.sub_self]
   rfl
theorem a9u(n:Nat)(ts:List (Int×Int×Int))(f g:Int)(q:Nat)(h:q<n):(a0a n ts f g).getD (4*q) 0=lmI n f g (0+(q:Int)):=by
 unfold a0a;rw[a9i (by rw[l6];lia),a9s n ts f g n q h]
theorem a5t(n:Nat)(ts:List (Int×Int×Int))(f g:Int)(k:Nat):(a0a n ts f g).getD (4*n+k) 0=([-1,-1,0,0]:List Int).getD k 0:=by
 unfold a0a;rw[a6l (by rw[l6];lia),l6,Nat.add_sub_cancel_left]
theorem b8e(n f g p:Int):0<=lmI n f g p/\lmI n f g p<=3:=by
 unfold lmI;split
 ·lia
 ·split <;> lia
theorem a9v{n:Nat}(ts:List (Int×Int×Int))(f g:Int)(n2:2<=n)(n8:n<=8):GoodRow n (a0a n ts f g):=by
 refine⟨n2,n8,b1g n ts f g,λq hq=>?_,λk hk=>?_,λk hk=>?_⟩
 ·rw[a9u n ts f g q hq]
  exact b8e _ _ _ _
 ·rw[a5t]
  have:k=0\/k=1:=by lia
  rcases this with rfl|rfl
  ·show(-1:Int) <= -1/\(-1:Int)<_
   lia
  ·show(-1:Int) <= -1/\(-1:Int)<_
   lia
 ·rw[Nat.add_assoc,a5t]
  have:k=0\/k=1:=by lia
  rcases this with rfl|rfl
  ·exact .inl rfl
  ·exact .inl rfl
theorem b9m{n:Nat}{g:Int}{q:Nat}(n2:2<=n):0+(q:Int)+(n:Int)*(a1e n g (0+(q:Int))-1)<g:=by
 unfold a1e;have h1:=Int.mul_ediv_add_emod (g-(0+(q:Int))+n-1) n;have h2:=Int.emod_nonneg (g-(0+(q:Int))+n-1) (show(n:Int)≠0 by lia)
 rw[Int.mul_sub,Int.mul_one];lia
def a3v:Sp:=λvs H Q _=>∃(n:Nat)(a:Addr)(os:List (List Int))(f g:Int),vs=[.int n,.ref a,.int f,.int g]/\2<=n/\n<=8/\Rws H a os/\os.length<=400/\(∀o∈os,o.length<=8)/\0<=g/\g<=(t9 os).length /\
 ∀l H',H l=none->Same H H'->H' l=some (.lst ((a0a n (t9 os) f g).map V.int))->Q (.ref l) H'
abbrev a2p:Stmt:=top 54
theorem j5:g6 ["size","orders","freed","given","told","cells","marks","place","last","slip"] ["size","orders","freed","given"] (d8 a2p):=↑1
theorem a9a(D:DefT K mg "_law_cells" a2p ["size","orders","freed","given"])(T:Txt K mg cl)(G_law_parts:FnT P w K mg base "_law_parts" 1 ["orders"] a1i)(G_law_marks:FnT P w K mg base "_law_marks" 1 ["size","freed","given"] a3t):FnT P w K mg base "_law_cells" 2 ["size","orders","freed","given"] a3v:=by
 refine D.fn j5 (λvs H Q E h=>?_) (λf cdv A outer s H vs Q E hr h=>?_)
 ·obtain⟨n,a,os,f,g,rfl,_⟩:=h
  rfl
 ·obtain⟨n,a,os,f,g,rfl,n2,n8,hR,h400,h8,g0,g1,k⟩:=h
  refine⟨_,(d4 (f8 (i:=4) j5.nd rfl (by first|exact Or.inl rfl|exact Or.inr rfl) (i0 G_law_parts hr (by decide) rfl i4 (b0 (pv 1) d3)))
   (d4 (f8 (i:=5) j5.nd rfl (by first|exact Or.inl rfl|exact Or.inr rfl) (j8 d3))
   (d4 (f8 (i:=6) j5.nd rfl (by first|exact Or.inl rfl|exact Or.inr rfl) (i0 G_law_marks hr (by decide) rfl i4 (b0 (pv 0) (b0 (pv 2) (b0 (pv 3) d3)))))
   (d4 (u6 j3 rfl (l9 rfl T.z_range (b0 (pv 0) d3)) (i7 (i:=7) j5.nd rfl (by first|exact Or.inl rfl|exact Or.inr rfl))
     (
     d4 (f8 (i:=8) j5.nd rfl (by first|exact Or.inl rfl|exact Or.inr rfl) (d9 i9 (pv 7) (d9 m9 (pv 0) (d9 y0 (d9 a0b (d9 y0 (d9 i9 (d9 y0 (pv 3) (pv 7)) (pv 0)) d5) (pv 0)) d5))))
     (d4 (f8 (i:=9) j5.nd rfl (by first|exact Or.inl rfl|exact Or.inr rfl) (a5f (b0 (b6t b1m d5) (b0 d5 (b0 d5 d3)))))
     (d4 (m5 (f7 b4q (pv 8) d5 (g5 _))
       (d7 (f8 (i:=9) j5.nd rfl (by first|exact Or.inl rfl|exact Or.inr rfl) (o0 (i3 (K:=K)) (pv 4) (pv 8) (λ_ _=>rfl))))
       i5)
     (d7 (f8 (i:=5) j5.nd rfl (by first|exact Or.inl rfl|exact Or.inr rfl) (d9 a8r (d9 a8r (pv 5) (j8 (b0 (o0 (i3 (K:=K)) (pv 6) (pv 7) (λ_ _=>rfl)) d3))) (p8 (a1y (K:=K)) (by rfl) T.z_list PyProof.Rows.boot_list (b0 (pv 9) d3)))))))))
   (d7 (g9 (d9 a8r (pv 5) (j8 (b0 (b6t b1m d5) (b0 (b6t b1m d5) (b0 d5 (b0 d5 d3)))))))))))),?_⟩
  have h20:8000<=sizeLine:=by decide
  fail "";refine⟨a,os,rfl,hR,h400,h8,λtd H1 htd s1 t1=>?_⟩;fail "";refine⟨Nat.zero_le _,λc0 hc0=>?_⟩;fail "";refine⟨n,f,g,rfl,n2,n8,λml H2 hml s2 e2=>?_⟩;have s02:Same H H2:=(s1.trans (c8 hc0)).trans s2;have t2:Tps H2 td (t9 os):=(t1.same (c8 hc0)).same s2;have ec0:H2 c0=some (.lst ((x0 n (t9 os) f g 0).map V.int)):=s2 _ _ d0;have hc00:H c0=none:=s1.free hc0;fail "";refine m3 (n:=(n:Int).toNat) (λi σ H'=>∃cs x7 x8 x9,σ=[some (.int n),some (.ref a),some (.int f),some (.int g),some (.ref td),some (.ref cs),some (.ref ml),x7,x8,x9]/\H cs=none/\Same H H'/\Tps H' td (t9 os)/\H' ml=some (.lst ((b0w n f g).map V.int))/\H' cs=some (.lst ((x0 n (t9 os) f g i).map V.int))) ⟨_,_,_,_,rfl,hc00,s02,t2,e2,ec0⟩ ?_ ?_
  ·rintro i σ H3 hi ⟨cs,x7,x8,x9,rfl,hcs,s3,t3,e3,ec⟩
   have hi:i<n:=by lia
   have lcl:=l6 n (t9 os) f g i;fail "";refine' g_I ?hc ?_
   case hc=>exact⟨by lia,c3m _ (by lia) (by lia)⟩
   fail "";refine⟨by show 3<=sizeLine;lia,λsp0 hsp0=>?_⟩
   refine b2b ?_;refine b9u (by assumption) ?_
   refine a4l (M:=λσ' H'=>∃sl,σ'=[some (.int n),some (.ref a),some (.int f),some (.int g),some (.ref td),some (.ref cs),some (.ref ml),some (.int (0+(i:Int))),some (.int (0+(i:Int)+n*(a1e n g (0+(i:Int))-1))),some (.ref sl)]/\Same H3 H'/\H' sl=some (.tup [.int (a2g (t9 os) n g (0+(i:Int))).1,.int (a2g (t9 os) n g (0+(i:Int))).2.1,.int (a2g (t9 os) n g (0+(i:Int))).2.2])) ?_ ?_
   rotate_left
   ·intro R hR
    fail "";refine u4 (λc=>?_) (λc=>?_)
    ·have lt:=b9m (n:=n) (g:=g) (q:=i) n2
     have c':0<=0+(i:Int)+n*(a1e n g (0+(i:Int))-1):=c;have hlt:(0+(i:Int)+n*(a1e n g (0+(i:Int))-1)).toNat<(t9 os).length:=by lia
     obtain⟨xs,sl,ex,hx,es⟩:=t3.pick hlt;rw[show(((0+(i:Int)+n*(a1e n g (0+(i:Int))-1)).toNat:Nat):Int)=0+(i:Int)+n*(a1e n g (0+(i:Int))-1) by lia] at hx
     fail "";refine a1s (c8 hsp0 _ _ ex) hx ?_;fail "";refine hR _ _ ⟨sl,rfl,c8 hsp0,?_⟩;have e:a2g (t9 os) n g (0+(i:Int))=(t9 os)[(0+(i:Int)+n*(a1e n g (0+(i:Int))-1)).toNat]:=by
      unfold a2g;rw[if_pos c',List.getD_eq_getElem?_getD,List.getElem?_eq_getElem hlt]
      rfl
     rw[e];exact c8 hsp0 _ _ es
    ·fail ""
     refine hR _ _ ⟨sp0,rfl,c8 hsp0,?_⟩;have e:a2g (t9 os) n g (0+(i:Int))=(-1,0,0):=by
      unfold a2g;rw[if_neg];exact c
     rw[e];exact d0
   rintro σ' H4 ⟨sl,rfl,s4,esl⟩;fail "";refine a1s (s4 _ _ e3) (b2r (row:=b0w n f g) (by lia) (by rw[b4y];lia)) ?_
   fail "";refine⟨i8,λp1 hp1=>?_⟩;refine b5j (c8 hp1 _ _ (s4 _ _ ec)) d0 (by rw[List.length_map,lcl];show 4*i+1<=sizeLine;lia) (λp2 hp2=>?_)
   fail "";intro p3 hp3;refine b5j (c8 hp3 _ _ d0) d0 (by rw[List.length_append,List.length_map,lcl];show 4*i+1+3<=sizeLine;lia) (λp4 hp4=>?_)
   fail "";have s5:=c0d hp4 (((s4.trans (c8 hp1)).trans (c8 hp2)).trans (c8 hp3));refine⟨p4,_,_,_,rfl,?_,s3.trans (s5.trans (c8 hp4)),t3.same (s5.trans (c8 hp4)),(s5.trans (c8 hp4)) _ _ e3,?_⟩
   ·exact s3.free (s5.free hp4)
   ·rw[d0]
    have e:(b0w n f g).getD (0+(i:Int)).toNat 0=lmI n f g (0+(i:Int)):=by
     unfold b0w;rw[show(0+(i:Int)).toNat=i by lia,List.getD_eq_getElem?_getD,List.getElem?_map,List.getElem?_range hi]
     rfl
    rw[e];show _=some (HO.lst ((x0 n (t9 os) f g i++_).map V.int));rw[List.map_append,List.append_assoc]
    rfl
  ·rintro σ H3 ⟨cs,x7,x8,x9,rfl,hcs,s3,t3,e3,ec⟩
   have lcl:=l6 n (t9 os) f g (n:Int).toNat;fail "";refine⟨by show 4<=sizeLine;lia,λp hp=>?_⟩
   refine b5j (c8 hp _ _ ec) d0 (by rw[List.length_map,lcl];show 4*(n:Int).toNat+4<=sizeLine;lia) (λq hq=>?_)
   refine k q _ (s3.free ((c8 hp).free hq)) ((s3.trans (c8 hp)).trans (c8 hq)) ?_;rw[d0];unfold a0a;rw[List.map_append,show((n:Int)).toNat=n by lia]
   rfl
def OrdP(w:Addr)(n:Int)(H:Hp)(D:Addr)(i:Nat)(acc:List V)(H':Hp):Prop:=∃(ps:List Addr)(os:List (List Int)),acc=ps.map V.ref/\ps.length=i/\os.length=i/\H' D=some (.lst acc)/\Well H' w/\But w H H'/\(∀o∈os,1<=o.length/\(o.length:Int)<=n/\∀x∈o,Small x) /\
 ∀(j:Nat)(p:Addr)(o:List Int),ps[j]?=some p->os[j]?=some o->p≠D/\p≠w/\H' p=some (.lst (o.map V.int))
theorem OrdP.zero{w D:Addr}{n:Int}{H:Hp}(hw:Well H w)(hD:H D=none):OrdP w n H D 0 [] (upd H D (.lst [])) :=
 ⟨[],[],rfl,rfl,rfl,d0,hw.same (c8 hD),But.of (c8 hD),by simp,by simp⟩
theorem OrdP.has{w D:Addr}{n:Int}{H H':Hp}{i:Nat}{acc:List V}(h:OrdP w n H D i acc H'):H' D=some (.lst acc)/\acc.length=i:=by
 obtain⟨ps,os,rfl,l1,l2,e,_⟩:=h;exact⟨e,by rw[List.length_map];exact l1⟩
theorem OrdP.well{w D:Addr}{n:Int}{H H':Hp}{i:Nat}{acc:List V}(h:OrdP w n H D i acc H'):Well H' w:=by
 obtain⟨ps,os,rfl,l1,l2,e,z,_⟩:=h;exact z
theorem OrdP.step{w D p:Addr}{n:Int}{H H' H3:Hp}{i:Nat}{acc:List V}{row:List Int}(hw0:Well H w)(hD:H D=none)(h:OrdP w n H D i acc H')(hp:H' p=none)(ep:H3 p=some (.lst (row.map V.int)))(l1:1<=row.length)(l2:(row.length:Int)<=n)(sm:∀x∈row,Small x)(w3:Well H3 w)(b3:But w H' H3):
  H3 D=some (.lst acc)/\OrdP w n H D (i+1) (acc++[.ref p]) (upd H3 D (.lst (acc++[.ref p]))):=by
 obtain⟨ps,os,rfl,lp,lo,e,w1,b1,g,r⟩:=h;have nD:D≠w:=hw0.ne hD;have e3:=b3 _ _ e nD;have npD:p≠D:=(d6 e hp).symm;have npw:p≠w:=w1.ne hp;refine⟨e3,ps++[p],os++[row],by rw[List.map_append];rfl,by rw[List.length_append,lp];rfl,by rw[List.length_append,lo];rfl,d0,?_,?_,?_,?_⟩
 ·obtain⟨a,b,c,z,zz⟩:=w3
  exact⟨a,b,c,(f6 nD.symm).trans z,zz⟩
 ·intro c o ec nc
  rw[f6 (d6 ec hD)];exact b3 _ _ (b1 _ _ ec nc) nc
 ·intro o ho
  rcases List.mem_append.mp ho with ho|ho
  ·exact g o ho
  ·rw[List.mem_singleton.mp ho]
   exact⟨l1,l2,sm⟩
 ·intro j q o hq ho
  by_cases hj:j<i
  ·rw[List.getElem?_append_left (by lia)] at hq ho
   obtain⟨n1,n2,z⟩:=r j q o hq ho;exact⟨n1,n2,by rw[f6 n1];exact b3 _ _ z n2⟩
  ·have hj':j=i:=by
    have:=(List.getElem?_eq_some_iff.mp hq).1;rw[List.length_append,lp] at this;have:j<i+1:=this;lia
   subst hj';rw[List.getElem?_append_right (by lia),lp,Nat.sub_self] at hq
   rw[List.getElem?_append_right (by lia),lo,Nat.sub_self] at ho
   cases hq;cases ho;exact⟨npD,npw,by rw[f6 npD];exact ep⟩
def RwsO(w:Addr)(H:Hp)(a:Addr)(os:List (List Int)):Prop:=∃ps:List Addr,H a=some (.lst (ps.map V.ref))/\a≠w/\ps.length=os.length/\∀(i:Nat)(p:Addr)(o:List Int),ps[i]?=some p->os[i]?=some o->p≠w/\H p=some (.lst (o.map V.int))
theorem RwsO.rws{w a:Addr}{H:Hp}{os:List (List Int)}(h:RwsO w H a os):Rws H a os:=by
 obtain⟨ps,e,_,l,r⟩:=h;exact⟨ps,e,l,λi p o hp ho=>(r i p o hp ho).2⟩
theorem RwsO.but{w a:Addr}{H H':Hp}{os:List (List Int)}(h:RwsO w H a os)(b:But w H H'):RwsO w H' a os:=by
 obtain⟨ps,e,n,l,r⟩:=h;exact⟨ps,b _ _ e n,n,l,λi p o hp ho=>⟨(r i p o hp ho).1,b _ _ (r i p o hp ho).2 (r i p o hp ho).1⟩⟩
theorem OrdP.rws{w D:Addr}{n:Int}{H H':Hp}{i:Nat}{acc:List V}(hw0:Well H w)(hD:H D=none)(h:OrdP w n H D i acc H'):∃os:List (List Int),RwsO w H' D os/\os.length=i/\(∀o∈os,1<=o.length/\(o.length:Int)<=n/\∀x∈o,Small x)/\Well H' w/\But w H H':=by
 obtain⟨ps,os,rfl,lp,lo,e,w1,b1,g,r⟩:=h;exact⟨os,⟨ps,e,hw0.ne hD,by lia,λj p o hp ho=>(r j p o hp ho).2⟩,lo,g,w1,b1⟩
theorem l5{row:List Int}{i j:Nat}{v:Int}(h:i≠j):(row.set i v).getD j 0=row.getD j 0:=by
 rw[List.getD_eq_getElem?_getD,List.getD_eq_getElem?_getD,List.getElem?_set_ne h]
theorem a3g{row:List Int}{i:Nat}{v:Int}(h:i<row.length):(row.set i v).getD i 0=v:=by
 rw[List.getD_eq_getElem?_getD,List.getElem?_set_self h]
 rfl
theorem GoodRow.setCard{n:Nat}{row:List Int}(g:GoodRow n row){k:Nat}(hk:k<2){v:Int}(v0:-1<=v)(v1:v<2*(n:Int)):GoodRow n (row.set (4*n+k) v):=by
 have hl:=g.len;refine⟨g.n2,g.n8,by rw[List.length_set];exact hl,λq hq=>?_,λj hj=>?_,λj hj=>?_⟩
 ·rw[l5 (by lia)];exact g.ok.mks q hq
 ·by_cases e:j=k
  ·subst e
   rw[a3g (by lia)]
   exact⟨v0,v1⟩
  ·rw[l5 (by lia)];exact g.ok.cd j hj
 ·rw[l5 (by lia)];exact g.ok.bl j hj
theorem GoodRow.setBell{n:Nat}{row:List Int}(g:GoodRow n row){k:Nat}(hk:k<2){v:Int}(v0:v=0\/v=1):GoodRow n (row.set (4*n+2+k) v):=by
 have hl:=g.len;refine⟨g.n2,g.n8,by rw[List.length_set];exact hl,λq hq=>?_,λj hj=>?_,λj hj=>?_⟩
 ·rw[l5 (by lia)];exact g.ok.mks q hq
 ·rw[l5 (by lia)];exact g.ok.cd j hj
 ·by_cases e:j=k
  ·subst e
   rw[a3g (by lia)]
   exact v0
  ·rw[l5 (by lia)];exact g.ok.bl j hj
theorem GoodRow.setOdd{n:Nat}{row:List Int}(g:GoodRow n row){q r:Nat}(hq:q<n)(r1:1<=r)(r3:r<=3){v:Int}:GoodRow n (row.set (4*q+r) v):=by
 have hl:=g.len;refine⟨g.n2,g.n8,by rw[List.length_set];exact hl,λp hp=>?_,λj hj=>?_,λj hj=>?_⟩
 ·rw[l5 (by lia)];exact g.ok.mks p hp
 ·rw[l5 (by lia)];exact g.ok.cd j hj
 ·rw[l5 (by lia)];exact g.ok.bl j hj
theorem a2t{row:List Int}{i:Nat}{v:Int}:(row.map V.int).set i (.int v)=(row.set i v).map V.int:=by rw[List.map_set]
theorem Well.set{H:Hp}{w c:Addr}{o:HO}(h:Well H w)(n:c≠w):Well (upd H c o) w:=by
 obtain⟨a,b,p,z,q⟩:=h;exact⟨a,b,p,by rw[f6 n.symm];exact z,q⟩
theorem But.set{w c:Addr}{H H':Hp}{o:HO}(b:But w H H')(n:H c=none):But w H (L2.upd H' c o):=λx u e nx=>by
 rw[f6 (d6 e n)];exact b x u e nx
def Ten(x:Int):Prop:=x.natAbs<10 ^ 60
theorem b0i:(5:Nat)*10 ^ 58<10 ^ 60/\(10:Nat) ^ 58<10 ^ 60/\1000<(10:Nat) ^ 60:=by decide
theorem Small.ten{x:Int}(h:Small x):Ten x:=by
 obtain⟨a,b⟩:=h;have c:=b0i.1;unfold Ten;lia
theorem a0n{x:Int}(h:-1000<=x/\x<=1000):Ten x:=by
 have:=b0i.2.2;unfold Ten;lia
theorem b3s{x:Int}(a:1<=x)(b:x<=10 ^ 58):Ten x/\Ten (0-x):=by
 have:=b0i.2.1;unfold Ten;lia
def T3(t:Int×Int×Int):Prop:=Ten t.1/\Ten t.2.1/\Ten t.2.2
theorem b0o{os:List (List Int)}(l:os.length<=400)(h8:∀o∈os,o.length<=8)(hs:∀o∈os,∀x∈o,Small x)(j:Nat)(hj:j<=os.length):∀t∈a0h os j,T3 t:=by
 induction j with
 | zero=>intro t h;cases h
 | succ j ih=>
  intro t h;rcases List.mem_append.mp (show t∈a0h os j++a0i j (os.getD j []) (os.getD j []).length from h) with h|h
  ·exact ih (by lia) t h
  ·have e:os.getD j []=os[j]:=by rw[List.getD_eq_getElem?_getD,List.getElem?_eq_getElem (by lia)];rfl
   rw[e] at h;have mo:os[j]∈os:=List.getElem_mem (by lia)
   have l8:=h8 _ mo;obtain⟨i,hi,rfl⟩:=List.mem_map.mp h;have hi:=List.mem_range.mp hi;refine⟨a0n ⟨by show(-1000:Int)<=j;lia,by show(j:Int)<=1000;lia⟩,a0n ⟨by show(-1000:Int)<=(os[j].length:Int)-1-i;lia,by show(os[j].length:Int)-1-i<=1000;lia⟩,?_⟩
   show Ten (os[j].getD i 0);rw[List.getD_eq_getElem?_getD,List.getElem?_eq_getElem hi];exact(hs _ mo _ (List.getElem_mem hi)).ten
theorem b6n{ts:List (Int×Int×Int)}(h:∀t∈ts,T3 t)(n g q:Int):T3 (a2g ts n g q):=by
 have d:T3 (-1,0,0):=⟨a0n (by decide),a0n (by decide),a0n (by decide)⟩
 unfold a2g;split
 ·rw[List.getD_eq_getElem?_getD]
  cases e:ts[(q+n*(a1e n g q-1)).toNat]? with
  | none=>exact d
  | some t=>exact h t (List.mem_of_getElem? e)
 ·exact d
theorem b1e{ts:List (Int×Int×Int)}(h:∀t∈ts,T3 t)(n:Nat)(f g:Int)(i:Nat):∀x∈x0 n ts f g i,Ten x:=by
 induction i with
 | zero=>intro x hx;cases hx
 | succ i ih=>
  intro x hx;rcases List.mem_append.mp (show x∈x0 n ts f g i++[lmI n f g (0+(i:Int)),(a2g ts n g (0+(i:Int))).1,(a2g ts n g (0+(i:Int))).2.1,(a2g ts n g (0+(i:Int))).2.2] from hx) with hx|hx
  ·exact ih x hx
  ·obtain⟨a,b,c⟩:=b6n h n g (0+(i:Int))
   simp only[List.mem_cons,List.not_mem_nil,or_false] at hx;rcases hx with rfl|rfl|rfl|rfl
   ·have:=b8e n f g (0+(i:Int))
    exact a0n ⟨by lia,by lia⟩
   ·exact a
   ·exact b
   ·exact c
theorem b1f{ts:List (Int×Int×Int)}(h:∀t∈ts,T3 t)(n:Nat)(f g:Int):∀x∈a0a n ts f g,Ten x:=by
 intro x hx;rcases List.mem_append.mp (show x∈x0 n ts f g n++[-1,-1,0,0] from hx) with hx|hx
 ·exact b1e h n f g n x hx
 ·simp only[List.mem_cons,List.not_mem_nil,or_false] at hx
  rcases hx with rfl|rfl|rfl|rfl <;> exact a0n (by decide)
theorem b0k{row:List Int}{i:Nat}{v:Int}(h:∀x∈row,Ten x)(hv:Ten v):∀x∈row.set i v,Ten x:=by
 intro x hx;rcases List.mem_or_eq_of_mem_set hx with hx|rfl
 ·exact h x hx
 ·exact hv
def a3u:Sp:=λvs H Q _=>∃w,vs=[.ref w]/\Well H w/\∀(c:Addr)(n:Nat)(row:List Int)(H':Hp),H c=none->Well H' w->But w H H'->H' c=some (.lst (row.map V.int))->GoodRow n row->(∀x∈row,Ten x)->Q (.ref c) H'
abbrev a2o:Stmt:=top 55
theorem j4:g6 ["well","size","orders","given","freed","cells","k","place"] ["well"] (d8 a2o):=↑1
theorem a8z(D:DefT K mg "_law_drawn" a2o ["well"])(T:Txt K mg cl)(G_law_take:FnT P w K mg base "_law_take" 1 ["well","many"] k6)(G_law_order:FnT P w K mg base "_law_order" 2 ["well","size"] a3s)(G_law_parts:FnT P w K mg base "_law_parts" 1 ["orders"] a1i)(G_law_cells:FnT P w K mg base "_law_cells" 2 ["size","orders","freed","given"] a3v)(G_law_far:FnT P w K mg base "_law_far" 2 ["well"] a6d):FnT P w K mg base "_law_drawn" 3 ["well"] a3u:=by
 refine D.fn j4 (λvs H Q E h=>?_) (λf cdv A outer s H vs Q E hr h=>?_)
 ·obtain⟨w,rfl,_⟩:=h
  rfl
 ·obtain⟨w,rfl,hw,k⟩:=h
  refine⟨_,(d4 (f8 (i:=1) j4.nd rfl (by first|exact Or.inl rfl|exact Or.inr rfl) (d9 i9 d5 (i0 G_law_take hr (by decide) rfl i4 (b0 (pv 0) (b0 d5 d3)))))
   (d4 (a6g (ix:=2) (N:=["k","well","size"]) (nt:=1) (fr:=[0,1]) rfl (b7s (i:=0) (j:=1) rfl rfl (by decide +kernel) (by decide +kernel) rfl rfl rfl rfl rfl rfl rfl rfl rfl rfl rfl rfl) (l9 rfl T.z_range (b0 (i0 G_law_take hr (by decide) rfl i4 (b0 (pv 0) (b0 d5 d3))) d3)) (a0j (by decide)) (λ_ _ _ _ _=>i7 (i:=0) (show(["k","well","size"]:List Str).Nodup by decide +kernel) rfl (Or.inl rfl) (Or.inr rfl)) (λ_ _ _ _ _=>(i0 G_law_order hr (by decide) rfl b9h (b0 (pv 1) (b0 (pv 2) d3)))) j4.nd rfl rfl)
   (d4 (f8 (i:=3) j4.nd rfl (by first|exact Or.inl rfl|exact Or.inr rfl) (i0 G_law_take hr (by decide) rfl i4 (b0 (pv 0) (b0 (d9 i9 (f9 (i6 (K:=K)) (by rfl) T.z_len PySem.boot_len (b0 (i0 G_law_parts hr (by decide) rfl i4 (b0 (pv 2) d3)) d3)) d5) d3))))
   (d4 (f8 (i:=4) j4.nd rfl (by first|exact Or.inl rfl|exact Or.inr rfl) (f9 (a9w rfl) (by rfl) T.z_max PyProof.Rows.boot_max (b0 d5 (b0 (d9 y0 (pv 3) (i0 G_law_take hr (by decide) rfl i4 (b0 (pv 0) (b0 (d9 i9 (pv 1) d5) d3)))) d3))))
   (d4 (f8 (i:=5) j4.nd rfl (by first|exact Or.inl rfl|exact Or.inr rfl) (i0 G_law_cells hr (by decide) rfl i4 (b0 (pv 1) (b0 (pv 2) (b0 (pv 4) (b0 (pv 3) d3))))))
   (d4 (u6 j3 rfl (l9 rfl T.z_range (b0 d5 d3)) (i7 (i:=6) j4.nd rfl (by first|exact Or.inl rfl|exact Or.inr rfl))
     (
     d4 (a3c (d9 y0 (i0 G_law_take hr (by decide) rfl i4 (b0 (pv 0) (b0 (d9 i9 (d9 m9 d5 (pv 1)) d5) d3))) d5) (a3d (pv 5) (d9 i9 (d9 m9 d5 (pv 1)) (pv 6)) y1))
     (d7 (a3c (i0 G_law_take hr (by decide) rfl i4 (b0 (pv 0) (b0 d5 d3))) (a3d (pv 5) (d9 i9 (d9 i9 (d9 m9 d5 (pv 1)) d5) (pv 6)) y1)))))
   (d4 (m5 (f7 a3e (i0 G_law_take hr (by decide) rfl i4 (b0 (pv 0) (b0 d5 d3))) d5 (g5 _))
     (d7 (u6 j3 rfl (l9 rfl T.z_range (b0 (pv 1) d3)) (i7 (i:=7) j4.nd rfl (by first|exact Or.inl rfl|exact Or.inr rfl))
      (d7 (u6 j3 rfl (a8j rfl T.z_range (b0 d5 (b0 d5 d3))) (i7 (i:=6) j4.nd rfl (by first|exact Or.inl rfl|exact Or.inr rfl))
        (d7 (a3c (o0 (i3 (K:=K)) (j8 (b0 (i0 G_law_far hr (by decide) rfl i4 (b0 (pv 0) d3)) (b0 (d9 y0 d5 (i0 G_law_far hr (by decide) rfl i4 (b0 (pv 0) d3))) d3))) (i0 G_law_take hr (by decide) rfl i4 (b0 (pv 0) (b0 d5 d3))) (λ_ _=>rfl)) (a3d (pv 5) (d9 i9 (d9 m9 d5 (pv 7)) (pv 6)) y1)))))))
     i5)
   (d7 (g9 (pv 5)))))))))),?_⟩
  have h20:8000<=sizeLine:=by decide
  fail "";refine⟨w,7,rfl,hw,by decide,by decide,λr1 H1 a1 c1 w1 b1=>?_⟩
  obtain⟨n,en⟩:∃n:Nat,(n:Int)=2+r1:=⟨(2+r1).toNat,by lia⟩
  fail "";rw[<- en];refine⟨w,7,rfl,w1,by decide,by decide,λr2 H2 a2 c2 w2 b2=>?_⟩
  fail "";refine a6p (n:=r2.toNat) (by lia) (OrdP w n H2) (λD hD=>OrdP.zero w2 hD) (λD i acc H' z=>z.has) (λD i acc H' hD hi z=>?_) (λD acc H3 hD z=>?_)
  ·fail ""
   refine⟨w,n,rfl,z.well,by lia,by lia,λp H3 row hp ep l1 l2 sm w3 b3=>?_⟩
   exact z.step w2 hD hp ep l1 l2 sm w3 b3
  obtain⟨os,hR,lo,go_,w3,b3⟩:=z.rws w2 hD;have b03:But w H H3:=(b1.trans b2).trans b3;have h8:∀o∈os,o.length<=8:=λo ho=>by have:=(go_ o ho).2.1;lia
  have lp:(t9 os).length<=8*os.length:=a6i os 8 h8 os.length;have pt:∀t∈t9 os,T3 t:=b0o (by lia) h8 (λo ho=>(go_ o ho).2.2) os.length (Nat.le_refl _)
  fail "";refine⟨D,os,rfl,hR.rws,by lia,h8,λtd H4 htd s4 t4=>?_⟩
  obtain⟨xs,ex,lx⟩:=t4.len;fail "";rw[lx];refine⟨w,_,rfl,w3.same s4,by lia,by lia,λg H5 a5 c5 w5 b5=>?_⟩
  fail "";refine⟨w,_,rfl,w5,by lia,by lia,λr6 H6 a6 c6 w6 b6=>?_⟩
  have b06:But w H H6:=((b03.trans (But.of s4)).trans b5).trans b6;have hR6:=((hR.but (But.of s4)).but b5).but b6;fail "";refine⟨_,_,rfl,?_⟩;fail "";refine⟨n,D,os,_,g,rfl,by lia,by lia,hR6.rws,by lia,h8,a5,by lia,λc H7 hc s7 e7=>?_⟩
  have b07:But w H H7:=b06.trans (But.of s7);have hc0:H c=none:=b06.free w6 hc;have nc:c≠w:=w6.ne hc;have gr:GoodRow n (a0a n (t9 os) (if g-r6 > 0 then g-r6 else 0) g):=a9v _ _ _ (by lia) (by lia)
  have ct:=b1f pt n (if g-r6 > 0 then g-r6 else 0) g;fail "";refine m3 (n:=(2:Int).toNat) (λi σ H'=>∃x6 row,σ=[some (.ref w),some (.int n),some (.ref D),some (.int g),some (.int (if g-r6 > 0 then g-r6 else 0)),some (.ref c),x6,none]/\Well H' w/\But w H H'/\H' c=some (.lst ((row:List Int).map V.int))/\GoodRow n row/\∀x∈row,Ten x) ⟨_,_,rfl,w6.same s7,b07,e7,gr,ct⟩ ?_ ?_
  ·rintro i σ H8 hi ⟨x7,row,rfl,w8,b8,e8,g8,t8⟩
   have hi:i<2:=hi;have hl:=g8.len;fail "";refine⟨w,_,rfl,w8,by lia,by lia,λr9 H9 a9 c9 w9 b9=>?_⟩
   have e9:=b9 _ _ e8 nc;fail "";refine a5q e9 (by rw[List.length_map];exact a2f (by lia) (by lia)) ?_
   rw[a2t,show(4*(n:Int)+(0+(i:Int))).toNat=4*n+i by lia]
   have g10:=g8.setCard hi (v:=r9-1) (by lia) (by lia)
   fail "";refine⟨w,2,rfl,w9.set nc,by decide,by decide,λr11 H11 a11 c11 w11 b11=>?_⟩
   have e11:=b11 _ _ d0 nc;fail "";refine a5q e11 (by rw[List.length_map,List.length_set];exact a2f (by lia) (by lia)) ?_
   rw[a2t,show(4*(n:Int)+2+(0+(i:Int))).toNat=4*n+2+i by lia]
   exact⟨_,_,rfl,w11.set nc,(((b8.trans b9).set hc0).trans b11).set hc0,d0,g10.setBell hi (by lia),b0k (b0k t8 (a0n ⟨by lia,by lia⟩)) (a0n ⟨by lia,by lia⟩)⟩
  ·rintro σ H8 ⟨x6,row,rfl,w8,b8,e8,g8,t8⟩
   fail "";refine⟨w,3,rfl,w8,by decide,by decide,λr9 H9 a9 c9 w9 b9=>?_⟩
   have e9:=b9 _ _ e8 nc;have b09:=b8.trans b9;fail "";refine u4 (λz=>?_) (λz=>?_)
   ·fail ""
    refine m3 (n:=(n:Int).toNat) (λi σ H'=>∃x6 x7 row,σ=[some (.ref w),some (.int n),some (.ref D),some (.int g),some (.int (if g-r6 > 0 then g-r6 else 0)),some (.ref c),x6,x7]/\Well H' w/\But w H H'/\H' c=some (.lst ((row:List Int).map V.int))/\GoodRow n row/\∀x∈row,Ten x) ⟨_,_,_,rfl,w9,b09,e9,g8,t8⟩ ?_ ?_
    ·rintro i σ H10 hi ⟨x6,x7,row,rfl,w10,b10,e10,g10,t10⟩
     have hi:i<n:=by lia
     fail "";refine⟨1,4,rfl,⟨by decide,by decide,by decide,by decide⟩,?_⟩
     refine m3 (lo:=1) (n:=3) (λj σ H'=>∃x6 row,σ=[some (.ref w),some (.int n),some (.ref D),some (.int g),some (.int (if g-r6 > 0 then g-r6 else 0)),some (.ref c),x6,some (.int (0+(i:Int)))]/\Well H' w/\But w H H'/\H' c=some (.lst ((row:List Int).map V.int))/\GoodRow n row/\∀x∈row,Ten x) ⟨_,_,rfl,w10,b10,e10,g10,t10⟩ ?_ ?_
     ·rintro j σ H11 hj ⟨x6,row,rfl,w11,b11,e11,g11,t11⟩
      have hl:=g11.len;fail "";refine⟨w,rfl,w11,λf1 H12 u1 v1 w12 b12=>?_⟩;fail "";refine⟨w,rfl,w12,λf2 H13 u2 v2 w13 b13=>?_⟩;fail "";refine⟨by show 2<=sizeLine;lia,λq hq=>?_⟩
      have nq:q≠w:=w13.ne hq;fail "";refine⟨w,2,rfl,w13.same (c8 hq),by decide,by decide,λr14 H14 a14 c14 w14 b14=>?_⟩
      obtain⟨v,hv,tv⟩:=b9a (ns:=[f1,0-f2]) (Pr:=λv=>Ten v) (by intro v hv;simp only[List.mem_cons,List.not_mem_nil,or_false] at hv;rcases hv with rfl|rfl;exact(b3s u1 v1).1;exact(b3s u2 v2).2) a14 c14
      fail "";refine a1s (b14 _ _ d0 nq) hv ?_;have b1214:=(b12.trans b13).trans ((But.of (c8 hq)).trans b14);have e14:H14 c=_:=b14 _ _ (c8 hq _ _ (b13 _ _ (b12 _ _ e11 nc) nc)) nc;fail "";refine a5q e14 (by rw[List.length_map];exact a2f (by lia) (by lia)) ?_
      rw[a2t,show(4*(0+(i:Int))+(1+(j:Int))).toNat=4*i+(1+j) by lia]
      exact⟨_,_,rfl,w14.set nc,(b11.trans b1214).set hc0,d0,g11.setOdd hi (by lia) (by lia),b0k t11 tv⟩
     ·rintro σ H11 ⟨x6,row,rfl,w11,b11,e11,g11,t11⟩
      exact⟨_,_,_,rfl,w11,b11,e11,g11,t11⟩
    ·rintro σ H10 ⟨x6,x7,row,rfl,w10,b10,e10,g10,t10⟩
     fail "";exact k c n row _ hc0 w10 b10 e10 g10 t10
   ·fail ""
    exact k c n row _ hc0 w9 b09 e9 g8 t8
theorem b8g{z:Str}{r:Int}(h0:0<=r)(h1:r<(z.length:Int)):∃c,atI z.cps.toList r=some c:=by
 rw[j1] at h1;have hr:r.toNat<z.cps.toList.length:=by lia
 refine⟨z.cps.toList[r.toNat],?_⟩;unfold atI;rw[a2f h0 h1];exact List.getElem?_eq_getElem hr
theorem a3i{ss:List Str}{r:Int}(h0:0<=r)(h1:r<ss.length):∃x,x∈ss/\atI (ss.map V.str) r=some (.str x):=by
 have hr:r.toNat<ss.length:=by lia
 refine⟨ss[r.toNat],List.getElem_mem hr,?_⟩;unfold atI;rw[List.length_map,a2f h0 h1];show(ss.map V.str)[r.toNat]?=_;rw[List.getElem?_map,List.getElem?_eq_getElem hr]
 rfl
open Builtin Builtin.Str in
theorem a7o(x:Str)(lo hi:Option Int):(a7p x lo hi).length<=x.length:=by
 unfold a7p;split
 ·exact Nat.le_refl _
 ·rw[j1]
  refine Nat.le_trans (List.length_filterMap_le _ _) ?_;exact sliceIndices_le _ _ _
def a4u:Sp:=λvs H Q _=>∃w,vs=[.ref w]/\Well H w/\∀(x:Str)(H':Hp),x.length=1->Well H' w->But w H H'->Q (.str x) H'
abbrev a3n:Stmt:=top 57
theorem a5a:g6 ["well","signs"] ["well"] (d8 a3n):=↑1
theorem b0t(D:DefT K mg "_law_sign" a3n ["well"])(T:Txt K mg cl)(G_law_take:FnT P w K mg base "_law_take" 1 ["well","many"] k6):FnT P w K mg base "_law_sign" 2 ["well"] a4u:=by
 refine D.fn a5a (λvs H Q E h=>?_) (λf cdv A outer s H vs Q E hr h=>?_)
 ·obtain⟨w,rfl,_⟩:=h
  rfl
 ·obtain⟨w,rfl,hw,k⟩:=h
  refine⟨_,(d4 (f8 (i:=1) a5a.nd rfl (by first|exact Or.inl rfl|exact Or.inr rfl) g4)
   (d7 (g9 (o0 (i3 (K:=K)) (j8 (b0 (o0 b5a (pv 1) (i0 G_law_take hr (by decide) rfl i4 (b0 (pv 0) (b0 (f9 u0 (by rfl) T.z_len PySem.boot_len (b0 (pv 1) d3)) d3))) (λ_ _=>rfl)) (b0 (o0 b5a g4 (i0 G_law_take hr (by decide) rfl i4 (b0 (pv 0) (b0 d5 d3))) (λ_ _=>rfl)) d3))) (i0 G_law_take hr (by decide) rfl i4 (b0 (pv 0) (b0 d5 d3))) (λ_ _=>rfl))))),?_⟩
  fail "";refine⟨_,rfl,by decide,?_⟩
  fail "";refine⟨w,_,rfl,hw,by decide,by decide,λr1 H1 a1 c1 w1 b1=>?_⟩
  obtain⟨s1,hs1⟩:=b8g a1 c1;refine⟨_,r1,s1,rfl,rfl,by decide,hs1,?_⟩
  fail "";refine⟨w,13,rfl,w1,by decide,by decide,λr2 H2 a2 c2 w2 b2=>?_⟩
  have l13:("0123456789- \n":Str).length=13:=rfl;obtain⟨s2,hs2⟩:=b8g (z:="0123456789- \n") a2 (by rw[l13];exact c2)
  refine⟨_,r2,s2,rfl,rfl,by decide,hs2,?_⟩
  fail "";refine⟨by show 2<=sizeLine;decide,λp hp=>?_⟩
  have np:p≠w:=w2.ne hp;fail "";refine⟨w,2,rfl,w2.same (c8 hp),by decide,by decide,λr3 H3 a3 c3 w3 b3=>?_⟩
  have b03:But w H H3:=(b1.trans b2).trans ((But.of (c8 hp)).trans b3);obtain⟨x,hx,hv⟩:=a3i (ss:=[⟨#[s1]⟩,⟨#[s2]⟩]) a3 c3;refine a1s (xs:=([⟨#[s1]⟩,⟨#[s2]⟩]:List Str).map V.str) (b3 _ _ d0 np) hv ?_;refine k x _ ?_ w3 b03;simp only[List.mem_cons,List.not_mem_nil,or_false] at hx;rcases hx with rfl|rfl <;> rfl
def a4w:Sp:=λvs H Q _=>∃(t:Str)(w:Addr),vs=[.str t,.ref w]/\t.length<=50000/\Well H w/\∀(x:Str)(H':Hp),x.length<=2*t.length+1->Well H' w->But w H H'->Q (.str x) H'
abbrev a3p:Stmt:=top 58
theorem a2h:g6 ["text","well","way","at"] ["text","well"] (d8 a3p):=↑1
theorem b0v(D:DefT K mg "_law_bent" a3p ["text","well"])(T:Txt K mg cl)(G_law_take:FnT P w K mg base "_law_take" 1 ["well","many"] k6)(G_law_sign:FnT P w K mg base "_law_sign" 2 ["well"] a4u):FnT P w K mg base "_law_bent" 3 ["text","well"] a4w:=by
 refine D.fn a2h (λvs H Q E h=>?_) (λf cdv A outer s H vs Q E hr h=>?_)
 ·obtain⟨t,w,rfl,_⟩:=h
  rfl
 ·obtain⟨t,w,rfl,hl,hw,k⟩:=h
  refine⟨_,(d4 (f8 (i:=2) a2h.nd rfl (by first|exact Or.inl rfl|exact Or.inr rfl) (i0 G_law_take hr (by decide) rfl i4 (b0 (pv 1) (b0 d5 d3))))
   (d4 (f8 (i:=3) a2h.nd rfl (by first|exact Or.inl rfl|exact Or.inr rfl) (i0 G_law_take hr (by decide) rfl i4 (b0 (pv 1) (b0 (d9 i9 (f9 u0 (by rfl) T.z_len PySem.boot_len (b0 (pv 0) d3)) d5) d3))))
   (d4 (m5 (f7 a3e (pv 2) d5 (g5 _))
     (d7 (g9 (d9 a0z (d9 a0z (n6 a3a (pv 0) z0 (m4 (pv 3))) (i0 G_law_sign hr (by decide) rfl i4 (b0 (pv 1) d3))) (n6 a3a (pv 0) (m4 (pv 3)) z0))))
     i5)
   (d4 (m5 (f7 a3e (pv 2) d5 (g5 _))
     (d7 (g9 (d9 a0z (d9 a0z (n6 a3a (pv 0) z0 (m4 (pv 3))) (i0 G_law_sign hr (by decide) rfl i4 (b0 (pv 1) d3))) (n6 a3a (pv 0) (m4 (d9 i9 (pv 3) d5)) z0))))
     i5)
   (d7 (g9 (d9 a0z (n6 a3a (pv 0) z0 (m4 (pv 3))) (n6 a3a (pv 0) (m4 (d9 i9 (pv 3) d5)) z0)))))))),?_⟩
  have lm:=a0c;fail "";refine⟨w,3,rfl,hw,by decide,by decide,λway H1 a1 c1 w1 b1=>?_⟩
  fail "";refine⟨t,rfl,by lia,?_⟩
  fail "";refine⟨w,_,rfl,w1,by lia,by lia,λat_ H2 a2 c2 w2 b2=>?_⟩
  have b02:=b1.trans b2;have l1:=a7o t none (some at_);have l2:=a7o t (some at_) none;have l3:=a7o t (some (at_+1)) none;fail "";refine u4 (λz=>?_) (λz=>?_)
  ·fail ""
   refine⟨_,rfl,?_⟩;refine a3h (by lia) ?_
   fail "";refine⟨w,rfl,w2,λx H3 hx w3 b3=>?_⟩;refine⟨_,_,rfl,rfl,by lia,?_⟩
   fail "";refine⟨_,rfl,?_⟩;fail "";refine a3h (by lia) ?_
   refine⟨_,_,rfl,rfl,by rw[Str.length_append];lia,?_⟩
   exact k _ _ (by rw[Str.length_append,Str.length_append];lia) w3 (b02.trans b3)
  fail "";refine u4 (λz=>?_) (λz=>?_)
  ·fail ""
   refine⟨_,rfl,?_⟩;refine a3h (by lia) ?_
   fail "";refine⟨w,rfl,w2,λx H3 hx w3 b3=>?_⟩;refine⟨_,_,rfl,rfl,by lia,?_⟩
   fail "";refine⟨_,rfl,?_⟩;fail "";refine a3h (by lia) ?_
   refine⟨_,_,rfl,rfl,by rw[Str.length_append];lia,?_⟩
   exact k _ _ (by rw[Str.length_append,Str.length_append];lia) w3 (b02.trans b3)
  ·fail ""
   refine⟨_,rfl,?_⟩;refine a3h (by lia) ?_
   fail "";refine⟨_,rfl,?_⟩;fail "";refine a3h (by lia) ?_
   refine⟨_,_,rfl,rfl,by lia,?_⟩
   exact k _ _ (by rw[Str.length_append];lia) w2 b02
theorem b5n{ss:List Str}{k:Nat}:(ss.map V.str).eraseIdx k=(ss.eraseIdx k).map V.str:=by
 induction ss generalizing k with
 | nil=>rw[List.map_nil,List.eraseIdx_nil,List.eraseIdx_nil];rfl
 | cons x r ih=>
  cases k with
  | zero=>rfl
  | succ k=>rw[List.map_cons,List.eraseIdx_cons_succ,List.eraseIdx_cons_succ,List.map_cons,ih]
theorem b9p{ss:List Str}{k:Nat}{x:Str}:c2x (ss.map V.str) k (.str x)=(ss.take k++x::ss.drop k).map V.str:=by
 unfold c2x;rw[List.map_append,List.map_cons,List.map_take,List.map_drop]
theorem a6v{ss:List Str}{k:Nat}{x:Str}:(ss.map V.str).set k (.str x)=(ss.set k x).map V.str:=by rw[List.map_set]
def a2c:Sp:=λvs H Q _=>∃(a w:Addr)(ss:List Str),vs=[.ref a,.ref w]/\a≠w/\H a=some (.lst (ss.map V.str))/\1<=ss.length/\wt ss<=200000/\Well H w/\∀(p:Addr)(ss':List Str)(H':Hp),H p=none->H' p=some (.lst (ss'.map V.str))->wt ss'<=3*wt ss->Well H' w->But w H H'->Q (.ref p) H'
abbrev a0w:Stmt:=top 59
theorem n9:g6 ["row","well","way","at","other","made"] ["row","well"] (d8 a0w):=↑1
theorem a6b(D:DefT K mg "_law_shifted" a0w ["row","well"])(T:Txt K mg cl)(G_law_take:FnT P w K mg base "_law_take" 1 ["well","many"] k6):FnT P w K mg base "_law_shifted" 2 ["row","well"] a2c:=by
 refine D.fn n9 (λvs H Q E h=>?_) (λf cdv A outer s H vs Q E hr h=>?_)
 ·obtain⟨a,w,ss,rfl,_⟩:=h
  rfl
 ·obtain⟨a,w,ss,rfl,na,ea,h1,h2,hw,k⟩:=h
  refine⟨_,(d4 (f8 (i:=2) n9.nd rfl (by first|exact Or.inl rfl|exact Or.inr rfl) (i0 G_law_take hr (by decide) rfl i4 (b0 (pv 1) (b0 d5 d3))))
   (d4 (f8 (i:=3) n9.nd rfl (by first|exact Or.inl rfl|exact Or.inr rfl) (i0 G_law_take hr (by decide) rfl i4 (b0 (pv 1) (b0 (f9 (i6 (K:=K)) (by rfl) T.z_len PySem.boot_len (b0 (pv 0) d3)) d3))))
   (d4 (f8 (i:=4) n9.nd rfl (by first|exact Or.inl rfl|exact Or.inr rfl) (i0 G_law_take hr (by decide) rfl i4 (b0 (pv 1) (b0 (f9 (i6 (K:=K)) (by rfl) T.z_len PySem.boot_len (b0 (pv 0) d3)) d3))))
   (d4 (f8 (i:=5) n9.nd rfl (by first|exact Or.inl rfl|exact Or.inr rfl) (p8 (a1y (K:=K)) (by rfl) T.z_list PyProof.Rows.boot_list (b0 (pv 0) d3)))
   (d4 (m5 (f7 a3e (pv 2) d5 (g5 _))
     (d7 (m6 (b4k (K:=K) (pv 5) (b0 (pv 3) d3))))
     (d7 (m5 (f7 a3e (pv 2) d5 (g5 _))
      (d7 (m6 (b9d (K:=K) (pv 5) (b0 (pv 4) (b0 (o0 (i3 (K:=K)) (pv 0) (pv 3) (λ_ _=>rfl)) d3)))))
      (
       d4 (a3c (o0 (i3 (K:=K)) (pv 0) (pv 4) (λ_ _=>rfl)) (a3d (pv 5) (pv 3) y1))
       (d7 (a3c (o0 (i3 (K:=K)) (pv 0) (pv 3) (λ_ _=>rfl)) (a3d (pv 5) (pv 4) y1)))))))
   (d7 (g9 (pv 5)))))))),?_⟩
  have lm:=a0c;have hwl:=a2v ss;fail "";refine⟨w,4,rfl,hw,by decide,by decide,λway H1 a1 c1 w1 b1=>?_⟩
  have e1:H1 a=_:=b1 _ _ ea na;fail "";rw[List.length_map];refine⟨w,_,rfl,w1,by lia,by lia,λat_ H2 a2 c2 w2 b2=>?_⟩
  have e2:H2 a=_:=b2 _ _ e1 na;fail "";rw[List.length_map];refine⟨w,_,rfl,w2,by lia,by lia,λot H3 a3 c3 w3 b3=>?_⟩
  have e3:H3 a=_:=b3 _ _ e2 na;have b03:=(b1.trans b2).trans b3;obtain⟨x1,m1,q1⟩:=a3i a2 c2;obtain⟨x2,m2,q2⟩:=a3i a3 c3;have n1:=a4p m1;have n2:=a4p m2;fail "";intro p hp;have np:p≠w:=w3.ne hp;have npa:a≠p:=d6 e3 hp;have hp0:H p=none:=b03.free w3 hp;have e4:upd H3 p (.lst (ss.map V.str)) a=_:=c8 hp _ _ e3;fail "";refine u4 (λz=>?_) (λz=>?_)
  ·fail ""
   refine b9y d0 a2 (by rw[List.length_map];lia) (by rw[List.length_map];lia) (λy=>?_)
   rw[a3k,b5n];fail "";exact k p _ _ hp0 d0 (by have:=b6h (ss:=ss) (i:=at_.toNat);lia) (w3.same (c8 hp)) (b03.nw hp)
  fail "";refine u4 (λz=>?_) (λz=>?_)
  ·fail ""
   refine a1s e4 q1 ?_;fail "";refine c4b d0 a3 (by rw[List.length_map];lia) (by rw[List.length_map];lia) ?_
   rw[a3k,b9p];fail "";exact k p _ _ hp0 d0 (by rw[c0k];lia) (w3.same (c8 hp)) (b03.nw hp)
  ·fail ""
   refine a1s e4 q2 ?_;fail "";refine a5q d0 (by rw[List.length_map];exact a2f (by lia) (by lia)) ?_
   rw[a3k,a6v];have e5:upd H3 p (.lst ((ss.set at_.toNat x2).map V.str)) a=_:=c8 hp _ _ e3;fail "";refine a1s e5 q1 ?_;fail "";refine a5q d0 (by rw[List.length_map,List.length_set];exact a2f (by lia) (by lia)) ?_
   rw[a3k,a6v];fail "";refine k p _ _ hp0 d0 ?_ (w3.same (c8 hp)) (b03.nw hp);have:=b1k (ss:=ss.set at_.toNat x2) (i:=ot.toNat) (x:=x1);have:=b1k (ss:=ss) (i:=at_.toNat) (x:=x2);lia
def b6m:List Str:=["","00","-0",c0h "9" 60,"1"++c0h "0" 60,"-"++c0h "9" 60,"4","-1","-2","16","2","0","+1","--1"]
theorem b6l:∀x∈b6m,x.length<=61:=by decide +kernel
def a2w:Sp:=λvs H Q _=>∃(t:Str)(w:Addr),vs=[.str t,.ref w]/\t.length<=20000/\Well H w/\∀(x:Str)(H':Hp),x.length<=4*t.length+100->Well H' w->But w H H'->Q (.str x) H'
abbrev a1l:Stmt:=top 60
theorem k7:g6 ["text","well","way","rows","at","words","some"] ["text","well"] (d8 a1l):=↑1
set_option maxHeartbeats 16000000 in
theorem a7g(D:DefT K mg "_law_spoilt" a1l ["text","well"])(T:Txt K mg cl)(G_law_take:FnT P w K mg base "_law_take" 1 ["well","many"] k6)(G_law_bent:FnT P w K mg base "_law_bent" 3 ["text","well"] a4w)(G_law_shifted:FnT P w K mg base "_law_shifted" 2 ["row","well"] a2c):FnT P w K mg base "_law_spoilt" 4 ["text","well"] a2w:=by
 refine D.fn k7 (λvs H Q E h=>?_) (λf cdv A outer s H vs Q E hr h=>?_)
 ·obtain⟨t,w,rfl,_⟩:=h
  rfl
 ·obtain⟨t,w,rfl,hl,hw,k⟩:=h
  refine⟨_,(d4 (f8 (i:=2) k7.nd rfl (by first|exact Or.inl rfl|exact Or.inr rfl) (i0 G_law_take hr (by decide) rfl i4 (b0 (pv 1) (b0 d5 d3))))
   (d4 (m5 (f7 a3e (pv 2) d5 (g5 _))
     (d7 (g9 (i0 G_law_bent hr (by decide) rfl i4 (b0 (pv 0) (b0 (pv 1) d3)))))
     i5)
   (d4 (f8 (i:=3) k7.nd rfl (by first|exact Or.inl rfl|exact Or.inr rfl) (a0l (K:=K) (pv 0) (b0 g4 d3)))
   (d4 (m5 (f7 a3e (pv 2) d5 (g5 _))
     (d7 (g9 (a0x (K:=K) g4 (b0 (i0 G_law_shifted hr (by decide) rfl i4 (b0 (pv 3) (b0 (pv 1) d3))) d3))))
     i5)
   (d4 (f8 (i:=4) k7.nd rfl (by first|exact Or.inl rfl|exact Or.inr rfl) (i0 G_law_take hr (by decide) rfl i4 (b0 (pv 1) (b0 (f9 (i6 (K:=K)) (by rfl) T.z_len PySem.boot_len (b0 (pv 3) d3)) d3))))
   (d4 (f8 (i:=5) k7.nd rfl (by first|exact Or.inl rfl|exact Or.inr rfl) (a0l (K:=K) (o0 (i3 (K:=K)) (pv 3) (pv 4) (λ_ _=>rfl)) (b0 g4 d3)))
   (d4 (m5 (f7 a3e (pv 2) d5 (g5 _))
     (d7 (f8 (i:=5) k7.nd rfl (by first|exact Or.inl rfl|exact Or.inr rfl) (i0 G_law_shifted hr (by decide) rfl i4 (b0 (pv 5) (b0 (pv 1) d3)))))
     (
     @d4 _ _ _ _ _ (@f8 _ _ 6 _ _ _ _ k7.nd rfl (by first|exact Or.inl rfl|exact Or.inr rfl) (@j8 _ _ _ _ (@b0 _ _ _ _ _ g4 (@b0 _ _ _ _ _ g4 (@b0 _ _ _ _ _ g4 (@b0 _ _ _ _ _ (d9 b0p g4 d5) (@b0 _ _ _ _ _ (d9 a0z g4 (d9 b0p g4 d5)) (@b0 _ _ _ _ _ (d9 a0z g4 (d9 b0p g4 d5)) (@b0 _ _ _ _ _ g4 (@b0 _ _ _ _ _ g4 (@b0 _ _ _ _ _ g4 (@b0 _ _ _ _ _ g4 (@b0 _ _ _ _ _ g4 (@b0 _ _ _ _ _ g4 (@b0 _ _ _ _ _ g4 (@b0 _ _ _ _ _ g4 (@d3 _) rfl) rfl) rfl) rfl) rfl) rfl) rfl) rfl) rfl) rfl) rfl) rfl) rfl) rfl)) (by rfl) (by first|exact .inl rfl|exact .inr rfl))
     (d7 (a3c (o0 (i3 (K:=K)) (pv 6) (i0 G_law_take hr (by decide) rfl i4 (b0 (pv 1) (b0 d5 d3))) (λ_ _=>rfl)) (a3d (pv 5) (i0 G_law_take hr (by decide) rfl i4 (b0 (pv 1) (b0 (f9 (i6 (K:=K)) (by rfl) T.z_len PySem.boot_len (b0 (pv 5) d3)) d3))) y1)))))
   (d4 (a3c (a0x (K:=K) g4 (b0 (pv 5) d3)) (a3d (pv 3) (pv 4) y1))
   (d7 (g9 (a0x (K:=K) g4 (b0 (pv 3) d3)))))))))))),?_⟩
  have lm:=a0c;fail "";refine⟨w,4,rfl,hw,by decide,by decide,λway H1 a1 c1 w1 b1=>?_⟩
  fail "";refine u4 (λz=>?_) (λz=>?_)
  ·fail ""
   refine⟨t,w,rfl,by lia,w1,λx H2 hx w2 b2=>?_⟩
   exact k x _ (by lia) w2 (b1.trans b2)
  clear z;fail "";refine a1w j6 (by lia) (λp hp=>?_)
  have np:p≠w:=w1.ne hp;have hp0:H p=none:=b1.free w1 hp;have wr:=a0o (x:=t) j6;have wl:=a2v (Txt.split t "\n");have r1:1<=(Txt.split t "\n").length:=by
   cases e:Txt.split t "\n" with
   | nil=>exact absurd e (a4j t "\n")
   | cons a r=>rw[List.length_cons];lia
  have w2:=w1.same (c8 (o:=.lst ((Txt.split t "\n").map V.str)) hp);have b02:But w H (upd H1 p (.lst ((Txt.split t "\n").map V.str))):=b1.nw hp;have e2:upd H1 p (.lst ((Txt.split t "\n").map V.str)) p=_:=d0;generalize upd H1 p (.lst ((Txt.split t "\n").map V.str))=H2 at w2 b02 e2 ⊢;clear w1 b1 hp;generalize Txt.split t "\n" = rows at *;fail "";refine u4 (λz=>?_) (λz=>?_)
  ·fail ""
   refine⟨p,w,rows,rfl,np,e2,r1,by lia,w2,λq ss' H3 hq e3 h3 w3 b3=>?_⟩
   have jl:=a5o j6 ss';fail "";refine a2u j6 e3 (by lia) ?_
   exact k _ _ (by lia) w3 (b02.trans b3)
  clear z;fail "";rw[List.length_map];refine⟨w,_,rfl,w2,by lia,by lia,λat_ H3 a3 c3 w3 b3=>?_⟩
  have e3:H3 p=_:=b3 _ _ e2 np;have b03:=b02.trans b3;obtain⟨row,mr,hrow⟩:=a3i a3 c3;have lr:=a4p mr;fail "";refine a1s e3 hrow ?_;fail "";refine a1w n5 (by lia) (λq hq=>?_)
  have nq:q≠w:=w3.ne hq;have npq:p≠q:=d6 e3 hq;have hq0:H q=none:=b03.free w3 hq;have ww:=a0o (x:=row) n5;have wl2:=a2v (Txt.split row " ");have r2:1<=(Txt.split row " ").length:=by
   cases e:Txt.split row " " with
   | nil=>exact absurd e (a4j row " ")
   | cons a r=>rw[List.length_cons];lia
  refine b2b ?_;refine b9u (by assumption) ?_
  have w4:=w3.same (c8 (o:=.lst ((Txt.split row " ").map V.str)) hq);have b04:But w H (upd H3 q (.lst ((Txt.split row " ").map V.str))):=b03.nw hq;have e4:upd H3 q (.lst ((Txt.split row " ").map V.str)) q=_:=d0;have p4:upd H3 q (.lst ((Txt.split row " ").map V.str)) p=_:=c8 hq _ _ e3;generalize upd H3 q (.lst ((Txt.split row " ").map V.str))=H4 at w4 b04 e4 p4 ⊢;clear hrow;generalize Txt.split row " " = words at *;refine a4l (M:=λσ' H'=>∃q' ss' x6,σ'=[some (.str t),some (.ref w),some (.int way),some (.ref p),some (.int at_),some (.ref q'),x6]/\H' q'=some (.lst (ss'.map V.str))/\wt ss'<=3*wt words+62/\Well H' w/\But w H H'/\H' p=some (.lst (rows.map V.str))) ?_ ?_
  ·rintro σ' H5 ⟨q',ss',x6,rfl,e5,h5,w5,b5,p5⟩
   have jl:=a5o n5 ss';fail "";refine a2u n5 e5 (by lia) ?_
   fail "";refine a5q p5 (by rw[List.length_map];exact a2f (by lia) (by lia)) ?_
   rw[a6v];have ws:=b1k (ss:=rows) (i:=at_.toNat) (x:=Txt.join " " ss');have jl2:=a5o j6 (rows.set at_.toNat (Txt.join " " ss'));fail "";refine a2u j6 d0 (by lia) ?_
   exact k _ _ (by lia) (w5.set np) (b5.set hp0)
  intro R hR;fail "";refine u4 (λz=>?_) (λz=>?_)
  ·fail ""
   refine⟨q,w,words,rfl,nq,e4,r2,by lia,w4,λq' ss' H5 hq' e5 h5 w5 b5=>?_⟩
   fail "";exact hR _ _ ⟨q',ss',_,rfl,e5,by lia,w5,b04.trans b5,b5 _ _ p4 np⟩
  ·fail ""
   refine⟨_,_,rfl,rfl,by decide,by decide,by decide,by decide,by decide,?_⟩
   fail "";refine⟨_,_,rfl,rfl,by decide,by decide,by decide,by decide,by decide,?_⟩
   fail "";refine⟨_,_,rfl,rfl,by decide,?_⟩
   fail "";refine⟨_,_,rfl,rfl,by decide,by decide,by decide,by decide,by decide,?_⟩
   fail "";refine⟨_,_,rfl,rfl,by decide,?_⟩
   fail "";refine⟨by show 14<=sizeLine;lia,λu hu=>?_⟩
   have w5:=w4.same (c8 (o:=.lst (b6m.map V.str)) hu);have b05:But w H (upd H4 u (.lst (b6m.map V.str))):=b04.nw hu;have nu:u≠w:=w4.ne hu;have u5:upd H4 u (.lst (b6m.map V.str)) u=_:=d0;have e5:upd H4 u (.lst (b6m.map V.str)) q=_:=c8 hu _ _ e4;have p5:upd H4 u (.lst (b6m.map V.str)) p=_:=c8 hu _ _ p4;show b0z _ _ _ (upd H4 u (.lst (b6m.map V.str))) _;generalize upd H4 u (.lst (b6m.map V.str))=H5 at w5 b05 u5 e5 p5 ⊢;fail "";refine⟨w,14,rfl,w5,by decide,by decide,λr6 H6 a6 c6 w6 b6=>?_⟩
   obtain⟨x,mx,hx⟩:=a3i (ss:=b6m) a6 c6;have lx:=b6l x mx;refine a1s (b6 _ _ u5 nu) hx ?_;have e6:H6 q=_:=b6 _ _ e5 nq;have p6:H6 p=_:=b6 _ _ p5 np;fail "";rw[List.length_map];refine⟨w,_,rfl,w6,by lia,by lia,λr7 H7 a7 c7 w7 b7=>?_⟩
   have e7:H7 q=_:=b7 _ _ e6 nq;have p7:H7 p=_:=b7 _ _ p6 np;fail "";refine a5q e7 (by rw[List.length_map];exact a2f (by lia) (by lia)) ?_
   rw[a6v];have ws:=b1k (ss:=words) (i:=r7.toNat) (x:=x);exact hR _ _ ⟨q,_,_,rfl,d0,by lia,w7.set nq,(((b05.trans b6).trans b7)).set hq0,(f6 npq).trans p7⟩
theorem a5b{H H1 H2:Hp}{w:Addr}(s:Same H H1)(n:H w=none)(b:But w H1 H2):Same H H2:=λx o e=>b x o (s x o e) (d6 e n)
abbrev a6y:Stmt:=top 65
theorem a3z:g6 ["script","k","well","cells","handed","text","turn"] ["script"] (d8 a6y):=↑1
set_option maxHeartbeats 16000000 in
theorem c1j{fa:Addr}{fd:FuncData}(D:Fun K "law" "law" a6y fa fd)(T:Txt K mg cl)(ks:kitOne K (.type "str") (.type "str")=some true)(G_law_take:FnT P w K mg base "_law_take" 1 ["well","many"] k6)(G_law_well:FnT P w K mg base "_law_well" 1 ["script","k"] (a4t K))(G_law_drawn:FnT P w K mg base "_law_drawn" 3 ["well"] a3u)(G_cells_text:FnT P w K mg base "cells_text" 6 ["cells"] a0p)(G_law_written:FnT P w K mg base "_law_written" 1 ["cells"] a2b)(G_law_right:FnT P w K mg base "_law_right" 8 ["text"] a3r)(G_law_spoilt:FnT P w K mg base "_law_spoilt" 4 ["text","well"] a2w):b6c P w K mg base (CXK P w) 9 fa fd ["script"] (b1p K):=by
 refine D.okX a3z (λvs H Q E h=>?_) (λcdv A outer s H vs Q E hr h=>?_)
 ·obtain⟨a,ns,rfl,_⟩:=h
  rfl
 ·obtain⟨a,ns,rfl,hS,hl,k⟩:=h
  refine⟨_,(d4 (u6 j3 rfl (l9 rfl T.z_range (b0 (f9 (a9w rfl) (by rfl) T.z_max PyProof.Rows.boot_max (b0 d5 (b0 (f9 (b5y rfl) (by rfl) T.z_min PyProof.Rows.boot_min (b0 d5 (b0 (f9 (i6 (K:=K)) (by rfl) T.z_len PySem.boot_len (b0 (pv 0) d3)) d3))) d3))) d3)) (i7 (i:=1) a3z.nd rfl (by first|exact Or.inl rfl|exact Or.inr rfl))
     (
     d4 (f8 (i:=2) a3z.nd rfl (by first|exact Or.inl rfl|exact Or.inr rfl) (i0 G_law_well hr (by decide) rfl i4 (b0 (pv 0) (b0 (pv 1) d3))))
     (d4 (f8 (i:=3) a3z.nd rfl (by first|exact Or.inl rfl|exact Or.inr rfl) (i0 G_law_drawn hr (by decide) rfl i4 (b0 (pv 2) d3)))
     (d4 (f8 (i:=4) a3z.nd rfl (by first|exact Or.inl rfl|exact Or.inr rfl) (p8 (a1y (K:=K)) (by rfl) T.z_list PyProof.Rows.boot_list (b0 (pv 3) d3)))
     (d4 (f8 (i:=5) a3z.nd rfl (by first|exact Or.inl rfl|exact Or.inr rfl) (i0 G_cells_text hr (by decide) rfl i4 (b0 (pv 4) d3)))
     (d4 (m5 (PW.pt (a1d (a3b (a1r (f9 (a1t (K:=K)) (by rfl) T.z_isinstance PyProof.Rows.boot_isinstance (b0 (pv 5) (b0 (b4l T.z_str PyProof.Rows.boot_str rfl) d3))))) (a1d (f7 b3b (pv 5) (i0 G_law_written hr (by decide) rfl i4 (b0 (pv 3) d3)) (g5 _)) (a1d (f7 (b1v (K:=K) (n:=0) (huN hr 1)) (pv 4) (pv 3) (g5 _)) (a0k (a3b (a1r (i0 G_law_right hr (by decide) rfl i4 (b0 (pv 5) d3)))))))))
       (d7 (g9 a7d))
       i5)
     (d4 (m5 (PW.pt (a1d (a3b (a1r (i0 G_law_right hr (by decide) rfl i4 (b0 (d9 a0z (pv 5) g4) d3)))) (a1d (a3b (a1r (i0 G_law_right hr (by decide) rfl i4 (b0 (d9 a0z g4 (pv 5)) d3)))) (a0k (a3b (a1r (i0 G_law_right hr (by decide) rfl i4 (b0 g4 d3))))))))
       (d7 (g9 a7d))
       i5)
     (d4 (u6 j3 rfl (l9 rfl T.z_range (b0 (d9 i9 d5 (i0 G_law_take hr (by decide) rfl i4 (b0 (pv 2) (b0 d5 d3)))) d3)) (i7 (i:=6) a3z.nd rfl (by first|exact Or.inl rfl|exact Or.inr rfl))
       (d7 (f8 (i:=5) a3z.nd rfl (by first|exact Or.inl rfl|exact Or.inr rfl) (i0 G_law_spoilt hr (by decide) rfl i4 (b0 (pv 5) (b0 (pv 2) d3))))))
     (d7 (m5 (a3b (a1r (i0 G_law_right hr (by decide) rfl i4 (b0 (pv 5) d3))))
      (d7 (g9 a7d))
      i5))))))))))
   (d7 (g9 a7d))),?_⟩
  have lm:=a0c;have hlen:(ns.map V.int).length=ns.length:=List.length_map _;fail "";refine⟨a,_,rfl,.inl hS,?_⟩;fail "";rw[hlen];refine⟨_,_,rfl,?_⟩;fail "";refine⟨_,_,rfl,?_⟩;fail "";refine m3 (λi σ H'=>∃x1 x2 x3 x4 x5 x6,σ=[some (.ref a),x1,x2,x3,x4,x5,x6]/\Same H H') ⟨_,_,_,_,_,_,rfl,Same.refl _⟩ ?_ ?_
  ·rintro i σ H1 hi ⟨x1,x2,x3,x4,x5,x6,rfl,s1⟩
   have hi:i<20:=by
    have:(if (if (ns.length:Int)<20 then (ns.length:Int) else 20) > 1 then (if (ns.length:Int)<20 then (ns.length:Int) else 20) else 1).toNat<=20:=by split <;> (try split) <;> lia
    lia
   fail "";refine⟨a,ns,i,by rw[show(0+(i:Int))=(i:Int) by lia],s1.seq hS,by lia,λw0 H2 n0 s2 hw2=>?_⟩
   have hw0:H w0=none:=s1.free n0;have s02:=s1.trans s2;fail "";refine⟨w0,rfl,hw2,λc n row H3 hc w3 b3 ec g tn=>?_⟩;have s03:=a5b s02 hw0 b3;have gl:=g.len;have g8:=g.n8;have nc:c≠w0:=hw2.ne hc;fail "";intro hd hhd;have nh:c≠hd:=d6 ec hhd;have ec4:upd H3 hd (.lst (row.map V.int)) c=_:=c8 hhd _ _ ec;have eh4:upd H3 hd (.lst (row.map V.int)) hd=_:=d0;have s04:Same H (upd H3 hd (.lst (row.map V.int))):=s03.trans (c8 hhd);have w4:=w3.same (c8 (o:=.lst (row.map V.int)) hhd);generalize upd H3 hd (.lst (row.map V.int))=H4 at ec4 eh4 s04 w4 ⊢;fail "";refine⟨hd,row,n,rfl,eh4,g,tn,λH5 s5=>?_⟩;have tl:=b3l tn;generalize ht:a6q row=t at tl ⊢;have ec5:H5 c=_:=s5 _ _ ec4;have eh5:H5 hd=_:=s5 _ _ eh4;fail "";refine a9j (.ty (.str _)) rfl ks ?_;fail "";refine⟨c,row,n,rfl,ec5,g,tn,λH6 s6=>?_⟩;rw[ht];fail "";rw[show(!decide (V.str t=V.str t))=false by simp]
   fail "";refine b7m (b2g nh.symm (s6 _ _ eh5) (s6 _ _ ec5)) ?_;fail "";have hl:t.length<=2300:=by lia
   refine⟨t,rfl,by lia,λH7 s7=>?_⟩
   fail "";refine⟨_,_,rfl,rfl,by rw[j6];lia,?_⟩
   fail "";refine⟨_,rfl,by rw[Str.length_append,j6];lia,λH8 s8=>?_⟩
   fail "";refine⟨_,_,rfl,rfl,by rw[j6];lia,?_⟩
   fail "";refine⟨_,rfl,by rw[Str.length_append,j6];lia,λH9 s9=>?_⟩
   fail "";refine⟨_,rfl,by decide,λH10 s10=>?_⟩
   have s410:=(((((s5.trans s6).trans s7).trans s8).trans s9).trans s10);have w10:=w4.same s410;have s010:=s04.trans s410;fail "";refine⟨w0,2,rfl,w10,by decide,by decide,λr H11 a11 c11 w11 b11=>?_⟩
   have s011:=a5b s010 hw0 b11;fail "";refine m3 (λj σ H'=>∃x x6,σ=[some (.ref a),some (.int (0+(i:Int))),some (.ref w0),some (.ref c),some (.ref hd),some (.str x),x6]/\x.length<=37300/\(j=0->x.length<=2300)/\(j=1->x.length<=9300)/\Well H' w0/\Same H H') ⟨_,_,rfl,by lia,λ_=>hl,λz=>absurd z (by decide),w11,s011⟩ ?_ ?_
   ·rintro j σ H12 hj ⟨x,x6,rfl,lx,l0,l1,w12,s12⟩
    have hj:j=0\/j=1:=by lia
    have lx2:x.length<=9300:=by
     rcases hj with rfl|rfl
     ·have:=l0 rfl;lia
     ·exact l1 rfl
    fail "";refine⟨x,w0,rfl,by lia,w12,λy H13 hy w13 b13=>?_⟩
    fail "";refine⟨y,_,rfl,by lia,λz=>by lia,λz=>?_,w13,a5b s12 hw0 b13⟩
    have:=l0 (by lia)
    lia
   ·rintro σ H12 ⟨x,x6,rfl,lx,l0,l1,w12,s12⟩
    fail "";refine⟨x,rfl,by lia,λH13 s13=>?_⟩
    fail "";exact⟨_,_,_,_,_,_,rfl,s12.trans s13⟩
  ·rintro σ H1 ⟨x1,x2,x3,x4,x5,x6,rfl,s1⟩
   fail "";exact k _
end
section
open PySem PySem.Spec L2
section
variable{P:Program}{w:World}{base:Heap}{K:Frag}{mg:Str->Option Value}
inductive AtF(K:Frag)(f:Addr)(x q:Str)(st:Stmt):Prop
 | of {oc:Value} {od:Option Addr} {kV dc pm cd ct:Value} {an:Option Addr} {sl:Array (Option Value)} (l:K.lookup f=some ⟨oc,od,.func (PySem.W.fnOf x q (v9 st) (u3 st) (d8 st) .none kV dc pm an cd ct),sl⟩) (c:codeIn K cd q=true) (k:keepIn K (.ref f)=true):AtF K f x q st
abbrev BA(x q:Str)(st:Stmt)(ps:List Str):Prop:=∀(kV doc pm:Value)(an:Option Addr)(cdv ct:Value)(us:List Value),us.length=ps.length->bindArgs (PySem.W.fnOf x q (v9 st) (u3 st) (d8 st) .none kV doc pm an cdv ct) ⟨us,[]⟩=pure (ps.zip us)
theorem ba0{β:Type}{F G:List Value->β}(h:F []=G [])(us:List Value)(e:us.length=0):F us=G us:=by
 cases us with
 | nil=>exact h
 | cons=>cases e
theorem ba1{β:Type}{F G:List Value->β}(h:∀a,F [a]=G [a])(us:List Value)(e:us.length=1):F us=G us:=by
 cases us with
 | nil=>cases e
 | cons a t=>exact ba0 (F:=λt=>F (a::t)) (G:=λt=>G (a::t)) (h a) t (Nat.succ.inj e)
theorem ba2{β:Type}{F G:List Value->β}(h:∀a b,F [a,b]=G [a,b])(us:List Value)(e:us.length=2):F us=G us:=by
 cases us with
 | nil=>cases e
 | cons a t=>exact ba1 (F:=λt=>F (a::t)) (G:=λt=>G (a::t)) (h a) t (Nat.succ.inj e)
theorem ba3{β:Type}{F G:List Value->β}(h:∀a b c,F [a,b,c]=G [a,b,c])(us:List Value)(e:us.length=3):F us=G us:=by
 cases us with
 | nil=>cases e
 | cons a t=>exact ba2 (F:=λt=>F (a::t)) (G:=λt=>G (a::t)) (h a) t (Nat.succ.inj e)
theorem ba4{β:Type}{F G:List Value->β}(h:∀a b c d,F [a,b,c,d]=G [a,b,c,d])(us:List Value)(e:us.length=4):F us=G us:=by
 cases us with
 | nil=>cases e
 | cons a t=>exact ba3 (F:=λt=>F (a::t)) (G:=λt=>G (a::t)) (h a) t (Nat.succ.inj e)
theorem AtF.t{h:Heap}{x:Str}{st:Stmt}{ps:List Str}{f:Addr}(X:K.In h)(G:h.Ns mainGlobals mg)(a:nsIn K mainGlobals x=some (some (.ref f)))(l:AtF K f x x st)(hb:BA x x st ps):DefT K mg x st ps :=
 by cases l with|of l c k=>exact .mk' X G a l c k hb
inductive AtG(K:Frag)(x:Str)(st:Stmt):Prop
 | mk {f:Addr} (d:nsIn K mainGlobals x=some (some (.ref f))) (l:AtF K f x x st):AtG K x st
theorem AtG.of{x:Str}{st:Stmt}{f:Addr}{oc:Value}{od:Option Addr}{kV dc pm cd ct:Value}{an:Option Addr}{sl:Array (Option Value)}(d:nsIn K mainGlobals x=some (some (.ref f)))(l:K.lookup f=some ⟨oc,od,.func (PySem.W.fnOf x x (v9 st) (u3 st) (d8 st) .none kV dc pm an cd ct),sl⟩)(c:codeIn K cd x=true)(k:keepIn K (.ref f)=true):AtG K x st:=⟨d,.of l c k⟩
theorem AtG.t{h:Heap}{x:Str}{st:Stmt}{ps:List Str}(l:AtG K x st)(X:K.In h)(G:h.Ns mainGlobals mg)(hb:BA x x st ps):DefT K mg x st ps:=by cases l with|mk d l=>exact AtF.t X G d l hb
inductive AtM(K:Frag)(C:Addr)(m q:Str)(st:Stmt):Prop
 | mk {f:Addr} (d:findIn K (.ref C) m=some (some (.ref f))) (i:isFn K (.ref f)=true) (l:AtF K f m q st):AtM K C m q st
theorem AtM.of{C:Addr}{m q:Str}{st:Stmt}{f:Addr}{oc:Value}{od:Option Addr}{kV dc pm cd ct:Value}{an:Option Addr}{sl:Array (Option Value)}(d:findIn K (.ref C) m=some (some (.ref f)))(i:isFn K (.ref f)=true)(l:K.lookup f=some ⟨oc,od,.func (PySem.W.fnOf m q (v9 st) (u3 st) (d8 st) .none kV dc pm an cd ct),sl⟩)(c:codeIn K cd q=true)(k:keepIn K (.ref f)=true):AtM K C m q st:=⟨d,i,.of l c k⟩
end
end
open PySem L2
theorem all_mk{l:PySem.W.OpenLaw}{w:World}{K:Frag}{h:Heap}{mg:Str->Option Value}{fa:Addr}{ao ad an ah aq af aa al ac ap ai ak ag am ab aj:Addr}{aN:Tok}{be:Tok}{cb:Tok}{dy:Tok}{aO:Tok}{aQ:Tok}{cw:Tok}{bZ:Tok}{dH:Tok}{bt:Tok}{bC:Tok}{ar:Addr}{bz:Nat}{cN:Array (Option Value)}{dg dF:Tok}{av:Addr}{cv ax az aw au aC:Value}{bb aB:Option Addr}{bT:Array (Option Value)}(di:AtG K "check_size" a1n)(df:AtG K "check_hand" a1o)(aP:AtG K "mark_cell" a2j)(cg:AtG K "card_cell" a2r)(cQ:AtG K "bell_cell" a2s)(bk:AtG K "new_cells" a2i)(bO:AtG K "marks_among" a0u)(dq:AtG K "size_of_cells" y7)(bB:AtG K "check_numbers" y9)(dB:AtG K "is_number" a2q)(ce:AtG K "number_read" a0t)(aT:AtG K "numbers_read" a0g)(dQ:AtG K "numbers_text" a0f)(cG:AtG K "cells_text" a1p)(aR:AtG K "cells_read" a1q)(bH:AtG K "_law_well" a3l)(cY:AtG K "_law_take" a3m)(cj:AtG K "_law_far" a5c)(aV:AtG K "_law_marks" a2n)(aI:AtG K "_law_order" a2m)(cx:AtG K "_law_parts" a2l)(bV:AtG K "_law_cells" a2p)(dA:AtG K "_law_drawn" a2o)(bE:AtG K "_law_written" a0v)(cU:AtG K "_law_sign" a3n)(aH:AtG K "_law_bent" a3p)(bw:AtG K "_law_shifted" a0w)(dM:AtG K "_law_spoilt" a1l)(dL:AtG K "_law_number" a1m)(bP:AtG K "_law_due" a5d)(dD:AtG K "_law_read" a3o)(cR:AtG K "_law_right" a2k)(X:K.In h)(G:h.Ns mainGlobals mg)(hfa:mg "law" = some (.ref fa))(dP:nsIn K mainGlobals "RingError" = some (some (.ref ao)))(dp:nsIn K mainGlobals "BadSize" = some (some (.ref ad)))(aX:excIn K ad c0n "ValueError.__new__" = true)(bg:findIn K (.ref ad) "__getattribute__" = some (some (.builtin "BaseException.__getattribute__")))(cV:findIn K (.ref ad) "__getattr__" = some none)(cH:findIn K (.ref ad) "__class__" = some (some (.builtin "object.__class__")))(dh:mroIn K ad (.type "BaseException")=some true)(dl:mroIn K ad (.type "object")=some true)(bl:(clsIn K ad).isSome=true)(bM:nsIn K mainGlobals "NoTurn" = some (some (.ref an)))(cu:nsIn K mainGlobals "BadMark" = some (some (.ref ah)))(cz:nsIn K mainGlobals "Crooked" = some (some (.ref aq)))(bR:nsIn K mainGlobals "NoCell" = some (some (.ref af)))(bp:nsIn K mainGlobals "BadCells" = some (some (.ref aa)))(dE:excIn K aa c0n "ValueError.__new__" = true)(bq:findIn K (.ref aa) "__getattribute__" = some (some (.builtin "BaseException.__getattribute__")))(bn:findIn K (.ref aa) "__getattr__" = some none)(cB:findIn K (.ref aa) "__class__" = some (some (.builtin "object.__class__")))(bU:mroIn K aa (.type "BaseException")=some true)(cT:mroIn K aa (.type "object")=some true)(bK:(clsIn K aa).isSome=true)(cE:nsIn K mainGlobals "BadOrder" = some (some (.ref al)))(cr:nsIn K mainGlobals "NoHand" = some (some (.ref ac)))(aM:excIn K ac c0n "ValueError.__new__" = true)(cZ:findIn K (.ref ac) "__getattribute__" = some (some (.builtin "BaseException.__getattribute__")))(dr:findIn K (.ref ac) "__getattr__" = some none)(bv:findIn K (.ref ac) "__class__" = some (some (.builtin "object.__class__")))(dR:mroIn K ac (.type "BaseException")=some true)(bD:mroIn K ac (.type "object")=some true)(cL:(clsIn K ac).isSome=true)(cS:nsIn K mainGlobals "NoWaiting" = some (some (.ref ap)))(bi:nsIn K mainGlobals "NotSound" = some (some (.ref ai)))(bs:nsIn K mainGlobals "BadStand" = some (some (.ref ak)))(ca:nsIn K mainGlobals "TooMany" = some (some (.ref ag)))(cP:nsIn K mainGlobals "NoName" = some (some (.ref am)))(cM:nsIn K mainGlobals "NoText" = some (some (.ref ab)))(dI:excIn K ab c0n "ValueError.__new__" = true)(da:findIn K (.ref ab) "__getattribute__" = some (some (.builtin "BaseException.__getattribute__")))(bx:findIn K (.ref ab) "__getattr__" = some none)(bN:findIn K (.ref ab) "__class__" = some (some (.builtin "object.__class__")))(cc:mroIn K ab (.type "BaseException")=some true)(dd:mroIn K ab (.type "object")=some true)(cK:(clsIn K ab).isSome=true)(cq:nsIn K mainGlobals "NoRow" = some (some (.ref aj)))(sg:specialIn K (.builtin "object.__class__") "__get__" = some (some (.builtin "getset_descriptor.__get__")))(tk:PySem.W.takesIn K (.builtin "object.__class__")=some true)(ci:nsIn K mainGlobals "FIGURES" = some (some (.str "0123456789" aN)))(bF:nsIn K mainGlobals "LEAST_SIZE" = some (some (.int (2) be)))(dj:nsIn K mainGlobals "MOST_SIZE" = some (some (.int (8) cb)))(dx:nsIn K mainGlobals "MOST_MARK" = some (some (.int (3) dy)))(br:nsIn K mainGlobals "CELLS_OF_A_PLACE" = some (some (.int (4) aO)))(cF:nsIn K mainGlobals "NEW_MARK" = some (some (.int (2) aQ)))(dS:nsIn K mainGlobals "NO_ORDER" = some (some (.int (-1) cw)))(bc:nsIn K mainGlobals "NO_TURN" = some (some (.int (-1) bZ)))(dG:nsIn K mainGlobals "STILL" = some (some (.int (0) dH)))(aS:nsIn K mainGlobals "RUNG" = some (some (.int (1) bt)))(bh:nsIn K mainGlobals "MOST_FIGURES" = some (some (.int (60) bC)))(aG:nsIn K mainGlobals "HANDS" = some (some (.ref ar)))(dO:K.lookup ar=some ⟨.type "tuple",none,.seq #[.str "giver" dg,.str "taker" dF] bz,cN⟩)(bL:nsIn K mainGlobals "len" = some none)(ch:nsIn K mainGlobals "range" = some none)(bo:nsIn K mainGlobals "max" = some none)(aZ:nsIn K mainGlobals "min" = some none)(cO:nsIn K mainGlobals "isinstance" = some none)(cd:nsIn K mainGlobals "int" = some none)(dt:nsIn K mainGlobals "bool" = some none)(ct:nsIn K mainGlobals "list" = some none)(co:nsIn K mainGlobals "all" = some none)(cJ:nsIn K mainGlobals "tuple" = some none)(du:nsIn K mainGlobals "str" = some none)(bA:nsIn K mainGlobals "ValueError" = some none)(dk:nsIn K mainGlobals "law" = some (some (.ref av)))(dw:K.lookup av=some ⟨cv,bb,.func (PySem.W.fnOf "law" "law" (v9 a6y) (u3 a6y) (d8 a6y) .none ax az aw aB au aC),bT⟩)(bj:codeIn K au "law" = true)(cm:keepIn K (.ref av)=true)(bG:kitOne K (.type "list") (.type "list")=some true)(dm:kitOne K (.type "str") (.type "str")=some true)(bY:exmOne K (.ref aa) (.ref ao)=some true)(cs:kitOne K (.ref aa) (.ref ab)=some false)(dJ:kitOne K (.ref aa) (.ref aa)=some true)(cW:kitOne K (.ref aa) (.type "ValueError")=some true)(cy:PySem.W.kitAny K (.ref aa) [.ref ah,.ref al,.ref ad,.ref aq,.ref af,.ref ac,.ref aj,.ref ai,.ref an]=some false)(bS:PySem.W.kitAny K (.ref aa) [.ref ak,.ref am,.ref ap,.ref ag]=some false)(bQ:exmOne K (.ref ab) (.ref ao)=some true)(bm:kitOne K (.ref ab) (.ref ab)=some true)(aW:kitOne K (.ref ab) (.ref aa)=some false)(cX:kitOne K (.ref ab) (.type "ValueError")=some true)(dn:PySem.W.kitAny K (.ref ab) [.ref ah,.ref al,.ref ad,.ref aq,.ref af,.ref ac,.ref aj,.ref ai,.ref an]=some false)(dz:PySem.W.kitAny K (.ref ab) [.ref ak,.ref am,.ref ap,.ref ag]=some false):
  ∃fd:FuncData,(∀(s:Shared)(v:Value),BindsTo s fd ⟨[v],[]⟩ [("script",v)])/\∀base:Heap,K.In base->base.Ns mainGlobals mg->b6c l.prog w K mg base (CXK l.prog w) 9 fa fd ["script"] (b1p K):=by
 let cl:Cl:=⟨ao,ad,an,ah,aq,af,aa,al,ac,ap,ai,ak,ag,am,ab,aj,ar⟩
 have e:=hfa.symm.trans (mg_of X G dk);cases e;have T:Txt K mg cl:=⟨⟨mg_of X G dP⟩,
  ⟨⟨aX,bg,cV,cH,dh,dl,bl,sg,tk⟩,mg_of X G dp⟩,
  ⟨mg_of X G bM⟩,
  ⟨mg_of X G cu⟩,
  ⟨mg_of X G cz⟩,
  ⟨mg_of X G bR⟩,
  ⟨⟨dE,bq,bn,cB,bU,cT,bK,sg,tk⟩,mg_of X G bp⟩,
  ⟨mg_of X G cE⟩,
  ⟨⟨aM,cZ,dr,bv,dR,bD,cL,sg,tk⟩,mg_of X G cr⟩,
  ⟨mg_of X G cS⟩,
  ⟨mg_of X G bi⟩,
  ⟨mg_of X G bs⟩,
  ⟨mg_of X G ca⟩,
  ⟨mg_of X G cP⟩,
  ⟨⟨dI,da,bx,bN,cc,dd,cK,sg,tk⟩,mg_of X G cM⟩,
  ⟨mg_of X G cq⟩,
  ⟨_,mg_of X G bF⟩,
  ⟨_,mg_of X G dj⟩,
  ⟨_,mg_of X G dx⟩,
  ⟨_,mg_of X G br⟩,
  ⟨_,mg_of X G cF⟩,
  ⟨_,mg_of X G dS⟩,
  ⟨_,mg_of X G bc⟩,
  ⟨_,mg_of X G dG⟩,
  ⟨_,mg_of X G aS⟩,
  ⟨_,mg_of X G bh⟩,
  ⟨_,mg_of X G ci⟩,
  mg_of X G aG,
  ⟨_,_,_,dO,(show 2<=sizeLine by decide),.cons ⟨_,rfl⟩ (.cons ⟨_,rfl⟩ (.nil))⟩,
  mg_none_of X G bL,
  mg_none_of X G ch,
  mg_none_of X G bo,
  mg_none_of X G aZ,
  mg_none_of X G cO,
  mg_none_of X G cd,
  mg_none_of X G dt,
  mg_none_of X G ct,
  mg_none_of X G co,
  mg_none_of X G cJ,
  mg_none_of X G du,
  mg_none_of X G bA⟩
 have cI:=b8k (st:=a6y) dw bj cm;refine⟨PySem.W.fnOf "law" "law" (v9 a6y) (u3 a6y) (d8 a6y) .none ax az aw aB au aC,λs v=>.of_eq rfl,λbase _ _=>?_⟩;have kdB:=(⟨T.c_BadCells.k,bY,cs,dJ,cW,cy,bS⟩:Kd K cl cl.BadCells false true);have kdN:=(⟨T.c_NoText.k,bQ,bm,aW,cX,dn,dz⟩:Kd K cl cl.NoText true false);have dC:=(a7i (di.t X G λ_ _ _ _ _ _=>ba1 λ_=>rfl) T:FnT l.prog w K mg base _ _ _ _);have ae:=(b0s (cY.t X G λ_ _ _ _ _ _=>ba2 λ_ _=>rfl) T:FnT l.prog w K mg base _ _ _ _);have cp:=(b0r (bH.t X G λ_ _ _ _ _ _=>ba2 λ_ _=>rfl) T:FnT l.prog w K mg base _ _ _ _);have aJ:=b3d (cj.t X G λ_ _ _ _ _ _=>ba1 λ_=>rfl) T ae;have aY:=(a8y (aV.t X G λ_ _ _ _ _ _=>ba3 λ_ _ _=>rfl) T:FnT l.prog w K mg base _ _ _ _);have ds:=(a7j (df.t X G λ_ _ _ _ _ _=>ba1 λ_=>rfl) T:FnT l.prog w K mg base _ _ _ _);have dK:=(a8u (aP.t X G λ_ _ _ _ _ _=>ba1 λ_=>rfl) T:FnT l.prog w K mg base _ _ _ _);have aD:=a9c (cg.t X G λ_ _ _ _ _ _=>ba2 λ_ _=>rfl) T dC ds;have dN:=a9d (cQ.t X G λ_ _ _ _ _ _=>ba2 λ_ _=>rfl) T aD;have bI:=(a8t (bk.t X G λ_ _ _ _ _ _=>ba1 λ_=>rfl) T:FnT l.prog w K mg base _ _ _ _);have aL:=a5z (bO.t X G λ_ _ _ _ _ _=>ba1 λ_=>rfl) T dK;have bd:=a4g (bB.t X G λ_ _ _ _ _ _=>ba2 λ_ _=>rfl) T aL aD dN;have aA:=a4f (dq.t X G λ_ _ _ _ _ _=>ba1 λ_=>rfl) T bI bd;have aK:=(a9b (dB.t X G λ_ _ _ _ _ _=>ba1 λ_=>rfl) T:FnT l.prog w K mg base _ _ _ _);have db:=a5y (ce.t X G λ_ _ _ _ _ _=>ba1 λ_=>rfl) T aK;have bW:=a5k (aT.t X G λ_ _ _ _ _ _=>ba1 λ_=>rfl) T db;have cC:=(a5j (dQ.t X G λ_ _ _ _ _ _=>ba1 λ_=>rfl) T:FnT l.prog w K mg base _ _ _ _);have aF:=a7k (cG.t X G λ_ _ _ _ _ _=>ba1 λ_=>rfl) T aA cC;have ay:=a7l (aR.t X G λ_ _ _ _ _ _=>ba1 λ_=>rfl) T aA bW;have cA:=(a7h (dL.t X G λ_ _ _ _ _ _=>ba1 λ_=>rfl) T:FnT l.prog w K mg base _ _ _ _);have bf:=b3e (bP.t X G λ_ _ _ _ _ _=>ba1 λ_=>rfl) T cA;have bu:=b0u (dD.t X G λ_ _ _ _ _ _=>ba1 λ_=>rfl) T kdB kdN ay;have cD:=a8v (cR.t X G λ_ _ _ _ _ _=>ba1 λ_=>rfl) T bG bf bu aF ay;have dv:=(a6a (bE.t X G λ_ _ _ _ _ _=>ba1 λ_=>rfl) T:FnT l.prog w K mg base _ _ _ _);have cn:=a8x (aI.t X G λ_ _ _ _ _ _=>ba2 λ_ _=>rfl) T ae;have aE:=(a8w (cx.t X G λ_ _ _ _ _ _=>ba1 λ_=>rfl) T:FnT l.prog w K mg base _ _ _ _);have dc:=a9a (bV.t X G λ_ _ _ _ _ _=>ba4 λ_ _ _ _=>rfl) T aE aY;have aU:=a8z (dA.t X G λ_ _ _ _ _ _=>ba1 λ_=>rfl) T ae cn aE dc aJ;have cf:=b0t (cU.t X G λ_ _ _ _ _ _=>ba1 λ_=>rfl) T ae;have bJ:=b0v (aH.t X G λ_ _ _ _ _ _=>ba2 λ_ _=>rfl) T ae cf;have bX:=a6b (bw.t X G λ_ _ _ _ _ _=>ba2 λ_ _=>rfl) T ae;have de:=a7g (dM.t X G λ_ _ _ _ _ _=>ba2 λ_ _=>rfl) T ae bJ bX;have ck:=c1j cI T dm ae cp aU aF dv cD de;exact ck
theorem walk{l:PySem.W.OpenLaw}{q:Program}{loose:List Str}{XP:(Str->Option Value)->Heap->Prop}{YP:World->Heap->Prop}{d:DefRec}{K:Params->Frag}(hn:l.most=some 63)(hdf:d.params.defaults=[])(hY:∀(w:World) (h:Heap),YP w h->(K w.params).In h)(F:∀(w:World) (mg:Str->Option Value) (fa:Addr) (h:Heap),(K w.params).In h->h.Ns mainGlobals mg->mg d.name=some (.ref fa) ->
   ∃fd:FuncData,(∀(s:Shared) (u:Value),BindsTo s fd ⟨[u],[]⟩ [("script",u)])/\∀base:Heap,(K w.params).In base->base.Ns mainGlobals mg->b6c l.prog w (K w.params) mg base (CXK l.prog w) 9 fa fd ["script"] (b1p (K w.params))):
  PySem.W.WalkO q loose XP YP l.row.toRowW d [] (λf vs=>PySem.call f vs) :=
 L2.walk_of (n:=63) (k:=9) (x:="script") (CX:=λw=>CXK l.prog w) (sp:=λw=>b1p (K w.params)) hn (by decide) hdf ⟨rfl,by decide,by decide⟩ hY F (λ_ _ a ns hl _ hS=>⟨a,ns,rfl,hS,hl,λ_=>rfl⟩)
  λ_ _ _ _ _ z=>by obtain⟨_,_,_,_,_,q⟩:=z;exact q
end S
open PySem PySem.W PyProof.Rows
set_option maxRecDepth 100000
set_option maxHeartbeats 0
theorem PySem.Challenge.cw_slipring_k23_texts_of_cells_holds : PySem.Challenge.rw_slipring_k23_texts_of_cells.Holds := by
 refine hd ?_
 k_fill
 refine S.walk (l := PySem.Challenge.rw_slipring_k23_texts_of_cells) rfl rfl (fun w h Y => PySem.W.kIn_of Y) ?F
 case F =>
  intro w mg fa h KX G hmg
  apply S.all_mk (X := KX) (G := G) (hfa := hmg)
  all_goals try (first | k_is | kit_is | kts_exm | kernel_rfl)
  all_goals first | (refine' S.AtG.of ?d ?a ?b ?c; (case d => k_is); (case a => k_is); (case b => k_is); (case c => k_is)) | (refine' S.AtM.of ?d ?i ?a ?b ?c; (case d => k_is); (case i => k_is); (case a => k_is); (case b => k_is); (case c => k_is)) | (refine' S.AtF.of ?a ?b ?c; (case a => k_is); (case b => k_is); (case c => k_is)) | skip
