import PyProof.Rows.All
import OpenK.KLine
import Lean
import PyProof.EqAt
import PyProof.EqKinds
import PyProof.TupleCall
import PyProof.NsDelKeeps
import PyProof.NeKinds
import PyProof.CompFree
import PyProof.CompMap
import KE.LcSums
import PyProof.CompUse
import PyProof.Rows.RuleIs
import PyProof.Rows.RuleIs2
import PyProof.ZipIter
import PyProof.DictKinds
import PyProof.DictRoads
import PyProof.AutoRange
import PyProof.FactsAll.range_1
import KE.KTryMore
import PyProof.AutoListH
import KE.KDictOf
import KE.KDictList
import KE.KFromBytes
import KE.KIsAll
import KE.KItem
import KE.KxBytes
import KE.RegKIsAll
import KE.RegKTryMore
import PySem.Challenge.RW_slipring_k16_trails_judged
set_option Elab.async false
set_option compiler.extract_closed false
set_option linter.all false
set_option maxRecDepth 100000
set_option maxHeartbeats 4000000
section
open PySem PySem.W PyProof.Rows
set_option maxRecDepth 100000
set_option maxHeartbeats 0
theorem hk2{K:Params->Frag}{as:List Addr}(n:Nat)(e:∀P,as=(K P).map (·.1))(w:World)(s:Shared)(x:((as.take n).map s.heap.get?,(as.drop n).map s.heap.get?)=(((K w.params).take n).map (λp=>some p.2),((K w.params).drop n).map λp=>some p.2)):InK K w s.heap:=InK.of e w s (by simpa only[<-List.map_append,List.take_append_drop] using congr (congrArg (·++·) (Prod.mk.inj x).1) (Prod.mk.inj x).2)
set_option hygiene false in
local macro_rules|`(tactic| refine $hd ($n1 := $v1) ($n2 := $v2) ($n3 := $v3) ($n4 := $v4) ($n5 := $_ ($_ $k $a $e)) ($n6 := $_) ($n7 := $v7) ($n8 := $v8) $x1 $_ $x3 $x4 $x5 $x6 $x7 $x8 $x9 $x10 $x11 $x12 $x13 $x14 $x15)=>`(tactic| refine $hd ($n1 := $v1) ($n2 := $v2) ($n3 := $v3) ($n4 := $v4) ($n5 := fun s=>(List.map s.heap.get? (List.take 400 $a),List.map s.heap.get? (List.drop 400 $a))) ($n6 := fun w=>(List.map (fun p=>some p.2) (List.take 400 ($k w.params)),List.map (fun p=>some p.2) (List.drop 400 ($k w.params)))) ($n7 := $v7) ($n8 := $v8) $x1 (hk2 400 $e) $x3 $x4 $x5 $x6 $x7 $x8 $x9 $x10 $x11 $x12 $x13 $x14 $x15)
namespace PySem.W.Fast
local macro_rules|`(command|open $n*)=>do return Lean.mkNullNode (<-n.mapM λx=>`(def $x :=()))
open tw10257675875946525651 tw10368827614151553891 tw10374632558016547081 tw10538179210915043538 tw10627929193734500438 tw10703114269991466845 tw1146275083098442388 tw117311245943529078 tw12076798943406307700 tw12731152576971404446 tw1298487162214275115 tw13265978090383273239 tw13932396165709540929 tw14382375192886884664 tw14455545822193828066 tw14800370929953404514 tw15181078141257973585 tw15536608767410316090 tw1566252875480621919 tw16220543967445188546 tw16288130148447953894 tw16506471722634982818 tw1745904855532632988 tw17689344090056996911 tw18314875396610151526 tw2361496342566212426 tw2875624504187281209 tw2935169645234900343 tw3210817489611942815 tw3509909880615404879 tw3542984721355170951 tw3877615705368685908 tw3945831679567021610 tw4740311737661911975 tw4855993817490462278 tw4891155283279915023 tw6594970650091316094 tw6621635546502472408 tw6634204113684779145 tw7033543273419693189 tw724307879160381300 tw733862000233005451 tw7344060037366487030 tw7422128600509559289 tw7478123994339007903 tw7724476698626901532 tw7774113678449685934 tw7849015676453855939 tw7893645736953833228 tw7990135213862412714 tw8233839104715478585 tw861502493610598483 tw8997383693586321770 tw9363214764283991203 tw9385439782273163706 tw938635154573522699 tw9614098749759783560 tw9863125073875416535 tw123454888095987114 tw3817596123196066256 tw4449799235075362730 tw4766597723019941021 tw9223045988441327695 tw13257283266767686631 tw9201617497623189827 tw12884060626414724322 tw463774138113389760 tw17348111734160510231 tw9113380124883318265 tw8865387616306378214 tw10373885705245885314 tw855453113358079251 tw12236101354414956334 tw12053924596057091436 tw17817366049700826239 tw6968137755033780318 tw10192404496044350798 tw5240077947681225987 tw5537553045615171315 tw14144024108822670751 tw7631320640757110747 tw2345282404023599388 tw1329382545583022102 tw5128061309963564778 tw11112856592854345388 tw2754379104384642236 tw13255938527306859382 tw7287071566680170395 tw134869140600922118 tw8285600894249078527 tw7387728532749555685 tw8414355815457870901 tw7033223617477252788 tw17049750858520166293 tw14474530201714352570 tw9006961074152924250 tw10206286209542907786 tw7164969610272591079 tw8332346137001284160 tw12307553483252862823 tw12298192366917762067 tw13716781843517864737 tw11151835277377553703 tw555815775780349263 tw17721149768220346479 tw10550934584343373414 tw2310853497090360408 tw15495752065017430504 tw6259241058660970061 tw4773484457636388862 tw17877845533520812795 tw5467331546851215429 tw18407495941553956032 tw4938610541543285704 tw14522782377427387804 tw4163956849929007166 tw16626521671886133394 tw12182174808115992843 tw11205608169257636508 tw7777189000029798807 tw12330612334027959195 tw12003660372656728261 tw9719393640593047967 tw15541240446876304647 tw13343918040275786880 tw2046362190076281809 tw12151077715039277381 tw16140922888777852060 tw10510019762269167821 tw4538635040379822027 tw16217903435359918192 tw10539347186207431242 tw14782954611325821827 tw3953844824629472508 tw8297923619242306668 tw4323258101793500111 tw2990168724187919761 tw2167315655227761912 tw4026147355466621588 tw10921404820163398068 tw16035376269474964883 tw4772062507164038959 tw6984818610989830729 tw13631397514672939371 tw7828442866392281868 tw4490611911172417597 tw17823556299335049440 tw16728255500844073214 tw296083027919845158 tw16860917588515726111 tw6046103115902281144 tw8746904540745865596 tw172746767574481773 tw13313058339493701161 tw7867829370405329436 tw18003772858949239459 tw13037224057902187189 tw1835071406663858368 tw2595585439558603231 tw9402243437249704421 tw211337195705725219 tw18352723725473834589 tw17963105932079019327 tw15621116118777243554 tw12360917755211006479 tw9992116715903482975 tw6526287140368922620 tw15166322114958858414 tw1835201335921387983 tw13557862171009465336 tw1129948795310169627 tw5000232492035539693 tw3500664145855060485 tw3214969091617688553 tw4884199854448574 tw15240619367488684849 tw772564365185477556 tw14746253646979254834 tw3919386906821981792 tw13851515409511356469 tw13936439389310444312 tw6864887910540207759 tw506581581156960101 tw1719895430356276633 tw10095894221667365369 tw10159399881129095643 tw5622701340561072331 tw13601115934706021691 tw17184031218471190783 tw5086489192560080304 tw18073898193381586223 tw10295913840692754127 tw14022695629967993375 tw4561898282857576226 tw11263768400469242888 tw12393862125047025020 tw8413399678365625193 tw6714880395473160397 tw28018229315631829 tw3652199383789512132 tw12670982853097334264 tw14847308668706973960 tw12747814925858328940 tw12652081859355081885 tw10094733558918713432 tw402139726102294341 tw12125097214300078407 tw4493901809537577575 tw2894314189432023629 tw8319933024895762948 tw10312438410070409164 tw7485256538410118956 tw6828597562223498359 tw16902440903046159558 tw8431482922422412695 tw5137589814051832496 tw2595618661548880785 tw16864618592142003386 tw14537775516033599862 tw12550775161083096063 tw14961746396406840608 tw16101134707931498060 tw2528511596961503537 tw16636501806038632012 tw10236332898609347644 tw5404398260228975080 tw4946147512530127568 tw6548459193220583526 tw14993981098963755598 tw9592521066531166775 tw9689729476882780088 tw2846267367221353805 tw2466311954974566718 tw12297992134047619483 tw6631347999910079877 tw4413860948169739490 tw12549542988036985293 tw6030501089693204938 tw2285686636504529566 tw431221854992830470 tw14219159868682941630 tw18183970276198133131 tw11212356425047092601 tw17510684818845775701 tw15481805183316651443 tw2144661209622563809 tw12315944733273679750 tw8185220541750880888 tw13215348057498601715 tw13953587524928339648 tw18095796173783872564 tw11449968299874610285 tw4859391219904099992 tw14935156969734317764 tw866717566613908145 tw14859695947638507448 tw11468729153070441980 tw3520257249291928256 tw5344687154915797982 tw10886659093417053267 tw16005714805435085966 tw11033627544408312984 tw727553628536289456 tw9252304221032618942 tw2455152089536381482 tw17397653436517662659 tw12269216009862288129 tw7611196895359807804 tw14036186469904095446 tw7484994123860896570 tw16802631365582062104 tw12431713363859531893 tw1045582712504079209 tw6094820017090691545 tw547895379624588593 tw17382457898008728272 tw14479964200598819128 tw11373181179767321252 tw2261719852989239553 tw4598271963242535575 tw4683681711962371626 tw8374155422468719031 tw17937168697417666835 tw1484650774730072618 tw15540911362017771936 tw14564479935002850509 tw18105302477358141223 tw3721919958574915784 tw15577281813014381367 tw14995258362815363992 tw17360015989920007124 tw10851082721055443051 tw1142673529048489019 tw86012387029904805 tw9757595895972200118 tw11401859456886640639 tw11095110211248682772 tw15805137534098808535 tw1062514266329012355 tw2868442198168577507 tw16792556548410726896 tw2474200967059427378 tw8222940686941784037 tw7212858340449540239 tw1125065396945160393 tw2483321941437592071 tw1405720946626083897 tw12750670339961964742 tw890339118813698166 tw12461081396071149458 tw9950792792127014553 tw5805800948307579973 tw5662061979359257339 tw247591363613054380 tw14760874974797668852 tw16120054744476736488 tw7509565986652818475 tw14940998509354871970 tw16116027297012810434 tw17483705464198625004 tw15402603294489630176 tw1517009173149250642 tw14869962595670455896 tw5634867526602368427 tw16422413458241162112 tw13205091638197436094 tw8047209995159408440 tw3997487885647526937 tw256976265262469064 tw15831126876759372255 tw14170518179582410385 tw13385558918117058561 tw18101783494082082527 tw1205604411410820431 tw10228342955482612591 tw10519837036962490867 tw18220031379085947620 tw14903569129155370506 tw8833860146974802555 tw7921390202802761869 tw11793702604926673555 tw4903002758410956813 tw8219003486749837733 tw3641951560692057861 tw3042748168174471775 tw17760279517084355780 tw5019544711922104826 tw11266997524610791606 tw4483904966330829159 tw18031968618487185184 tw17659185236578331656 tw16003985067176294414 tw13053394406489344094 tw10406584006884427733 tw9404705873571188630 tw15142666989864626641 tw10611411778653204182 tw6194202620331982285 tw17590876675597686902 tw13705283562680751584 tw16145670418848962200 tw6880980288501444468 tw5920806927976990809 tw17986951261819808105 tw15932183184989994656 tw10395332584310045583 tw14569604634059749682 tw17261404542052806724 tw17016834523296244275 tw16109456028575089023 tw6900931685637148767 tw9679390387850249182 tw12738610918357793766 tw15012102849882553082 tw13069393092227542028 tw10859743581388371069 tw2997480634906808460 tw6338894885288841830 tw4860023922305330110 tw8210202977690762169 tw11564986514327137767 tw7787813539459594420 tw15969335453137586327 tw5812350808301622050 tw4693966885379303072 tw5522115075389312692 tw18400553757987027518 tw16670193898709178398 tw12132596417379514657 tw6284410105664486691 tw3236729772642805936 tw12715800853834201459 tw11207431853666184334 tw16409965706819354750 tw14546174082565282566 tw15267169705364848929 tw7792700002687035005 tw11907897558876765624 tw14202271707224943307 tw10470340158578859262 tw6690350156832105676 tw2983127059725616120 tw17163426234232328066 tw9678289623588505577 tw16232239604740543338 tw17082689572870858151 tw8733291241859026926 tw3985964047577975286 tw8002303944043701648 tw14935467056822913822 tw3374319085511977134 tw14398111036562950334 tw15235614512728720 tw11837218909656210887 tw7424060955962978353 tw18333273249017474000 tw10341888390210383824 tw15052318979288761249 tw12740759652641322565 tw5610444585433571239 tw7372170664606466022 tw12773500944031208451 tw4334401890000744311 tw13996866031312336078 tw13394580363473044415 tw12382822922155266910 tw2773992215795510196 tw12477129341811645039 tw3235425350174046738 tw7607420049574824106 tw9860861378791804195 tw15917658305576242666 tw7350462372000428638 tw18146532975450069615 tw13674586047789940208 tw3543459598558145280 tw2941924889016668590 tw5274481202262711730 tw14321067358777074657 tw2629151800749243262 tw3239113980409921550 tw12681666616541194006 tw11513857634932158529 tw15699961213505342161 tw140236481695663071 tw12717557048674177747 tw13539809779269347639 tw13055953723892786844 tw2228412568605170491 tw12396662096508845406 tw896239598344801917 tw13444670453868202053 tw16522183678017940807 tw4635989785427082552 tw9381626543082597023 tw13571862603940711859 tw699815216081779126 tw9619071485814978506 tw15171223727094530161 tw6945566481307383155 tw5342471268416680606 tw11272164335830466941 tw8912161614967838395 tw2213964242967304950 tw17351735930882485243 tw1537541725227008683 tw4993863958327201973 tw10186303709888756887 tw5449563278759341024 tw15702583709834301711 tw13757698761724263525 tw17431205604353252913 tw5438652380644606353 tw9456574344343218679 tw14755158882433999464 tw2314633323536394700 tw12250869413391326473 tw7942791058656714990 tw2353497105660221152 tw5702276774652866934 tw9977182230042388008 tw16670775579421159206 tw11429584451438056573 tw4757880891971583632 tw17170472223608059050 tw11220919329744738794 tw896878414759379649 tw13073492499399858440 tw11738243743197964597 tw14520296925931582552 tw4699756791338806529 tw6162269159774324313 tw180266875558373844 tw2638924239945547994 tw6921103065077540406 tw15572387867429868682 tw8840235324560252208 tw17951090304560329564 tw13813618637161013713 tw16797375974695604193 tw15254633091992210921 tw13034982811429478159 tw10988764466652934233 tw17188069144378779261 tw14689541978594310382 tw17271881437230615512 tw2576523973992343609 tw8185545411690514434 tw12887044766017154078 tw14372219517969529114 tw694261584828832409 tw8232614014015475128 tw6798380500665416597 tw4548300405975405348 tw9878177214627512989 tw11962351593759143498 tw7933485763601977624 tw15418378422589880096 tw4991487270385306882 tw6056707288978253535 tw5306753302271460952 tw11524815483048965402 tw7231845647793152400 tw5816495043963226922 tw376983999666122830 tw10826640976665885199 tw577049184839899653 tw3328811466098603303 tw10713865542653931438 tw12768989823518198380 tw8737599933303070863 tw17508347553164502932 tw16053306600634468012 tw6125853113672642322 tw6420159726195949164 tw622995879521568732 tw8909772338491405060 tw5171440476677080432 tw13710940844802916613 tw16103829930404553856 tw10861573186032746274 tw12921946191010883867 tw12132732476715806282 tw6105849179199505303 tw8166255043249204926 tw4015202173357781934 tw1599053048872161195 tw9972681490609642005 tw14061609134260724683 tw15475723433398761304 tw2135409205425526673 tw12020253756985099128 tw8159993647027272844 tw5285915839522022235 tw9869809959619462935 tw2041926188850086339 tw18060508904421208200 tw16721508838639397229 tw8157277791214410489 tw757356599333046425 tw11078473246598507814 tw13861969467909019144 tw14226173905949225808 tw12528533614272120300 tw18328257000508772394 tw15627779663793561183 tw5845002605336314091 tw1998347030407657756 tw9045458381397004210 tw17499849576073844966 tw9959121941294770655 tw8535803893964050539 tw9786136246686688387 tw2132029292895624192 tw6557801498797044033 tw8349214307167005616 tw1000662321505670351 tw3456351732281881909 tw8996207646774452837 tw8044325682031459534 tw593343749668468936 tw7007286002206832825 tw14647417624928369756 tw8171798328758944481 tw2400638427578300857 tw17731313482808627303 tw2080317491765294665 tw6170744672141170255 tw4046790133079468173 tw5748170370737335489 tw1545724803604235189 tw2870957612703475602 tw727924238349540522 tw1342123614928995077 tw9433028549170029634 tw15125770126966510544 tw14173793092197918974 tw3049343062529576306 tw4470468392277007246 tw2692750590507578028 tw4704452742865826424 tw13345342141187717317 tw14329579894275425762 tw13333588703604149420 tw14284835775768690865 tw7592715696027808041 tw5323657890516693427 tw12903330217458380548 tw1010972086116683374 tw15888466755372326495 tw12064304430848566033 tw16203965252921439515 tw14664691819916384248 tw6058616519681280931 tw14904681115217272601 tw15401437161963490237 tw5341297951324810720 tw1692201390411429781 tw10538165733446703262 tw8150244357695641675 tw5890639436620234070 tw18048741565030583774 tw15565715512253457277 tw87601786513091389 tw17267597263503486738 tw2694234056635809718 tw9536688357841153863 tw18418582437962087742 tw16298917771340976007 tw10910644110388302437 tw9646623106273453227 tw14963028359598502718 tw6060609690816243450 tw3981977580325598530 tw6607644564249050058 tw4906484309439969231 tw16902085369446701243 tw8331849164307833061 tw819570635367399668 tw12669407529647801677 tw8080008513338510535 tw7374399212775623666 tw15861351967447197489 tw542563422162235373 tw6124413428159637790 tw10387345722656961088 tw8285278889055680438 tw3297117884562324255 tw10388488172074580225 tw14538725608371270373 tw6953138203311097117 tw14845619989558847073 tw1725486776273817318 tw6248682570935725439 tw4171853373547519906 tw6575520176995025181 tw4189273013823423559 tw209982475168477708
end PySem.W.Fast
open_top hd for PySem.Challenge.rw_slipring_k16_trails_judged
end
open PySem.W (Frag findIn nsIn mg_of mroIn keepIn kia_one excIn clsIn isFn mg_none_of plainGet hasDictIn makesIn codeIn exmAny plainOver callWith_K kitOne specialIn exmOne)
set_option hygiene false
local macro_rules
| `(↑901)=>`(FnT P w K mg base)
| `(↑902)=>`(MethT P w K mg base cl.Giver)
| `(↑903)=>`(MethT P w K mg base cl.Taker)
| `(↑904)=>`(MethT P w K mg base)
| `(↑905)=>`(LH cl H A n c os bk gs ts ps Gq Tq tl lt)
| `(↑906)=>`(λ_ _ _ _ _ _=>ba1 λ_=>rfl)
local macro_rules
| `(↑1)=>`(⟨rfl,rfl,rfl,by decide +kernel,rfl,by decide +kernel,by decide +kernel⟩)
| `(↑2)=>`((by lia))
| `(↑3)=>`((λf cdv A' outer s H vs Q E hr h=>?_))
| `(↑4)=>`((by decide))
| `(↑5)=>`(LH cl H A L.n L.c L.os L.bk L.gseen L.tseen ps Gq Tq tl lt)
| `(↑6)=>`((z9 (K:=K) (pv 0)))
| `(↑7)=>`((λvs H Q E h=>by walk_at "len"))
| `(↑8)=>`((λf cdv A outer s H vs Q E hr h=>?_))
| `(↑9)=>`((a2l (huN hr 1) (pv 1) g6 (λ_ _=>rfl)))
| `(↑10)=>`((λ_ _=>rfl))
| `(↑11)=>`(e0b cl H A L (gstep L) ps Tq tl (lt.tch (gT L)) Q)
| `(↑12)=>`((d5w (K:=K)))
| `(↑13)=>`(Inv X pins σ H s)
| `(↑14)=>`(e0a cl H A L (tstep L) Gq tl (lt.tch (tT L)) Q)
| `(↑15)=>`((a9 (pv 1) d9))
| `(↑16)=>`((a9 (pv 0) d9))
| `(↑17)=>`((.tail _ (.tail _ (.tail _ (.tail _ (.head _))))))
| `(↑18)=>`(Txt K mg cl)
| `(↑19)=>`((n6 (huN hr 1) (pv 1) g6 g6 rfl))
| `(↑20)=>`((model X.prog X.w))
local macro_rules
| `(↑21)=>`((a9 g6 (a9 g6 d9)))
| `(↑22)=>`((a9 d8 d9))
| `(↑23)=>`((.inl rfl))
| `(↑24)=>`((Addr×Obj))
| `(↑25)=>`((huN hr 1))
| `(↑26)=>`((List Int))
| `(↑27)=>`((nomatch (show true=false from y)))
| `(↑28)=>`(Frag)
| `(↑29)=>`((d5 (i9 g6)))
| `(↑30)=>`((b8e X N scope cl C s H ex pn'))
| `(↑31)=>`((Nat.le_refl _))
| `(↑32)=>`((e1w _))
| `(↑33)=>`((x == ("__debug__":Str)))
| `(↑34)=>`((d3u (K:=K)))
| `(↑35)=>`((a9f I q (by simp)))
| `(↑36)=>`((.lst (o.map V.int)))
| `(↑37)=>`((d5 (i9 e1q)))
| `(↑38)=>`((model prog w))
| `(↑39)=>`((by rw[es]))
| `(↑40)=>`((.ins C dx fs))
local macro_rules
| `(↑41)=>`((acc++[y]))
| `(↑42)=>`((a2l ↑25 (pv 0) g6 ↑10))
| `(↑43)=>`((i5 G_law_take hr ↑4 rfl g4 (a9 (pv 0) ↑22)))
| `(↑44)=>`((a0h (k:=4) (pv 0) hr ↑4 g4))
| `(↑45)=>`((a9 ↑6 d9))
local macro_rules
| `(tactic|fail "a")=>`(tactic|(
  obtain⟨many,last,hB,hLast⟩:=hL.brd;obtain⟨⟨dxb,eb⟩,el,hlen,n2,n8⟩:=id hB;have p0:=Int.emod_nonneg t (show(n:Int)≠0 by lia)
  have p1:=Int.emod_lt_of_pos t (show(0:Int)<n by lia)
  have o0:=Int.emod_nonneg (t + -1) (show(2*(n:Int))≠0 by lia)
  have o1:=Int.emod_lt_of_pos (t + -1) (show 0<(2*(n:Int)) by lia)
  have q0:0<=ahd n t:=Int.emod_nonneg ((t + -1) % (2*(n:Int))) (show(n:Int)≠0 by lia)
  have q1:ahd n t<n:=Int.emod_lt_of_pos ((t + -1) % (2*(n:Int))) (show 0<(n:Int) by lia)))
| `(tactic|fail "b")=>`(tactic|(
  have hn:0<L.n:=ok.hn;have g0:gi L=L.g:=d3a e ↑4;have he0:Gq.he=.int ((L.g % (2*L.n):Nat):Int):=by rw[<- g0];exact hg.he (by rw[e];decide)
  have tn:=a0l (i:=L.g) hn;have nu0:Gq.nu=n5 L.os L.g:=by rw[<- g0];exact hg.nu (by rw[e];decide) (by rw[e];decide)
  have le0:Gq.le=v7 L.os L.g:=by rw[<- g0];exact hg.le (by rw[e];decide) (by rw[e];decide) (by rw[e];decide)))
| `(tactic|fail "c")=>`(tactic|(
  obtain⟨many,last,hB,hLast⟩:=hL.brd;obtain⟨⟨dxb,eb⟩,el,hlen,n2,n8⟩:=id hB))
| `(tactic|fail "d")=>`(tactic|(
  have hn:0<L.n:=ok.hn;have he0:Tq.he=.int ((L.t % (2*L.n):Nat):Int):=ht.he (by rw[e];rfl)
  have tn:=a0l (i:=L.t) hn;have nf0:Tq.nf=.int ((L.f % (2*L.n):Nat):Int):=by have:=ht.nf (by rw[e];rfl);rw[e] at this;exact this
  have pa0:ps=v4 L.os L.f (L.t-L.f):=by rw[ht.pa];exact if_neg (by rw[e];decide)))
| `(tactic|fail "e")=>`(tactic|(
  walk_at "go";refine d6k ?_;walk_at "go"))
| `(tactic|fail "f")=>`(tactic|(
  refine⟨_,rfl,?_⟩;walk_at "go";refine⟨A.bd,A.l,n,_,many,last,_,rfl,hB,?_⟩;rw[if_pos ⟨by lia,by rw[hlen];lia⟩]
  intro tt H' ht kp ett hB'))
| `(tactic|fail "g")=>`(tactic|(exact k H' A Gq z ⟨rfl,λ_=>he0,λ_ _=>nu0,λ_ _ _=>le0,noC⟩ kz (Nx.refl A H)))
| `(tactic|fail "h")=>`(tactic|(
  obtain⟨dxg,eg⟩:=hL.gv;obtain⟨dxt,et⟩:=hL.tk))
| `(tactic|fail "i")=>`(tactic|(intro pins s σ H Q I h))
| `(tactic|fail "j")=>`(tactic|(refine a1y (λy=>?_) (λy=>?_)))
set_option hygiene true
local macro_rules
| `(tactic|fail "Y1")=>`(tactic|(dsimp only;decide))
| `(tactic|fail "Y2")=>`(tactic|(exact λz=>absurd z (by dsimp only;decide)))
| `(tactic|fail "Y3")=>`(tactic|(exact λz=>absurd z ↑4))
| `(tactic|fail "Y4")=>`(tactic|(first|exact .inl rfl|exact .inr rfl|assumption))
| `(tactic|fail "Y5")=>`(tactic|(first|exact Or.inl rfl|exact Or.inr (Or.inl rfl)|exact Or.inr (Or.inr rfl)))
namespace L2
open PySem PySem.Spec PyProof.Rows
abbrev Key:=Sum Int Str
noncomputable def d0i:Key->Value->Bool
 | .inl k,v=>Value.isInt k v
 | .inr x,v=>Value.isStrOf x v
noncomputable def e6v(w:World):Key->Int
 | .inl k=>hashInt k
 | .inr x=>hashStr w x
theorem a0j:∀{k:Key}{v:Value},d0i k v=true->(∃i t,k=Sum.inl i/\v=Value.int i t)\/(∃x t,k=Sum.inr x/\v=Value.str x t)
 | .inl i,v,h=>by
  obtain⟨t,e⟩:=Value.isInt_shape (k:=i) (v:=v) h;exact .inl ⟨i,t,rfl,e⟩
 | .inr x,v,h=>by
  obtain⟨t,e⟩:=Value.isStrOf_shape (x:=x) (v:=v) h;exact .inr ⟨x,t,rfl,e⟩
theorem d2s(i:Int)(t:Tok):d0i (.inl i) (.int i t)=true:=by simp[d0i,Value.isInt]
theorem d2r(x:Str)(t:Tok):d0i (.inr x) (.str x t)=true:=by simp[d0i,Value.isStrOf]
theorem e2e(a b:Int):decide ((Sum.inl a:Key)=Sum.inl b)=(a == b):=by
 by_cases e:a=b
 ·subst e;simp
 ·have h:¬ (Sum.inl a:Key)=Sum.inl b:=λq=>e (Sum.inl.inj q)
  rw[decide_eq_false h];exact(beq_eq_false_iff_ne.mpr e).symm
theorem e2b(a b:Str):decide ((Sum.inr a:Key)=Sum.inr b)=decide (a=b):=by
 by_cases e:a=b
 ·subst e;simp
 ·have h:¬ (Sum.inr a:Key)=Sum.inr b:=λq=>e (Sum.inr.inj q)
  rw[decide_eq_false h,decide_eq_false e]
theorem e2d(a:Int)(b:Str):decide ((Sum.inl a:Key)=Sum.inr b)=false:=decide_eq_false (λq=>nomatch q)
theorem e2c(a:Str)(b:Int):decide ((Sum.inr a:Key)=Sum.inl b)=false:=decide_eq_false (λq=>nomatch q)
noncomputable def a1u(prog:Program)(w:World):PySem.KeyKind prog w Key where
 is:=d0i
 hash:=e6v w
 inj:=λv a b ha hb=>by
  rcases a0j ha with ⟨i,t,rfl,rfl⟩|⟨x,t,rfl,rfl⟩
  ·rcases a0j hb with ⟨j,u,rfl,e⟩|⟨y,u,rfl,e⟩
   ·injection e with e1 _;rw[e1]
   ·exact nomatch e
  ·rcases a0j hb with ⟨j,u,rfl,e⟩|⟨y,u,rfl,e⟩
   ·exact nomatch e
   ·injection e with e1 _;rw[e1]
 byValue:=λk v h=>by
  rcases a0j h with ⟨i,t,rfl,rfl⟩|⟨x,t,rfl,rfl⟩ <;> rfl
 pyHash:=λhv h=>by
  rcases a0j hv with ⟨i,t,rfl,rfl⟩|⟨x,t,rfl,rfl⟩
  ·exact wpAny_pyHash_int h
  ·exact wpAny_pyHash_str h
 eqBool:=λhu hv h=>by
  rcases a0j hu with ⟨i,t,rfl,rfl⟩|⟨x,t,rfl,rfl⟩
  ·rcases a0j hv with ⟨j,u,rfl,rfl⟩|⟨y,u,rfl,rfl⟩
   ·rw[e2e] at h;exact wpAny_eqBool_int h
   ·rw[e2d] at h;exact SeqAt.EqAt.int_str i t y u _ _ _ _ h
  ·rcases a0j hv with ⟨j,u,rfl,rfl⟩|⟨y,u,rfl,rfl⟩
   ·rw[e2c] at h;exact SeqAt.EqAt.str_int x t j u _ _ _ _ h
   ·rw[e2b] at h;exact wpAny_eqBool_str h
 «strs»:=λk x t v h=>by
  rcases a0j h with ⟨i,u,rfl,e⟩|⟨y,u,rfl,e⟩
  ·exact nomatch e
  ·injection e with e1 _
   subst e1;cases v <;> rfl
theorem c7c(prog:Program)(w:World)(i:Int)(t:Tok):(a1u prog w).is (.inl i) (.int i t)=true:=d2s i t
theorem c7b(prog:Program)(w:World)(x:Str)(t:Tok):(a1u prog w).is (.inr x) (.str x t)=true:=d2r x t
inductive V where
 | non|bl (b:Bool)|int (i:Int)|str (x:Str)|byt (b:Array UInt8)|flt (b:UInt64)|ref (a:Addr)|ty (n:String)
 deriving DecidableEq
noncomputable def RelV:V->Value->Prop
 | .non,u=>u=Value.none
 | .bl b,u=>u=Value.bool b
 | .int i,u=>∃t,u=Value.int i t
 | .str x,u=>∃t,u=Value.str x t
 | .byt b,u=>∃t,u=Value.bytes b t
 | .flt b,u=>∃t,u=Value.float b t
 | .ref a,u=>u=Value.ref a
 | .ty n,u=>u=Value.type n
abbrev Vals:List V->List Value->Prop:=Paired RelV
theorem Vals.length{xs:List V}{us:List Value}(r:Vals xs us):xs.length=us.length:=Paired.length r
theorem Vals.get:∀{xs:List V}{us:List Value}{i:Nat}{x:V},Vals xs us->xs[i]?=some x->∃u,us[i]?=some u/\RelV x u
 | _,_,_,_,.nil,e=>by simp at e
 | _,_,0,_,.cons r _,e=>by simp at e;subst e;exact⟨_,rfl,r⟩
 | _,_,i+1,x,.cons _ t,e=>by
  obtain⟨u,h1,h2⟩:=Vals.get (i:=i) (x:=x) t (by simpa using e)
  exact⟨u,by simpa using h1,h2⟩
theorem Vals.set{x:V}{u:Value}(r:RelV x u):∀{xs:List V}{us:List Value}(i:Nat),Vals xs us->Vals (xs.set i x) (us.set i u)
 | _,_,_,.nil=>.nil
 | _,_,0,.cons _ t=>.cons r t
 | _,_,i+1,.cons q t=>.cons q (Vals.set r i t)
theorem Vals.append{xs ys:List V}{us ws:List Value}(h:Vals xs us)(s:Vals ys ws):Vals (xs++ys) (us++ws):=by
 induction h with
 | nil=>exact s
 | cons r t ih=>exact .cons r ih
theorem Vals.take:∀{xs:List V}{us:List Value}(n:Nat),Vals xs us->Vals (xs.take n) (us.take n)
 | _,_,0,_=>.nil
 | _,_,_+1,.nil=>.nil
 | _,_,n+1,.cons r t=>.cons r (Vals.take n t)
theorem Vals.drop:∀{xs:List V}{us:List Value}(n:Nat),Vals xs us->Vals (xs.drop n) (us.drop n)
 | _,_,0,r=>r
 | _,_,_+1,.nil=>.nil
 | _,_,n+1,.cons _ t=>Vals.drop n t
noncomputable def RelO:Option V->Option Value->Prop
 | some v,some u=>RelV v u
 | none,none=>True
 | _,_=>False
def KV{κ:Type}:List (κ×V)->List (κ×Value)->Prop:=Paired λ(p:κ×V) (q:κ×Value)=>p.1=q.1/\RelV p.2 q.2
def kV:Key->V
 | .inl i=>.int i
 | .inr x=>.str x
inductive HO where
 | lst (xs:List V)
 | tup (xs:List V)
 | dK (kvs:List (Key×V))|dT (kvs:List (List Key×V))
 | set (S:Int->Bool) (n:Nat)
 | ins (C dx:Addr) (fs:List (Str×V))
 | own (x:Addr)
 | xd (fs:List (Str×V))
 | met (f x:Addr)
 | rng (lo hi:Int)
 | frz (o:Obj) (u:HO)
 | tbl (ps:Array Value)
 | ext (φ:Heap->Prop)
abbrev Hp:=Addr->Option HO
noncomputable def upd(H:Hp)(a:Addr)(o:HO):Hp:=λb=>if b=a then some o else H b
theorem d6{H:Hp}{a:Addr}{o:HO}:upd H a o a=some o:=by unfold upd;rw[if_pos rfl]
theorem c9{H:Hp}{a b:Addr}{o:HO}(h:b≠a):upd H a o b=H b:=by unfold upd;rw[if_neg h]
theorem c5n{H:Hp}{a:Addr}{o u:HO}:upd (upd H a o) a u=upd H a u:=by
 funext b;unfold upd;split <;> rfl
theorem d9c{H:Hp}{a b:Addr}{o u:HO}(h:H a=some o)(h':H b=some u)(d:o≠u):a≠b:=by
 intro e;subst e;rw[h] at h';exact d (Option.some.inj h')
theorem i4{H:Hp}{a b:Addr}{o:HO}(h:H a=some o)(h':H b=none):a≠b:=by
 intro e;subst e;rw[h] at h';cases h'
section
variable(P:Program)(w:World)
noncomputable def ObjOk(H:Hp)(h:Heap)(a:Addr):HO->Prop
 | .lst xs=>xs.length<=sizeLine/\∃(its:List Value)(n:Nat),Vals xs its/\h.get? a=some { cls:=.type "list",data:=.seq its.toArray n }
 | .tup xs=>xs.length<=sizeLine/\∃its:List Value,Vals xs its/\IsTup h a its.toArray
 | .dK kvs=>kvs.length<=sizeLine/\(a == sysModules)=false/\∃vs,KV kvs vs/\h.DictOf (a1u P w) a vs
 | .dT kvs=>kvs.length<=sizeLine/\(a == sysModules)=false/\∃xs:List (List Key×Addr×Value),
   Paired (λ(p:List Key×V) (q:List Key×Addr×Value)=>p.1=q.1/\H q.2.1=some (.tup (p.1.map kV))/\RelV p.2 q.2.2) kvs xs /\
   ∃o es ep,h.get? a=some o/\o.ExactDict/\o.data=.dict es ep/\es.toList=xs.map (entryOfKey (tupleKind (a1u P w)))/\(xs.map (·.1)).Nodup
 | .set S n=>h.SetOf (intKind P w) a S n
 | .ins C dx fs=>H dx=some (.own a)/\fs.length<=1000/\dx≠a/\h.get? a=some (PySem.W.instObj C dx) /\
   ∃mA,h.Ns1 dx mA/\(∀f,RelO (fs.lookup f) (mA f))/\PySem.Within mA (fs.map (·.1))
 | .own _=>∃o,h.get? a=some o
 | .xd fs=>∃mA,h.Ns1 a mA/\∀f,RelO (fs.lookup f) (mA f)
 | .rng lo hi=>∃t u v,h.get? a=some { cls:=.type "range",data:=.fields #[.int lo t,.int hi u,.int 1 v] }
 | .frz o u=>h.get? a=some o/\ObjOk H h a u
 | .tbl ps=>h.get? a=some { cls:=.none,data:=.fields ps }
 | .met f x=>h.get? a=some (PySem.W.methodObj (.ref f) (.ref x))
 | .ext φ=>φ h/\(∃o,h.get? a=some o)/\∀h1 h2:Heap,φ h1->(∀o,h1.get? a=some o->h2.get? a=some o)->φ h2
def HOk(H:Hp)(h:Heap):Prop:=∀a o,H a=some o->ObjOk P w H h a o
end
section
variable{P:Program}{w:World}{H H':Hp}{h h':Heap}{a:Addr}{o:HO}
theorem ObjOk.lt(x:ObjOk P w H h a o):a<h.objs.size:=by
 cases o with
 | lst xs=>obtain⟨_,_,_,_,e⟩:=x;exact Heap.lt_size e
 | tup xs=>obtain⟨_,_,_,p⟩:=x;exact p.lt
 | dK kvs=>obtain⟨_,_,_,_,o,_,_,e,_⟩:=x;exact Heap.lt_size e
 | dT kvs=>obtain⟨_,_,_,_,o,_,_,e,_⟩:=x;exact Heap.lt_size e
 | set S n=>obtain⟨o,_,_,_,e,_⟩:=x;exact Heap.lt_size e
 | ins C dx fs=>obtain⟨_,_,_,e,_⟩:=x;exact Heap.lt_size e
 | own y=>obtain⟨_,e⟩:=x;exact Heap.lt_size e
 | xd fs=>obtain⟨_,⟨_,_,_,e,_⟩,_⟩:=x;exact Heap.lt_size e
 | rng lo hi=>obtain⟨_,_,_,e⟩:=x;exact Heap.lt_size e
 | frz ob u=>obtain⟨e,_⟩:=x;exact Heap.lt_size e
 | tbl ps=>exact Heap.lt_size (show h.get? a=some _ from x)
 | met f y=>exact Heap.lt_size (show h.get? a=some _ from x)
 | ext φ=>obtain⟨_,⟨_,e⟩,_⟩:=x;exact Heap.lt_size e
theorem Paired.mapP{α β:Type}{F G:α->β->Prop}{l₁:List α}{l₂:List β}(h:Paired F l₁ l₂)(f:∀a b,F a b->G a b):Paired G l₁ l₂:=by
 induction h with
 | nil=>exact .nil
 | cons r t ih=>exact .cons (f _ _ r) ih
theorem ObjOk.stay(x:ObjOk P w H h a o)(k:∀b u,(b=a\/H b=some (.own a))->h.get? b=some u->h'.get? b=some u)(ho:∀b,H b=some (.own a)->H' b=some (.own a))(ht:∀b xs,H b=some (.tup xs)->H' b=some (.tup xs)):ObjOk P w H' h' a o:=by
 induction o with
 | lst xs=>obtain⟨z,its,n,r,e⟩:=x;exact⟨z,its,n,r,k _ _ ↑23 e⟩
 | tup xs=>obtain⟨z,its,r,ob,e,c⟩:=x;exact⟨z,its,r,ob,k _ _ ↑23 e,c⟩
 | dK kvs=>obtain⟨z,y,vs,r,ob,es,ep,e,c⟩:=x;exact⟨z,y,vs,r,ob,es,ep,k _ _ ↑23 e,c⟩
 | dT kvs=>
  obtain⟨z,y,xs,r,ob,es,ep,e,c⟩:=x;exact⟨z,y,xs,Paired.mapP r λp q z=>⟨z.1,ht _ _ z.2.1,z.2.2⟩,ob,es,ep,k _ _ ↑23 e,c⟩
 | set S n=>obtain⟨ob,es,ep,t,e,c⟩:=x;exact⟨ob,es,ep,t,k _ _ ↑23 e,c⟩
 | ins C dx fs=>
  obtain⟨d,z,ne,e,mA,⟨od,es,ep,e2,c⟩,r⟩:=x;exact⟨ho _ d,z,ne,k _ _ ↑23 e,mA,⟨od,es,ep,k _ _ (.inr d) e2,c⟩,r⟩
 | own y=>obtain⟨ob,e⟩:=x;exact⟨ob,k _ _ ↑23 e⟩
 | xd fs=>obtain⟨mA,⟨od,es,ep,e,c⟩,r⟩:=x;exact⟨mA,⟨od,es,ep,k _ _ ↑23 e,c⟩,r⟩
 | rng lo hi=>obtain⟨t,u,v,e⟩:=x;exact⟨t,u,v,k _ _ ↑23 e⟩
 | frz ob u ih=>obtain⟨e,q⟩:=x;exact⟨k _ _ ↑23 e,ih q⟩
 | tbl ps=>
  have e:h.get? a=some { cls:=.none,data:=.fields ps }:=x;show h'.get? a=some { cls:=.none,data:=.fields ps };exact k a _ ↑23 e
 | met f y=>
  have e:h.get? a=some (PySem.W.methodObj (.ref f) (.ref y)):=x;show h'.get? a=some (PySem.W.methodObj (.ref f) (.ref y));exact k a _ ↑23 e
 | ext φ=>obtain⟨p,⟨o,e⟩,st⟩:=x;exact⟨st _ _ p λo q=>k _ _ ↑23 q,⟨o,k _ _ ↑23 e⟩,st⟩
theorem HOk.lt(x:HOk P w H h)(e:H a=some o):a<h.objs.size:=(x a o e).lt
theorem HOk.fresh(x:HOk P w H h)(e:h.objs.size<=a):H a=none:=by
 cases q:H a with
 | none=>rfl
 | some u=>exact absurd (Nat.lt_of_lt_of_le (x.lt q) e) (Nat.lt_irrefl _)
theorem HOk.kept(x:HOk P w H h)(k:∀b u,h.get? b=some u->h'.get? b=some u):HOk P w H h':=λa o e=>
 (x a o e).stay (λb u _ q=>k b u q) (λ_ q=>q) λ_ _ q=>q
theorem HOk.laid(x:HOk P w H h)(k:∀b u,h.get? b=some u->h'.get? b=some u)(hp:h.objs.size<=a)(new:ObjOk P w (upd H a o) h' a o):HOk P w (upd H a o) h':=λb u e=>by
 have hn:=x.fresh hp;by_cases hb:b=a
 ·subst hb;rw[d6] at e;cases e;exact new
 ·rw[c9 hb] at e
  exact(x b u e).stay (λc v _ q=>k c v q) (λc q=>by rw[c9 (i4 q hn)];exact q) λc xs q=>by rw[c9 (i4 q hn)];exact q
end
def Rd(H:Hp)(a:Addr)(u:HO):Prop:=H a=some u \/ ∃o,H a=some (.frz o u)
theorem Rd.ok{P:Program}{w:World}{H:Hp}{h:Heap}{a:Addr}{u:HO}(r:Rd H a u)(x:HOk P w H h):ObjOk P w H h a u:=by
 rcases r with r|⟨o,r⟩
 ·exact x a u r
 ·obtain⟨_,q⟩:=x a _ r
  exact q
noncomputable def Mut:Option HO->Prop
 | some (.lst _)=>True
 | some (.dK _)=>True
 | some (.dT _)=>True
 | some (.set _ _)=>True
 | some (.ins _ _ _)=>True
 | some (.ext _)=>True
 | _=>False
section
variable{P:Program}{w:World}{H:Hp}{h h':Heap}{x e:Addr}{o':HO}
theorem HOk.write(ok:HOk P w H h)(mu:Mut (H x))(he:e=x\/H e=some (.own x))(k:∀b u,b≠e->h.get? b=some u->h'.get? b=some u)(heo:∃u,h'.get? e=some u)(new:ObjOk P w (upd H x o') h' x o'):HOk P w (upd H x o') h':=λb u q=>by
 have nown:∀c y,H c=some (.own y)->c≠x:=λc y r z=>by subst z;rw[r] at mu;exact mu
 have ntup:∀c xs,H c=some (.tup xs)->c≠x:=λc xs r z=>by subst z;rw[r] at mu;exact mu
 by_cases hb:b=x
 ·subst hb;rw[d6] at q;cases q;exact new
 ·rw[c9 hb] at q
  by_cases hbe:b=e
  ·have q':H b=some (.own x):=by
    rcases he with z|z
    ·exact absurd (hbe.trans z) hb
    ·rw[hbe];exact z
   rw[q] at q';cases q';obtain⟨v,hv⟩:=heo;exact⟨v,by rw[hbe];exact hv⟩
  ·refine (ok b u q).stay (λc v hc r=>k c v ?_ r) (λc r=>by rw[c9 (nown c b r)];exact r) λc xs r=>by rw[c9 (ntup c xs r)];exact r
   rcases hc with rfl|hc
   ·exact hbe
   ·rintro rfl
    rcases he with z|z
    ·exact nown c b hc z
    ·rw[hc] at z;cases z;exact hb rfl
end
structure Un(fs ex:List Addr)(H H':Hp)(h h':Heap):Prop where
 keep:∀b o,h.get? b=some o->H b=none->b ∉ fs->b ∉ ex->h'.get? b=some o
 slot:∀b o,h.get? b=some o->H b=none->b∈fs->b ∉ ex->∃sl,h'.get? b=some { o with slots:=sl }
 free:∀b o,h.get? b=some o->H b=none->b ∉ ex->H' b=none
 there:∀b o,h.get? b=some o->b ∉ ex->∃o',h'.get? b=some o'
 tups:∀b xs,H b=some (.tup xs)->H' b=some (.tup xs)
 frzs:∀b o u,H b=some (.frz o u)->H' b=some (.frz o u)
 tbls:∀b ps,H b=some (.tbl ps)->∃more,H' b=some (.tbl (ps++more))
section
variable{fs fs' ex ex':List Addr}{H H1 H2:Hp}{h h1 h2 h':Heap}{a x e:Addr}{o:HO}
theorem Un.any(u:Un fs ex H H1 h h1){b:Addr}{ob:Obj}(q:h.get? b=some ob)(n:H b=none)(hx:b ∉ ex):∃sl,h1.get? b=some { ob with slots:=sl }:=by
 by_cases hb:b∈fs
 ·exact u.slot b ob q n hb hx
 ·exact⟨ob.slots,u.keep b ob q n hb hx⟩
theorem Un.kept(k:∀b u,h.get? b=some u->h'.get? b=some u):Un fs ex H H h h' :=
 ⟨λb ob q _ _ _=>k b ob q,λb ob q _ _ _=>⟨ob.slots,k b ob q⟩,λ_ _ _ n _=>n,λb ob q _=>⟨ob,k b ob q⟩,λ_ _ q=>q,λ_ _ _ q=>q,λ_ ps q=>⟨#[],by rw[q];simp⟩⟩
theorem Un.refl:Un fs ex H H h h:=Un.kept λ_ _ q=>q
theorem Un.laid(k:∀b u,h.get? b=some u->h'.get? b=some u)(hp:h.objs.size<=a)(hn:H a=none):Un fs ex H (upd H a o) h h' where
 keep:=λb u q _ _ _=>k b u q
 slot:=λb u q _ _ _=>⟨u.slots,k b u q⟩
 free:=λb u q n _=>by rw[c9 (Nat.ne_of_lt (Nat.lt_of_lt_of_le (Heap.lt_size q) hp))];exact n
 there:=λb u q _=>⟨u,k b u q⟩
 tups:=λb xs q=>by rw[c9 (i4 q hn)];exact q
 frzs:=λb u xs q=>by rw[c9 (i4 q hn)];exact q
 tbls:=λb ps q=>⟨#[],by rw[c9 (i4 q hn),q];simp⟩
theorem Un.write(mu:Mut (H x))(he:e=x\/H e=some (.own x))(k:∀b u,b≠e->h.get? b=some u->h'.get? b=some u)(heo:∃u,h'.get? e=some u):Un fs ex H (upd H x o) h h':=by
 have hx:∀b,H b=none->b≠x:=λb n z=>by subst z;rw[n] at mu;exact mu
 have hb:∀b,H b=none->b≠e:=λb n z=>by
  subst z;rcases he with r|r
  ·exact hx b n r
  ·rw[n] at r;cases r
 have hm:∀b u,H b=some u->¬ Mut (some u)->b≠x:=λb u q nm z=>by subst z;rw[q] at mu;exact nm mu
 refine⟨λb u q n _ _=>k b u (hb b n) q,λb u q n _ _=>⟨u.slots,k b u (hb b n) q⟩,λb u q n _=>by rw[c9 (hx b n)];exact n,λb u q _=>?_,
  λb xs q=>by rw[c9 (hm b _ q λz=>z)];exact q,λb u xs q=>by rw[c9 (hm b _ q λz=>z)];exact q,λb ps q=>⟨#[],by rw[c9 (hm b _ q λz=>z),q];simp⟩⟩
 by_cases hbe:b=e
 ·subst hbe;exact heo
 ·exact⟨u,k b u hbe q⟩
end
noncomputable def trk(h:Heap)(H:Hp):List Addr:=(List.range h.objs.size).filter λa=>(H a).isSome
noncomputable def d6a(h:Heap)(H:Hp):Heap:=PySem.W.hideAll h (trk h H)
theorem d2y(h:Heap)(H:Hp):(d6a h H).objs.size=h.objs.size:=PySem.W.hideAll_size _ _
theorem d5z{h:Heap}{H:Hp}{b:Addr}{o:Obj}(e:h.get? b=some o)(n:H b=none):(d6a h H).get? b=some o :=
 PySem.W.hideAll_get _ e λhm=>by
  have q:(H b).isSome=true:=(List.mem_filter.mp hm).2;rw[n] at q;simp at q
theorem d8x{h:Heap}{H:Hp}{b:Addr}{o:Obj}(e:(d6a h H).get? b=some o):h.get? b=some o/\H b=none:=by
 have e':h.get? b=some o:=PySem.W.of_hideAll (trk h H) e;refine⟨e',?_⟩;cases q:H b with
 | none=>rfl
 | some x=>
  have hm:b∈trk h H:=List.mem_filter.mpr ⟨List.mem_range.mpr (Heap.lt_size e'),by simp[q]⟩
  have z:(d6a h H).get? b=none:=PySem.W.hideAll_none (trk h H) hm;rw[z] at e;cases e
structure Mod(K:↑28)(mg:Str->Option Value)(base:Heap):Prop where
 kin:K.In base
 glob:base.Ns mainGlobals mg
 blt:∃mb,base.Ns builtinsNs mb/\∀x:Str,x≠"__name__"->mb x=bootBuiltins x
 nolimit:base.NoLimit
structure Cx where
 prog:Program
 w:World
 K:Frag
 mg:Str->Option Value
 base:Heap
 A:Around
 N:List Str
 s₀:Shared
 H₀:Hp
 env:Env
 outer:List Env
 stack:List Env
 ex:List Addr
 fn:Str->Bool
 calm:Bool
 pn:List ↑24
 xe:Value->Shared->Prop
def frs(l:List Env):List Addr:=l.filterMap (·.frame)
abbrev Cx.fs(X:Cx):List Addr:=frs X.outer
def Vis(sc:Scope)(x:Str):Prop:=sc.names.lookup x=some .local\/sc.names.lookup x=some .cell\/sc.names.lookup x=some .free
def Loc(sc:Scope)(x:Str):Prop:=sc.names.lookup x=some .local\/sc.names.lookup x=some .cell
noncomputable def e7n(env:Env)(h:Heap)(m:Str->Option Value)(x:Str)(u:Value):Prop :=
 (env.kindOf x=some .local/\m x=some u)\/((env.kindOf x=some .cell\/env.kindOf x=some .free)/\∃c,env.cells.lookup x=some c/\h.IsCell c (some u))
structure Cx.Ok(X:Cx):Prop where
 mod:Mod X.K X.mg X.base
 kind:X.env.scope.kind=.function
 glob:X.env.globals=mainGlobals
 blt:X.env.builtins=builtinsNs
 above:X.s₀.heap.objs.size<=X.env.locals
 inj:∀x y c,X.env.cells.lookup x=some c->X.env.cells.lookup y=some c->x=y
 has:∀x,(X.env.kindOf x=some .cell\/X.env.kindOf x=some .free)->∃c,X.env.cells.lookup x=some c
 cab:∀x c,X.fn x=true->X.env.cells.lookup x=some c->X.s₀.heap.objs.size<=c
 hd:X.calm=true->X.A.handled=none
 frames:X.A.frames=some X.stack
 stk:X.stack=X.outer\/(X.stack=X.env::X.outer/\X.env.frame=some X.env.locals)
 exf:∀b∈X.ex,b≠X.env.locals/\∀x c,X.env.cells.lookup x=some c->c≠b
 bs:∀b o,X.base.get? b=some o->X.s₀.heap.get? b=some o/\X.H₀ b=none
 bsz:X.base.objs.size<=X.s₀.heap.objs.size
 noex:∀b o,X.base.get? b=some o->b ∉ X.ex
 exfs:∀b∈X.ex,b ∉ X.fs
 funs:X.s₀.heap.FunFrames X.base X.outer
 frf:∀b∈X.fs,X.H₀ b=none
structure Inv(X:Cx)(pins:List ↑24)(σ:List (Option V))(H:Hp)(s:Shared):Prop where
 ok:X.Ok
 os:s.os=X.s₀.os
 bare:AllBare s.gens
 base:Un X.fs X.ex X.H₀ H X.s₀.heap s.heap
 loc:∃m,s.heap.Ns X.env.locals m/\∀(i:Nat)(x:Str)(v:V),X.N[i]?=some x->σ[i]?=some (some v)->Vis X.env.scope x->∃u,RelV v u/\e7n X.env s.heap m x u
 cell:∀x c,X.env.cells.lookup x=some c->∃v,s.heap.IsCell c v
 free:H X.env.locals=none
 freeC:∀x c,X.env.cells.lookup x=some c->H c=none
 pin:∀p∈X.pn++pins,s.heap.get? p.1=some p.2/\H p.1=none/\p.1≠X.env.locals/\p.1 ∉ X.fs/\∀v,p.2.data≠.cell v
 hok:HOk X.prog X.w H s.heap
 len:σ.length=X.N.length
section
variable{X:Cx}{pins:List ↑24}{σ:List (Option V)}{H H':Hp}{s:Shared}{h':Heap}
theorem Cx.Ok.nofr(ok:X.Ok){b:Addr}{o:Obj}(e:X.base.get? b=some o):b ∉ X.fs:=λhb=>by
 have:=(ok.funs.mem hb).1;rw[e] at this;cases this
theorem Inv.bs(I:↑13):∀b o,X.base.get? b=some o->s.heap.get? b=some o/\H b=none:=λb o e=>
 ⟨I.base.keep b o (I.ok.bs b o e).1 (I.ok.bs b o e).2 (I.ok.nofr e) (I.ok.noex b o e),I.base.free b o (I.ok.bs b o e).1 (I.ok.bs b o e).2 (I.ok.noex b o e)⟩
theorem Inv.bk(I:↑13):∀b o,X.base.get? b=some o->s.heap.get? b=some o:=λb o e=>(I.bs b o e).1
theorem Inv.mod(I:↑13):Mod X.K X.mg X.base:=I.ok.mod
theorem Inv.kIn(I:↑13):X.K.In s.heap:=I.ok.mod.kin.keeps I.bk
theorem Inv.lt(I:↑13):X.env.locals<s.heap.objs.size:=by obtain⟨_,hn,_⟩:=I.loc;exact hn.lt
theorem Inv.sz(I:↑13):X.s₀.heap.objs.size<=s.heap.objs.size:=Nat.le_trans I.ok.above (Nat.le_of_lt I.lt)
theorem Inv.nofs(I:↑13){a:Addr}(h:s.heap.objs.size<=a):a ∉ X.fs:=λhb=>by
 obtain⟨_,o,ho,_⟩:=I.ok.funs.mem hb;exact absurd (Nat.lt_of_lt_of_le (Heap.lt_size ho) (Nat.le_trans I.sz h)) (Nat.lt_irrefl _)
theorem Inv.cne(I:↑13):∀x c,X.env.cells.lookup x=some c->c≠X.env.locals:=λx c e z=>by
 obtain⟨v,o,ho,hd⟩:=I.cell x c e;obtain⟨m,⟨o',es,ep,ho',hd',_⟩,_⟩:=I.loc;rw[z,ho'] at ho;cases ho;rw[hd'] at hd;cases hd
theorem Inv.funs(I:↑13):s.heap.FunFrames X.base X.outer:=by
 have all:∀(l:List Env),(∀b∈frs l,b∈X.fs)->X.s₀.heap.FunFrames X.base l->s.heap.FunFrames X.base l:=by
  intro l
  induction l with
  | nil=>intro _ _;trivial
  | cons env r ih=>
   intro hs hl;obtain⟨hk,⟨L,o,hf,hn,ho,hd⟩,hr⟩:=hl;have hL:L∈X.fs:=hs L (by unfold frs;rw[List.filterMap_cons,hf];exact List.mem_cons_self)
   obtain⟨sl,e⟩:=I.base.slot L o ho (I.ok.frf L hL) hL λz=>I.ok.exfs L z hL;exact⟨hk,⟨L,_,hf,hn,e,hd⟩,ih (λb hb=>hs b (by unfold frs;rw[List.filterMap_cons,hf];exact List.mem_cons_of_mem _ hb)) hr⟩
 exact all X.outer (λ_ hb=>hb) I.ok.funs
theorem Inv.stack(I:↑13):s.heap.FunFrames X.base X.stack:=by
 rcases I.ok.stk with e|⟨e,hf⟩
 ·rw[e];exact I.funs
 ·rw[e]
  obtain⟨m,hn,_⟩:=I.loc;refine .cons (by rw[I.ok.kind];decide) hf hn ?_ I.funs
  exact Heap.get?_none_of_le (Nat.le_trans I.ok.bsz I.ok.above)
theorem Inv.stkSub(I:↑13):∀b∈frs X.stack,b∈X.env.locals::X.fs:=λb hb=>by
 rcases I.ok.stk with e|⟨e,hf⟩
 ·rw[e] at hb;exact List.mem_cons_of_mem _ hb
 ·rw[e] at hb
  unfold frs at hb;rw[List.filterMap_cons,hf] at hb;exact hb
theorem Inv.stkFree(I:↑13):∀b∈frs X.stack,H b=none:=λb hb=>by
 rcases List.mem_cons.mp (I.stkSub b hb) with e|hb
 ·rw[e];exact I.free
 ·obtain⟨_,o,ho,_⟩:=I.ok.funs.mem hb
  exact I.base.free b o ho (I.ok.frf b hb) λz=>I.ok.exfs b z hb
theorem Inv.step{g':Array GenState}{t':Nat}{d':Drawn}{ch:List Addr}(I:↑13)(hch:∀b∈ch,(b∈X.ex\/X.s₀.heap.objs.size<=b)/\b≠X.env.locals/\(∀x c,X.env.cells.lookup x=some c->c≠b)/\∀p∈X.pn++pins,p.1≠b)(keep:∀b o,b≠X.env.locals->b ∉ X.fs->b ∉ ch->s.heap.get? b=some o->H b=none->h'.get? b=some o)(slot:∀b o,b≠X.env.locals->b∈X.fs->b ∉ ch->s.heap.get? b=some o->H b=none->∃sl,h'.get? b=some { o with slots:=sl })(free:∀b o,b ∉ ch->s.heap.get? b=some o->H b=none->H' b=none)(there:∀b o,b ∉ ch->s.heap.get? b=some o->∃o',h'.get? b=some o')(tups:∀b xs,H b=some (.tup xs)->H' b=some (.tup xs))(frzs:∀b o u,H b=some (.frz o u)->H' b=some (.frz o u))(tbls:∀b ps,H b=some (.tbl ps)->∃more,H' b=some (.tbl (ps++more)))(ns:∀m,s.heap.Ns X.env.locals m->h'.Ns X.env.locals m)(hok:HOk X.prog X.w H' h')(hg:AllBare g'):
  Inv X pins σ H' { s with heap:=h',gens:=g',drawn:=d',toks:=t' }:=by
 have neL:∀b o,X.s₀.heap.get? b=some o->b≠X.env.locals:=λb o e=>Nat.ne_of_lt (Nat.lt_of_lt_of_le (Heap.lt_size e) I.ok.above);have neC:∀b o,X.s₀.heap.get? b=some o->b ∉ X.ex->b ∉ ch:=λb o e hx hb=>by
  rcases (hch b hb).1 with z|z
  ·exact hx z
  ·exact absurd (Nat.lt_of_lt_of_le (Heap.lt_size e) z) (Nat.lt_irrefl _)
 have cellK:∀x c,X.env.cells.lookup x=some c->∀v,s.heap.IsCell c v->h'.IsCell c v:=λx c e v zb_=>by
  obtain⟨o,ho,hd⟩:=zb_;have nch:c ∉ ch:=λz=>(hch c z).2.2.1 x c e rfl;by_cases hc:c∈X.fs
  ·obtain⟨sl,q⟩:=slot c o (I.cne x c e) hc nch ho (I.freeC x c e)
   exact⟨_,q,hd⟩
  ·exact⟨o,keep c o (I.cne x c e) hc nch ho (I.freeC x c e),hd⟩
 refine⟨I.ok,I.os,hg,⟨λb o e n hb hx=>?_,λb o e n hb hx=>?_,λb o e n hx=>?_,λb o e hx=>?_,λb xs e=>tups b xs (I.base.tups b xs e),λb o xs e=>frzs b o xs (I.base.frzs b o xs e),λb ps e=>?_⟩,?_,λx c e=>?_,?_,λx c e=>?_,λp hp=>?_,hok,I.len⟩
 ·exact keep b o (neL b o e) hb (neC b o e hx) (I.base.keep b o e n hb hx) (I.base.free b o e n hx)
 ·obtain⟨sl,e1⟩:=I.base.slot b o e n hb hx
  obtain⟨sl',e2⟩:=slot b _ (neL b o e) hb (neC b o e hx) e1 (I.base.free b o e n hx);exact⟨sl',e2⟩
 ·obtain⟨o',e1⟩:=I.base.there b o e hx
  exact free b o' (neC b o e hx) e1 (I.base.free b o e n hx)
 ·obtain⟨o',e1⟩:=I.base.there b o e hx
  exact there b o' (neC b o e hx) e1
 ·obtain⟨m1,e1⟩:=I.base.tbls b ps e
  obtain⟨m2,e2⟩:=tbls b _ e1;exact⟨m1++m2,by rw[e2,Array.append_assoc]⟩
 ·obtain⟨m,hn,hl⟩:=I.loc
  refine⟨m,ns m hn,λi x v e1 e2 e3=>?_⟩;obtain⟨u,r,l⟩:=hl i x v e1 e2 e3;refine⟨u,r,?_⟩;rcases l with l|⟨k,c,e,z⟩
  ·exact .inl l
  ·exact .inr ⟨k,c,e,cellK x c e _ z⟩
 ·obtain⟨v,z⟩:=I.cell x c e
  exact⟨v,cellK x c e v z⟩
 ·obtain⟨m,⟨o,_,_,ho,_⟩,_⟩:=I.loc
  exact free _ o (λz=>(hch _ z).2.1 rfl) ho I.free
 ·obtain⟨v,o,ho,hd⟩:=I.cell x c e
  exact free c o (λz=>(hch c z).2.2.1 x c e rfl) ho (I.freeC x c e)
 ·obtain⟨e,n,ne,nf,d⟩:=I.pin p hp
  have nch:p.1 ∉ ch:=λz=>(hch p.1 z).2.2.2 p hp rfl;exact⟨keep p.1 p.2 ne nf nch e n,free p.1 p.2 nch e n,ne,nf,d⟩
theorem Inv.un{t':Nat}(I:↑13)(u:Un X.fs [] H H' s.heap h')(hok:HOk X.prog X.w H' h'):Inv X pins σ H' { s with heap:=h',toks:=t' }:=by
 obtain⟨m,⟨o,es,ep,ho,r⟩,_⟩:=id I.loc;obtain⟨sl,hL⟩:=u.any ho I.free (by simp)
 exact I.step (g':=s.gens) (d':=s.drawn) (ch:=[]) (λ_ z=>nomatch z) (λb o _ hb _ e n=>u.keep b o e n hb (by simp)) (λb o _ hb _ e n=>u.slot b o e n hb (by simp)) (λb o _ e n=>u.free b o e n (by simp)) (λb o _ e=>u.there b o e (by simp)) u.tups u.frzs u.tbls (λm' hm=>by
  obtain⟨o',es',ep',ho',r'⟩:=hm;rw[ho] at ho';cases ho';exact⟨_,es',ep',hL,r'⟩) hok I.bare
theorem Inv.call{g':Array GenState}{t':Nat}{d':Drawn}{ch:List Addr}(I:↑13)(u:Un (frs X.stack) ch H H' s.heap h')(hok:HOk X.prog X.w H' h')(hg:AllBare g')(hch:∀b∈ch,(b∈X.ex\/X.s₀.heap.objs.size<=b)/\b≠X.env.locals/\(∀x c,X.env.cells.lookup x=some c->c≠b)/\∀p∈X.pn++pins,p.1≠b):
  Inv X pins σ H' { s with heap:=h',gens:=g',drawn:=d',toks:=t' }:=by
 obtain⟨m,⟨o,es,ep,ho,r⟩,_⟩:=id I.loc;obtain⟨sl,hL⟩:=u.any ho I.free λz=>(hch _ z).2.1 rfl;exact I.step (ch:=ch) hch (λb o hL hb hc e n=>u.keep b o e n (λz=>(List.mem_cons.mp (I.stkSub b z)).elim hL hb) hc) (λb o _ _ hc e n=>u.any e n hc) (λb o hc e n=>u.free b o e n hc) (λb o hc e=>u.there b o e hc) u.tups u.frzs u.tbls (λm' hm=>by
  obtain⟨o',es',ep',ho',r'⟩:=hm;rw[ho] at ho';cases ho';exact⟨_,es',ep',hL,r'⟩) hok hg
theorem Inv.turned{t':Nat}{it:Addr}(I:↑13)(k:∀b o,b≠it->s.heap.get? b=some o->h'.get? b=some o)(hn:H it=none)(hL:it≠X.env.locals)(h1:it∈X.ex\/X.s₀.heap.objs.size<=it)(h2:∀x c,X.env.cells.lookup x=some c->c≠it)(h3:∀p∈X.pn++pins,p.1≠it):Inv X pins σ H { s with heap:=h',toks:=t' }:=by
 have nit:∀b u,H b=some u->b≠it:=λb u e z=>by rw[z,hn] at e;cases e
 refine I.step (g':=s.gens) (d':=s.drawn) (ch:=[it]) (λb hb=>?_) (λb o _ _ hc e _=>k b o (λz=>hc (by simp[z])) e) (λb o _ _ hc e _=>⟨o.slots,k b o (λz=>hc (by simp[z])) e⟩) (λ_ _ _ _ n=>n)
  (λb o hc e=>⟨o,k b o (λz=>hc (by simp[z])) e⟩) (λ_ _ e=>e) (λ_ _ _ e=>e) (λb ps e=>⟨#[],by rw[e];simp⟩) (λm hm=>?_) (λb u e=>?_) I.bare
 ·have e:b=it:=by simpa using hb
  subst e;exact⟨h1,hL,h2,h3⟩
 ·obtain⟨o,es,ep,ho,r⟩:=hm
  exact⟨o,es,ep,k _ o (Ne.symm hL) ho,r⟩
 ·refine (I.hok b u e).stay (λc v hc q=>k c v ?_ q) (λ_ q=>q) λ_ _ q=>q
  rcases hc with z|z
  ·rw[z];exact nit b u e
  ·exact nit c _ z
theorem Inv.tok(I:↑13)(t:Nat):Inv X pins σ H { s with toks:=t }:=I.un (h':=s.heap) (t':=t) Un.refl I.hok
theorem Inv.kept{t':Nat}(I:↑13)(k:∀b u,s.heap.get? b=some u->h'.get? b=some u):Inv X pins σ H { s with heap:=h',toks:=t' }:=I.un (Un.kept k) (I.hok.kept k)
theorem Inv.laid{a:Addr}{o:HO}{t':Nat}(I:↑13)(k:∀b u,s.heap.get? b=some u->h'.get? b=some u)(hp:s.heap.objs.size<=a)(new:ObjOk X.prog X.w (upd H a o) h' a o):
  Inv X pins σ (upd H a o) { s with heap:=h',toks:=t' }:=I.un (Un.laid k hp (I.hok.fresh hp)) (I.hok.laid k hp new)
theorem Inv.write{x e:Addr}{o:HO}{t':Nat}(I:↑13)(mu:Mut (H x))(he:e=x\/H e=some (.own x))(k:∀b u,b≠e->s.heap.get? b=some u->h'.get? b=some u)(heo:∃u,h'.get? e=some u)(new:ObjOk X.prog X.w (upd H x o) h' x o):Inv X pins σ (upd H x o) { s with heap:=h',toks:=t' }:=I.un (Un.write mu he k heo) (I.hok.write mu he k heo new)
theorem Inv.weak{σ':List (Option V)}(I:↑13)(hl:σ'.length=σ.length)(w:∀(i:Nat) v,σ'[i]?=some (some v)->σ[i]?=some (some v)):Inv X pins σ' H s :=
 ⟨I.ok,I.os,I.bare,I.base,let ⟨m,hn,hl'⟩:=I.loc;⟨m,hn,λi x v e1 e2 e3=>hl' i x v e1 (w i v e2) e3⟩,I.cell,I.free,I.freeC,I.pin,I.hok,hl.trans I.len⟩
theorem Inv.pins_of{pins':List ↑24}(I:↑13)(h:∀p∈pins',s.heap.get? p.1=some p.2/\H p.1=none/\p.1≠X.env.locals/\p.1 ∉ X.fs/\∀v,p.2.data≠.cell v):Inv X pins' σ H s :=
 ⟨I.ok,I.os,I.bare,I.base,I.loc,I.cell,I.free,I.freeC,λp hp=>(List.mem_append.mp hp).elim (λz=>I.pin p (List.mem_append_left _ z)) (h p),I.hok,I.len⟩
theorem c8g{N:List Str}(hN:N.Nodup){i j:Nat}{x:Str}(a:N[i]?=some x)(b:N[j]?=some x):i=j:=by
 obtain⟨h1,e1⟩:=List.getElem?_eq_some_iff.mp a;obtain⟨h2,e2⟩:=List.getElem?_eq_some_iff.mp b;exact(List.getElem_inj hN).mp (e1.trans e2.symm)
theorem c2r{M:Model}{A:Around}{E:Value->Shared->Prop}{i:Nat}{x:Str}{v:V}{u:Value}{Q:Unit->Shared->Prop}(I:↑13)(hN:X.N.Nodup)(hi:X.N[i]?=some x)(hx:Loc X.env.scope x)(r:RelV v u)(h:∀s',Inv X pins (σ.set i (some v)) H s'->(∃a,Heap.SameBut a s.heap s'.heap/\(a=X.env.locals\/X.env.cells.lookup x=some a))->Q () s')(hf:X.fn x=true\/X.env.scope.names.lookup x=some .local:=by fail "Y4"):wpAny M A (storeName X.env x u) Q E s:=by
 obtain⟨m,hn,hl⟩:=id I.loc;have hcls:(X.env.scope.kind == .class || (X.env.scope.kind == .module && X.env.locals != X.env.globals))=false:=by rw[I.ok.kind];rfl
 have hiσ:i<σ.length:=by rw[I.len];exact(List.getElem?_eq_some_iff.mp hi).1
 have cne:=I.cne;have tracked:∀{a:Addr}{h':Heap},(∃o,s.heap.get? a=some o/\H a=none)->Heap.SameBut a s.heap h'->HOk X.prog X.w H h':=λ{a h'} ha hs b ob e=>by
  obtain⟨_,_,hfree⟩:=ha;refine (I.hok b ob e).stay (λc w' hc q=>(hs.2 c ?_).trans q) (λ_ q=>q) λ_ _ q=>q;rintro rfl;rcases hc with rfl|hc
  ·rw[hfree] at e;cases e
  ·rw[hfree] at hc;cases hc
 rcases hx with hk|hk
 ·refine wpAny_storeName_local hk hn (λh' hn' hs=>?_) hcls
  obtain⟨oL,_,_,hoL,_⟩:=id hn;refine h _ ⟨I.ok,I.os,I.bare,⟨λb o e n hb hx=>?_,λb o e n hb hx=>?_,I.base.free,λb o e hx=>?_,I.base.tups,I.base.frzs,I.base.tbls⟩,⟨_,hn',λj y v' e1 e2 e3=>?_⟩,λy c e=>?_,I.free,I.freeC,λp hp=>?_,tracked ⟨oL,hoL,I.free⟩ hs,by simpa using I.len⟩ ⟨_,hs,.inl rfl⟩
  ·exact(hs.2 b (Nat.ne_of_lt (Nat.lt_of_lt_of_le (Heap.lt_size e) I.ok.above))).trans (I.base.keep b o e n hb hx)
  ·obtain⟨sl,e1⟩:=I.base.slot b o e n hb hx
   exact⟨sl,(hs.2 b (Nat.ne_of_lt (Nat.lt_of_lt_of_le (Heap.lt_size e) I.ok.above))).trans e1⟩
  ·obtain⟨o',e1⟩:=I.base.there b o e hx
   exact⟨o',(hs.2 b (Nat.ne_of_lt (Nat.lt_of_lt_of_le (Heap.lt_size e) I.ok.above))).trans e1⟩
  ·by_cases hj:j=i
   ·subst hj
    rw[hi] at e1;cases e1;rw[List.getElem?_set_self hiσ] at e2;cases e2;exact⟨u,r,.inl ⟨hk,by simp⟩⟩
   ·rw[List.getElem?_set_ne (Ne.symm hj)] at e2
    obtain⟨u',r',q⟩:=hl j y v' e1 e2 e3;refine⟨u',r',?_⟩;rcases q with ⟨k,e⟩|⟨k,c,e,z⟩
    ·refine .inl ⟨k,?_⟩
     have:y≠x:=λe=>hj (c8g hN e1 (e ▸ hi));simp[this,e]
    ·exact .inr ⟨k,c,e,z.sameBut hs (cne y c e)⟩
  ·obtain⟨w',z⟩:=I.cell y c e
   exact⟨w',z.sameBut hs (cne y c e)⟩
  ·obtain⟨e,n,ne,nf,d⟩:=I.pin p hp
   exact⟨(hs.2 p.1 ne).trans e,n,ne,nf,d⟩
 ·have hfn:X.fn x=true:=by
   rcases hf with z|z
   ·exact z
   ·rw[z] at hk;cases hk
  obtain⟨c,hc⟩:=I.ok.has x (.inl hk);obtain⟨w',z⟩:=I.cell x c hc;refine wpAny_storeName_cell I.ok.kind hk hc z (λh' hc' hs=>?_);obtain⟨oc,hoc,hocd⟩:=id z;refine h { s with heap:=h' } ⟨I.ok,I.os,I.bare,⟨λb o e n hb hx=>?_,λb o e n hb hx=>?_,I.base.free,λb o e hx=>?_,I.base.tups,I.base.frzs,I.base.tbls⟩,⟨m,hn.sameBut hs (Ne.symm (cne x c hc)),λj y v' e1 e2 e3=>?_⟩,λy c' e=>?_,I.free,I.freeC,λp hp=>?_,tracked ⟨oc,hoc,I.freeC x c hc⟩ hs,by simpa using I.len⟩ ⟨c,hs,.inr hc⟩
  ·exact(hs.2 b (Nat.ne_of_lt (Nat.lt_of_lt_of_le (Heap.lt_size e) (I.ok.cab x c hfn hc)))).trans (I.base.keep b o e n hb hx)
  ·obtain⟨sl,e1⟩:=I.base.slot b o e n hb hx
   exact⟨sl,(hs.2 b (Nat.ne_of_lt (Nat.lt_of_lt_of_le (Heap.lt_size e) (I.ok.cab x c hfn hc)))).trans e1⟩
  ·obtain⟨o',e1⟩:=I.base.there b o e hx
   exact⟨o',(hs.2 b (Nat.ne_of_lt (Nat.lt_of_lt_of_le (Heap.lt_size e) (I.ok.cab x c hfn hc)))).trans e1⟩
  ·by_cases hj:j=i
   ·subst hj
    rw[hi] at e1;cases e1;rw[List.getElem?_set_self hiσ] at e2;cases e2;exact⟨u,r,.inr ⟨.inl hk,c,hc,hc'⟩⟩
   ·rw[List.getElem?_set_ne (Ne.symm hj)] at e2
    obtain⟨u',r',q⟩:=hl j y v' e1 e2 e3;refine⟨u',r',?_⟩;rcases q with q|⟨k,c',e,z'⟩
    ·exact .inl q
    ·refine .inr ⟨k,c',e,z'.sameBut hs ?_⟩
     rintro rfl;exact hj (c8g hN e1 (I.ok.inj _ _ _ e hc ▸ hi))
  ·by_cases hcc:c'=c
   ·subst hcc;exact⟨_,hc'⟩
   ·obtain⟨w2,z2⟩:=I.cell y c' e
    exact⟨w2,z2.sameBut hs hcc⟩
  ·obtain⟨e,n,ne,nf,d⟩:=I.pin p hp
   refine⟨(hs.2 p.1 ?_).trans e,n,ne,nf,d⟩;intro q;rw[q,hoc] at e;have q':oc=p.2:=Option.some.inj e;exact d w' (by rw[<- q'];exact hocd)
theorem c0f{M:Model}{A:Around}{E:Value->Shared->Prop}{i:Nat}{x:Str}{v:V}{u:Value}{Q:Unit->Shared->Prop}(I:↑13)(hN:X.N.Nodup)(hi:X.N[i]?=some x)(hx:Loc X.env.scope x)(r:RelV v u)(h:∀s',Inv X pins (σ.set i (some v)) H s'->Q () s')(hf:X.fn x=true\/X.env.scope.names.lookup x=some .local:=by fail "Y4"):wpAny M A (storeName X.env x u) Q E s :=
 c2r I hN hi hx r (λs' I' _=>h s' I') hf
theorem Inv.call'{s':Shared}{ch:List Addr}(I:↑13)(ho:s'.os=s.os)(u:Un (frs X.stack) ch H H' s.heap s'.heap)(hok:HOk X.prog X.w H' s'.heap)(hg:AllBare s'.gens)(hch:∀b∈ch,(b∈X.ex\/X.s₀.heap.objs.size<=b)/\b≠X.env.locals/\(∀x c,X.env.cells.lookup x=some c->c≠b)/\∀p∈X.pn++pins,p.1≠b):Inv X pins σ H' s':=by
 obtain⟨h',g',d',t',o'⟩:=s';have e:o'=s.os:=ho;subst e;exact I.call (g':=g') (t':=t') (d':=d') u hok hg hch
end
abbrev XK:=Value->Option Addr->Hp->Prop
abbrev St:=List (Option V)
abbrev VK:=V->Hp->Prop
abbrev TE:=St->Hp->VK->Prop
abbrev TT:=St->Hp->(Bool->Hp->Prop)->Prop
abbrev TA:=St->Hp->(List V->Hp->Prop)->Prop
structure d7m where
 nx:St->Hp->Prop
 rt:VK
 bk:St->Hp->Prop:=λ_ _=>False
 ct:St->Hp->Prop:=λ_ _=>False
abbrev TS:=d7m->St->Hp->Prop
def EP(X:Cx)(pins:List ↑24)(σ:St)(Q:VK)(u:Value)(s':Shared):Prop:=∃v H',Inv X pins σ H' s'/\RelV v u/\Q v H'
def TP(X:Cx)(pins:List ↑24)(σ:St)(Q:Bool->Hp->Prop)(b:Bool)(s':Shared):Prop:=∃H',Inv X pins σ H' s'/\Q b H'
def AP(X:Cx)(pins:List ↑24)(σ:St)(Q:List V->Hp->Prop)(us:List Value)(s':Shared):Prop:=∃vs H',Inv X pins σ H' s'/\Vals vs us/\Q vs H'
noncomputable def SP(X:Cx)(pins:List ↑24)(D:d7m)(f:Flow)(s':Shared):Prop :=
 match f with
 | .next=>∃σ' H',Inv X pins σ' H' s'/\D.nx σ' H'
 | .brk=>∃σ' H',Inv X pins σ' H' s'/\D.bk σ' H'
 | .cont=>∃σ' H',Inv X pins σ' H' s'/\D.ct σ' H'
 | .ret u=>∃v σ' H',Inv X pins σ' H' s'/\RelV v u/\D.rt v H'
noncomputable def PE(X:Cx)(e:Expr)(t:TE):Prop :=
 ∀(pins:List ↑24)(s:Shared)(σ:St)(H:Hp)(Q:VK),Inv X pins σ H s->t σ H Q->wpAny ↑20 X.A (eval e X.env) (EP X pins σ Q) X.xe s
noncomputable def PT(X:Cx)(e:Expr)(t:TT):Prop :=
 ∀(pins:List ↑24)(s:Shared)(σ:St)(H:Hp)(Q:Bool->Hp->Prop),Inv X pins σ H s->t σ H Q->wpAny ↑20 X.A (isTrue e X.env (eval e X.env)) (TP X pins σ Q) X.xe s
noncomputable def PW(X:Cx)(e:Expr)(t:TT):Prop :=
 ∀(whole:Sem Value)(pins:List ↑24)(s:Shared)(σ:St)(H:Hp)(Q:Bool->Hp->Prop),Inv X pins σ H s->t σ H Q->wpAny ↑20 X.A (isTrue e X.env whole) (TP X pins σ Q) X.xe s
theorem PW.pt{X:Cx}{e:Expr}{t:TT}(h:PW X e t):PT X e t:=h _
noncomputable def PA(X:Cx)(es:List Expr)(t:TA):Prop :=
 ∀(pos:Pos)(pins:List ↑24)(s:Shared)(σ:St)(H:Hp)(Q:List V->Hp->Prop),Inv X pins σ H s->t σ H Q->wpAny ↑20 X.A (spliced (backTo pos (starEach es X.env))) (AP X pins σ Q) X.xe s
noncomputable def PS(X:Cx)(st:Stmt)(t:TS):Prop :=
 ∀(pins:List ↑24)(s:Shared)(σ:St)(H:Hp)(D:d7m),Inv X pins σ H s->t D σ H->wpAny ↑20 X.A (exec st X.env) (SP X pins D) X.xe s
noncomputable def PSs(X:Cx)(st:List Stmt)(t:TS):Prop :=
 ∀(pins:List ↑24)(s:Shared)(σ:St)(H:Hp)(D:d7m),Inv X pins σ H s->t D σ H->wpAny ↑20 X.A (execs st X.env) (SP X pins D) X.xe s
theorem thn{α:Type}{t:Sem α}{Q Q':α->Shared->Prop}{M:Model}{A:Around}{E:Value->Shared->Prop}{s:Shared}(h:wpAny M A t Q E s)(hQ:∀a s,Q a s->Q' a s):wpAny M A t Q' E s:=wpAny_mono h hQ λ_ _ x=>x
section
variable{X:Cx}
noncomputable def e3m(i:Nat):TE:=λσ H Q=>∃v,σ[i]?=some (some v)/\Q v H
def tC(v:V):TE:=λ_ H Q=>Q v H
theorem d6y{i:Nat}{x:Str}{pos:Pos}(hN:X.N[i]?=some x)(hv:Vis X.env.scope x)(hd:↑33=false:=by decide)(hcd:(x == ("__classdict__":Str))=false:=by decide):PE X (.Name x pos) (e3m i):=by
 fail "i";obtain⟨v,e,h⟩:=h;obtain⟨m,hn,hl⟩:=I.loc;obtain⟨u,r,l⟩:=hl i x v hN e hv;have fin:EP X pins σ Q u s:=⟨v,H,I,r,h⟩;rcases l with ⟨hk,hm⟩|⟨hk,c,hc,hcell⟩
 ·exact wpAny_Name (wpAny_loadName_local I.ok.kind hk hn hm fin) hd
 ·rcases hk with hk|hk
  ·exact wpAny_Name (wpAny_loadName_cell I.ok.kind hk hc hcell fin) hd
  ·exact wpAny_Name (wpAny_loadName_free I.ok.kind hk hc hcell fin hcd) hd
theorem d8{i j pos}:PE X (.Constant (.int i) j pos) (tC (.int i)):=λ_ _ _ H _ I h=>wpAny_Constant_int ⟨.int i,H,I.tok _,⟨_,rfl⟩,h⟩
theorem e1q{b j pos}:PE X (.Constant (.bool b) j pos) (tC (.bl b)):=λ_ _ _ H _ I h=>Constant_bool ⟨.bl b,H,I,rfl,h⟩
theorem a2k{j pos}:PE X (.Constant .none j pos) (tC .non):=λ_ _ _ H _ I h=>Constant_none ⟨.non,H,I,rfl,h⟩
theorem g6{x j pos}:PE X (.Constant (.str x) j pos) (tC (.str x)):=λ_ _ _ H _ I h=>Calls.Constant_str ⟨.str x,H,I.tok _,⟨_,rfl⟩,h⟩
def Gl(X:Cx)(x:Str):Prop:=X.env.kindOf x=some .globalImplicit
theorem c2c{E:Value->Shared->Prop}{pins:List ↑24}{s:Shared}{σ:St}{H:Hp}{x:Str}{u:Value}{pos:Pos}{Q:Value->Shared->Prop}(I:↑13)(hg:Gl X x)(hm:X.mg x=some u)(h:Q u s)(hd:↑33=false:=by decide):wpAny ↑20 X.A (eval (.Name x pos) X.env) Q E s :=
 Calls.Name_function_global I.ok.kind hg (Calls.loadGlobal_global (by rw[I.ok.glob];exact I.mod.glob.keeps I.bk) hm h) hd
theorem c4t{E:Value->Shared->Prop}{pins:List ↑24}{s:Shared}{σ:St}{H:Hp}{x:Str}{u:Value}{pos:Pos}{Q:Value->Shared->Prop}(I:↑13)(hg:Gl X x)(hm:X.mg x=none)(hv:bootBuiltins x=some u)(h:Q u s)(hn:x≠"__name__":=by decide)(hd:↑33=false:=by decide):wpAny ↑20 X.A (eval (.Name x pos) X.env) Q E s:=by
 obtain⟨mb,h1,h2⟩:=I.mod.blt;exact Calls.Name_function_global I.ok.kind hg (Calls.loadGlobal_builtin (by rw[I.ok.glob];exact I.mod.glob.keeps I.bk) hm (by rw[I.ok.blt];exact h1.keeps I.bk) ((h2 x hn).trans hv) h) hd
theorem c6g{x:Str}{v:V}{u:Value}{pos:Pos}(hg:Gl X x)(hm:X.mg x=some u)(r:RelV v u)(hd:↑33=false:=by decide):PE X (.Name x pos) (tC v) :=
 λ_ _ _ H _ I h=>c2c I hg hm ⟨v,H,I,r,h⟩ hd
theorem d8s{x:Str}{v:V}{u:Value}{pos:Pos}(hg:Gl X x)(hm:X.mg x=none)(hv:bootBuiltins x=some u)(r:RelV v u)(hn:x≠"__name__":=by decide)(hd:↑33=false:=by decide):PE X (.Name x pos) (tC v) :=
 λ_ _ _ H _ I h=>c4t I hg hm hv ⟨v,H,I,r,h⟩ hn hd
variable{a b:Expr}{ta tb:TE}{pos:Pos}
noncomputable def tB(t:TE):TT:=λσ H Q=>t σ H λx H1=>∃c,x=.bl c/\Q c H1
theorem a6h{e:Expr}{t:TE}(h:PE X e t)(he:∀whole,isTrue e X.env whole=(do let v <- whole;standAt e.pos;holding [v] (truthy v)):=by intro _;rfl):PT X e (tB t):=by
 intro pins s σ H Q I hw;refine isTrue_plain (thn (h pins s σ H _ I hw) λv s1 z0_=>?_) (he _);obtain⟨x,H1,I1,r1,q1⟩:=z0_;obtain⟨d,rfl,q⟩:=q1;cases r1;exact wpAny_truthy_bool ⟨H1,I1,q⟩
variable{tA tB':TT}{rest:List Expr}
noncomputable def e5z(t u:TT):TT:=λσ H Q=>t σ H λc H1=>if c=true then u σ H1 Q else Q false H1
noncomputable def tOr(t u:TT):TT:=λσ H Q=>t σ H λc H1=>if c=true then Q true H1 else u σ H1 Q
def e5w(t:TT):TT:=λσ H Q=>t σ H λc H1=>Q (!c) H1
theorem a8t(ha:PT X a tA):PW X (.BoolOp .And [a] pos) tA:=by
 intro wh pins s σ H Q I h;refine isTrue_and (thn (ha pins s σ H Q I h) λc s1 e=>?_);cases c with
 | true=>exact isTrue_and_nil e
 | false=>exact e
theorem b3c(ha:PT X a tA):PW X (.BoolOp .Or [a] pos) tA:=by
 intro wh pins s σ H Q I h;refine isTrue_or (thn (ha pins s σ H Q I h) λc s1 e=>?_);cases c with
 | false=>exact isTrue_or_nil e
 | true=>exact e
theorem b5p(ha:PT X a tA)(hb:PW X (.BoolOp .And (b::rest) pos) tB'):PW X (.BoolOp .And (a::b::rest) pos) (e5z tA tB'):=by
 intro wh pins s σ H Q I h;refine isTrue_and (thn (ha pins s σ H _ I h) λc s1 z0_=>?_);obtain⟨H1,I1,q1⟩:=z0_;cases c with
 | true=>exact hb wh pins s1 σ H1 Q I1 q1
 | false=>exact⟨H1,I1,q1⟩
theorem c1e(ha:PT X a tA)(hb:PW X (.BoolOp .Or (b::rest) pos) tB'):PW X (.BoolOp .Or (a::b::rest) pos) (tOr tA tB'):=by
 intro wh pins s σ H Q I h;refine isTrue_or (thn (ha pins s σ H _ I h) λc s1 z0_=>?_);obtain⟨H1,I1,q1⟩:=z0_;cases c with
 | true=>exact⟨H1,I1,q1⟩
 | false=>exact hb wh pins s1 σ H1 Q I1 q1
theorem b9i(ha:PT X a tA):PT X (.UnaryOp .Not a pos) (e5w tA):=by
 fail "i";exact isTrue_not (ha pins s σ H (λc H1=>Q (!c) H1) I h)
noncomputable def e0z(ta tb:TE):TE:=λσ H Q=>ta σ H λx H1=>∃c,x=.bl c/\if c=true then tb σ H1 Q else Q (.bl false) H1
noncomputable def e5v(ta tb:TE):TE:=λσ H Q=>ta σ H λx H1=>∃c,x=.bl c/\if c=true then Q (.bl true) H1 else tb σ H1 Q
noncomputable def e0q(ta:TE):TE:=λσ H Q=>ta σ H λx H1=>∃c,x=.bl c/\Q (.bl (!c)) H1
theorem b9j{op}{t:TE}(h:PE X a t):PE X (.BoolOp op [a] pos) t:=λpins s σ H Q I hw=>BoolOp_one (h pins s σ H Q I hw)
theorem c3m(ha:PE X a ta)(hb:PE X (.BoolOp .And (b::rest) pos) tb):PE X (.BoolOp .And (a::b::rest) pos) (e0z ta tb):=by
 fail "i";refine BoolOp_and (thn (ha pins s σ H _ I h) λv s1 z0_=>?_);obtain⟨x,H1,I1,r1,q1⟩:=z0_;obtain⟨c,rfl,q1⟩:=q1;cases r1;refine wpAny_truthy_bool ?_;cases c with
 | true=>exact hb pins s1 σ H1 Q I1 q1
 | false=>exact⟨.bl false,H1,I1,rfl,q1⟩
theorem e4k(ha:PE X a ta)(hb:PE X (.BoolOp .Or (b::rest) pos) tb):PE X (.BoolOp .Or (a::b::rest) pos) (e5v ta tb):=by
 fail "i";refine BoolOp_or (thn (ha pins s σ H _ I h) λv s1 z0_=>?_);obtain⟨x,H1,I1,r1,q1⟩:=z0_;obtain⟨c,rfl,q1⟩:=q1;cases r1;refine wpAny_truthy_bool ?_;cases c with
 | false=>exact hb pins s1 σ H1 Q I1 q1
 | true=>exact⟨.bl true,H1,I1,rfl,q1⟩
theorem e1n(ha:PE X a ta):PE X (.UnaryOp .Not a pos) (e0q ta):=by
 fail "i";refine UnaryOp_ (thn (ha pins s σ H _ I h) λv s1 z0_=>?_);obtain⟨x,H1,I1,r1,q1⟩:=z0_;obtain⟨c,rfl,q1⟩:=q1;cases r1;exact not_of (wpAny_truthy_bool ⟨.bl (!c),H1,I1,rfl,q1⟩)
noncomputable def tIf(t:TT)(ta tb:TE):TE:=λσ H Q=>t σ H λc H1=>if c=true then ta σ H1 Q else tb σ H1 Q
theorem a5k{c:Expr}(hc:PT X c tA)(ha:PE X a ta)(hb:PE X b tb):PE X (.IfExp c a b pos) (tIf tA ta tb):=by
 fail "i";refine wpAny_IfExp (thn (hc pins s σ H _ I h) λd s1 z0_=>?_);obtain⟨H1,I1,q1⟩:=z0_;cases d with
 | true=>exact ha pins s1 σ H1 Q I1 q1
 | false=>exact hb pins s1 σ H1 Q I1 q1
end
noncomputable def SqL(K:↑28)(H:Hp)(a:Addr)(xs:List V):Prop :=
 Rd H a (.lst xs) \/
  ∃(o:Obj)(its:Array Value)(n:Nat),K.lookup a=some o/\o.cls=.type "list"/\o.dict=none/\o.data=.seq its n/\its.size<=sizeLine/\Vals xs its.toList
noncomputable def SqT(K:↑28)(H:Hp)(a:Addr)(xs:List V):Prop :=
 Rd H a (.tup xs) \/
  ∃(o:Obj)(its:Array Value)(n:Nat),K.lookup a=some o/\o.cls=.type "tuple"/\o.data=.seq its n/\its.size<=sizeLine/\Vals xs its.toList
noncomputable def e7l:Value->Option V
 | .none=>some .non
 | .bool b=>some (.bl b)
 | .int i _=>some (.int i)
 | .str x _=>some (.str x)
 | .bytes b _=>some (.byt b)
 | .float b _=>some (.flt b)
 | .ref a=>some (.ref a)
 | .type n=>some (.ty n)
 | _=>none
theorem RelV.abs{x:V}{u:Value}(r:RelV x u):e7l u=some x:=by
 cases x with
 | non=>cases r;rfl
 | bl _=>cases r;rfl
 | int _=>obtain⟨t,rfl⟩:=r;rfl
 | str _=>obtain⟨t,rfl⟩:=r;rfl
 | byt _=>obtain⟨t,rfl⟩:=r;rfl
 | flt _=>obtain⟨t,rfl⟩:=r;rfl
 | ref _=>cases r;rfl
 | ty _=>cases r;rfl
theorem RelV.inj{x y:V}{u:Value}(r:RelV x u)(q:RelV y u):x=y:=Option.some.inj (r.abs.symm.trans q.abs)
theorem Vals.inj{xs ys:List V}{us:List Value}(h:Vals xs us)(h':Vals ys us):xs=ys:=by
 induction h generalizing ys with
 | nil=>cases h';rfl
 | cons r t ih=>cases h' with|cons r' t'=>rw[r.inj r',ih t']
section
variable{X:Cx}{pins:List ↑24}{σ:St}{H:Hp}{s:Shared}{a:Addr}{xs ys:List V}
theorem SqL.of{K:Frag}(h:H a=some (.lst xs)):SqL K H a xs:=.inl (.inl h)
theorem SqT.of{K:Frag}(h:H a=some (.tup xs)):SqT K H a xs:=.inl (.inl h)
theorem Inv.list(I:↑13)(h:SqL X.K H a xs):∃its:List Value,Vals xs its/\PlainL s.heap a its.toArray/\xs.length<=sizeLine:=by
 rcases h with h|⟨o,its,n,hk,hc,hd,hs,hz,r⟩
 ·obtain⟨z,its,n,r,e⟩:=h.ok I.hok
  exact⟨its,r,⟨_,n,e,rfl,rfl,rfl⟩,z⟩
 ·refine⟨its.toList,r,⟨o,n,I.kIn a o hk,hc,hd,by simpa using hs⟩,?_⟩
  have e:=r.length;simp only[Array.length_toList] at e;lia
theorem Inv.tuple(I:↑13)(h:SqT X.K H a xs):∃its:List Value,Vals xs its/\IsTup s.heap a its.toArray/\xs.length<=sizeLine:=by
 rcases h with h|⟨o,its,n,hk,hc,hs,hz,r⟩
 ·obtain⟨z,its,r,p⟩:=h.ok I.hok
  exact⟨its,r,p,z⟩
 ·refine⟨its.toList,r,⟨o,I.kIn a o hk,hc,n,by simpa using hs⟩,?_⟩
  have e:=r.length;simp only[Array.length_toList] at e;lia
theorem Inv.list_inj(I:↑13)(h:SqL X.K H a xs)(h':SqL X.K H a ys):xs=ys:=by
 obtain⟨its,r,⟨o,n,e,_,_,d⟩,_⟩:=I.list h;obtain⟨its',r',⟨o',n',e',_,_,d'⟩,_⟩:=I.list h';rw[e] at e';cases e';rw[d] at d';injection d' with d1 _
 have:its=its':=by simpa using congrArg Array.toList d1
 subst this;exact r.inj r'
end
section
variable{X:Cx}{st:Stmt}{rest:List Stmt}{t u:TS}{e:Expr}{te:TE}{pos:Pos}
def d8c:TS:=λD σ H=>D.nx σ H
def e3x(t u:TS):TS:=λD σ H=>t { D with nx:=u D } σ H
theorem m3:PSs X [] d8c:=λ_ _ σ H _ I h=>wpAny_execs_nil ⟨σ,H,I,h⟩
theorem b9(h1:PS X st t)(h2:PSs X rest u):PSs X (st::rest) (e3x t u):=by
 intro pins s σ H D I h;refine wpAny_execs_cons (thn (h1 pins s σ H { D with nx:=u D } I h) λf s1 q=>?_)
 cases f with
 | next=>
  obtain⟨σ',H',I',q⟩:=q;exact h2 pins s1 σ' H' D I' q
 | ret v=>exact q
 | brk=>exact q
 | cont=>exact q
theorem d5(h1:PS X st t):PSs X [st] t:=by
 intro pins s σ H D I h;refine wpAny_execs_cons (thn (h1 pins s σ H D I h) λf s1 q=>?_);cases f with
 | next=>exact wpAny_execs_nil q
 | ret v=>exact q
 | brk=>exact q
 | cont=>exact q
theorem Inv.quiet{pins:List ↑24}{σ:St}{H:Hp}{s:Shared}(I:↑13):interactive X.env=false:=by simp[interactive,I.ok.kind]
def e0t(te:TE):TS:=λD σ H=>te σ H λ_ H1=>D.nx σ H1
theorem i3(he:PE X e te)(hs:swapsWith e none pos.line X.env=pure false:=by rfl):PS X (.Expr e pos) (e0t te):=by
 intro pins s σ H D I h;exact wpAny_Expr_any (thn (he pins s σ H _ I h) λv s1 z0_=>by obtain⟨x,H1,I1,r1,q1⟩:=z0_;exact⟨σ,H1,I1,q1⟩) I.quiet hs
def e5u(te:TE):TS:=λD σ H=>te σ H D.rt
theorem i9(he:PE X e te):PS X (.Return (some e) pos) (e5u te):=by
 intro pins s σ H D I h;exact wpAny_Return_some (thn (he pins s σ H _ I h) λv s1 z0_=>by obtain⟨x,H1,I1,r1,q1⟩:=z0_;exact⟨x,σ,H1,I1,r1,q1⟩)
noncomputable def e4a(c:TT)(t u:TS):TS:=λD σ H=>c σ H λb H1=>if b=true then t D σ H1 else u D σ H1
theorem m4{c:Expr}{a b:List Stmt}{tc:TT}(hc:PT X c tc)(ha:PSs X a t)(hb:PSs X b u):PS X (.If c a b pos) (e4a tc t u):=by
 intro pins s σ H D I h;refine wpAny_If (thn (hc pins s σ H _ I h) λd s1 z0_=>?_);obtain⟨H1,I1,q1⟩:=z0_;cases d with
 | true=>exact ha pins s1 σ H1 D I1 q1
 | false=>exact hb pins s1 σ H1 D I1 q1
def e0r:TS:=λ_ _ _=>False
theorem a5i:PS X st e0r:=λ_ _ _ _ _ _ h=>h.elim
end
abbrev TG:=V->St->Hp->(St->Hp->Prop)->Prop
abbrev TGs:=List V->St->Hp->(St->Hp->Prop)->Prop
noncomputable def PG(X:Cx)(target:Expr)(t:TG):Prop :=
 ∀(pins:List ↑24)(s:Shared)(σ:St)(H:Hp)(v:V)(u:Value)(Q:St->Hp->Prop),Inv X pins σ H s->RelV v u->t v σ H Q ->
  wpAny ↑20 X.A (assign target X.env u) (λ_ s'=>∃σ' H',Inv X pins σ' H' s'/\Q σ' H') X.xe s
noncomputable def PGs(X:Cx)(ts:List Expr)(t:TGs):Prop :=
 ∀(pins:List ↑24)(s:Shared)(σ:St)(H:Hp)(vs:List V)(us:List Value)(Q:St->Hp->Prop),Inv X pins σ H s->Vals vs us->t vs σ H Q ->
  wpAny ↑20 X.A (assignInOrder ((assignEach ts X.env).map (·.2)) us) (λ_ s'=>∃σ' H',Inv X pins σ' H' s'/\Q σ' H') X.xe s
abbrev e3u:=V->V->V->Hp->(Hp->Prop)->Prop
noncomputable def e6m(X:Cx)(t:e3u):Prop :=
 ∀(pins:List ↑24)(s:Shared)(σ:St)(H:Hp)(o i v:V)(ov iv u:Value)(Q:Hp->Prop),Inv X pins σ H s->RelV o ov->RelV i iv->RelV v u->t o i v H Q ->
  wpAny ↑20 X.A (setItem ov iv u) (λ_ s'=>∃H',Inv X pins σ H' s'/\Q H') X.xe s
abbrev TIp:=V->V->Hp->VK->Prop
noncomputable def PIp(X:Cx)(op:Operator)(t:TIp):Prop :=
 ∀(pins:List ↑24)(s:Shared)(σ:St)(H:Hp)(x y:V)(v u:Value)(Q:VK),Inv X pins σ H s->RelV x v->RelV y u->t x y H Q ->
  wpAny ↑20 X.A (inplaceOp op v u) (EP X pins σ Q) X.xe s
section
variable{X:Cx}{pos:Pos}
def b8z(i:Nat):TG:=λv σ H Q=>Q (σ.set i (some v)) H
theorem o9{i:Nat}{x:Str}(hN:X.N.Nodup)(hi:X.N[i]?=some x)(hx:Loc X.env.scope x)(hf:X.fn x=true\/X.env.scope.names.lookup x=some .local:=by fail "Y4"):PG X (.Name x pos) (b8z i):=by
 intro pins s σ H v u Q I r h;exact wpAny_assign_Name (c0f I hN hi hx r (λs' I'=>⟨_,H,I',h⟩) hf)
def e6j:TGs:=λvs σ H Q=>vs=[]/\Q σ H
noncomputable def d3j(t:TG)(u:TGs):TGs:=λvs σ H Q=>∃v r,vs=v::r/\t v σ H λσ' H'=>u r σ' H' Q
theorem c6d:PGs X [] e6j:=by
 intro pins s σ H vs us Q I r h;obtain⟨e,h⟩:=h;subst e;cases r;exact assignInOrder_nil ⟨σ,H,I,h⟩
theorem a3e{e:Expr}{es:List Expr}{t:TG}{u:TGs}(h1:PG X e t)(h2:PGs X es u)(hs:(assignEach (e::es) X.env).map (·.2)=assign e X.env::(assignEach es X.env).map (·.2):=by rfl):PGs X (e::es) (d3j t u):=by
 intro pins s σ H vs us Q I r h;obtain⟨v,vr,e1,h⟩:=h;subst e1;cases r with
 | cons r rr=>
  rw[hs];refine assignInOrder_cons (thn (h1 pins s σ H _ _ _ I r h) λ_ s1 z0_=>?_);obtain⟨σ1,H1,I1,q1⟩:=z0_;exact h2 pins s1 σ1 H1 _ _ Q I1 rr q1
noncomputable def e5k(K:↑28)(n:Nat)(t:TGs):TG:=λv σ H Q=>∃a xs,v=.ref a/\SqT K H a xs/\xs.length=n/\t xs σ H Q
theorem e1m{es:List Expr}{k:Nat}{t:TGs}{n:Nat}(hc:X.calm=true)(h:PGs X es t)(hn:(assignEach es X.env).length=n:=by rfl)(hst:(assignEach es X.env).findIdx? (·.1)=none:=by rfl):PG X (.Tuple es k pos) (e5k X.K n t):=by
 intro pins s σ H v u Q I r hw;obtain⟨a,xs,e1,hq,hl,hw⟩:=hw;subst e1;cases r;obtain⟨its,rv,ht,hz⟩:=I.tuple hq;refine assign_Tuple_tuple (I.ok.hd hc) ht (by simp[hn,<- hl,rv.length]) hst λh' hx=>?_
 have I1:Inv X pins σ H { s with heap:=h' }:=I.kept (t':=s.toks) λb o e=>hx b o (Nat.ne_of_lt (Heap.lt_size e)) e
 exact h pins _ σ H xs _ Q I1 (by simpa using rv) hw
noncomputable def e6i(to ti:TE)(t:e3u):TG:=λv σ H Q=>to σ H λo H1=>ti σ H1 λi H2=>t o i v H2 λH3=>Q σ H3
theorem b5r{o i:Expr}{to ti:TE}{t:e3u}(ho:PE X o to)(hi:PE X i ti)(hs:e6m X t)(ha:∀v,assign (.Subscript o i pos) X.env v=(do
   let ov <- holding [v] (eval o X.env)
   let iv <- holding [v,ov] (eval i X.env)
   standAt pos
   holding [v,ov,iv] (setItem ov iv v)
   release [v,ov,iv] []):=by intro _;rfl):PG X (.Subscript o i pos) (e6i to ti t):=by
 intro pins s σ H v u Q I r h;rw[ha];refine wpAny_bind (wpAny_holding (thn (ho pins s σ H _ I h) λov s1 z0_=>?_));obtain⟨x,H1,I1,r1,q1⟩:=z0_;refine wpAny_bind (wpAny_holding (thn (hi pins s1 σ H1 _ I1 q1) λiv s2 z0_=>?_));obtain⟨y,H2,I2,r2,q2⟩:=z0_;refine wpAny_bind (wpAny_standAt (wpAny_bind (wpAny_holding (thn (hs pins s2 σ H2 x y v ov iv u _ I2 r1 r2 r q2) λ_ s3 z0_=>?_))));obtain⟨H3,I3,q3⟩:=z0_;exact wpAny_release ⟨σ,H3,I3,q3⟩
noncomputable def e0y(te:TE)(g:TG):TS:=λD σ H=>te σ H λx H1=>g x σ H1 D.nx
theorem a8u{tg e:Expr}{te:TE}{g:TG}(he:PE X e te)(hg:PG X tg g)(hs:swapsWithSole [tg] e pos.line X.env=pure false:=by rfl)(hw:swappedStores [tg] e X.env=pure none:=by rfl)(h1:(assignEach [tg] X.env).map (·.2)=[assign tg X.env]:=by rfl):PS X (.Assign [tg] e pos) (e0y te g):=by
 intro pins s σ H D I h;refine wpAny_Assign_stores (thn (he pins s σ H _ I h) λv s1 z0_=>?_) hs hw;obtain⟨x,H1,I1,r1,q1⟩:=z0_;rw[h1];exact thn (hg pins s1 σ H1 x v _ I1 r1 q1) λ_ s2 q=>q
theorem i6{i:Nat}{x:Str}{e:Expr}{te:TE}{pos':Pos}(hN:X.N.Nodup)(hi:X.N[i]?=some x)(hx:Loc X.env.scope x)(he:PE X e te)(hs:swapsWith e (some (.Name x pos')) pos.line X.env=pure false:=by rfl)(hf:X.fn x=true\/X.env.scope.names.lookup x=some .local:=by fail "Y4"):
  PS X (.Assign [.Name x pos'] e pos) (e0y te (b8z i)):=by
 intro pins s σ H D I h;refine wpAny_Assign_Name (thn (he pins s σ H _ I h) λv s1 z0_=>?_) hs;obtain⟨y,H1,I1,r1,q1⟩:=z0_;exact c0f I1 hN hi hx r1 (λs2 I2=>⟨_,H1,I2,q1⟩) hf
noncomputable def e6r(i:Nat)(te:TE)(ti:TIp):TS:=λD σ H=>∃x,σ[i]?=some (some x)/\te σ H λy H1=>ti x y H1 λz H2=>D.nx (σ.set i (some z)) H2
theorem e1k{i:Nat}{x:Str}{e:Expr}{te:TE}{op:Operator}{ti:TIp}{pos':Pos}(hN:X.N.Nodup)(hi:X.N[i]?=some x)(hx:Loc X.env.scope x)(he:PE X e te)(ho:PIp X op ti)(hf:X.fn x=true\/X.env.scope.names.lookup x=some .local:=by fail "Y4"):
  PS X (.AugAssign (.Name x pos') op e pos) (e6r i te ti):=by
 intro pins s σ H D I h;obtain⟨v,e1,h⟩:=h;obtain⟨m,hn,hl⟩:=I.loc;have vis:Vis X.env.scope x:=by rcases hx with k|k;exact .inl k;exact .inr (.inl k)
 obtain⟨u,r,l⟩:=hl i x v hi e1 vis;refine wpAny_AugAssign_Name ?_;have go:wpAny ↑20 X.A (eval e X.env) (λw s₂=>wpAny ↑20 X.A (inplaceOp op u w) (λr s₃=>wpAny ↑20 X.A (storeName X.env x r) (λ_=>SP X pins D .next) X.xe s₃) X.xe s₂) X.xe s:=by
  refine thn (he pins s σ H _ I h) λw s1 z0_=>?_;obtain⟨y,H1,I1,r1,q1⟩:=z0_;refine thn (ho pins s1 σ H1 v y u w _ I1 r r1 q1) λz s2 z0_=>?_;obtain⟨zv,H2,I2,r2,q2⟩:=z0_;exact c0f I2 hN hi hx r2 (λs3 I3=>⟨_,H2,I3,q2⟩) hf
 rcases l with ⟨hk,hm⟩|⟨hk,c,hc,hcell⟩
 ·exact wpAny_loadName_local I.ok.kind hk hn hm go
 ·rcases hk with hk|hk
  ·exact wpAny_loadName_cell I.ok.kind hk hc hcell go
  ·rcases hx with k|k
   ·have:X.env.scope.names.lookup x=some .free:=hk
    rw[k] at this;cases this
   ·have:X.env.scope.names.lookup x=some .free:=hk
    rw[k] at this;cases this
noncomputable def ipI(f:Int->Int->Int):TIp:=λx y H Q=>∃i j,x=.int i/\y=.int j/\Q (.int (f i j)) H
theorem e2h:PIp X .Add (ipI λi j=>i+j):=by
 intro pins s σ H x y v u Q I r1 r2 h;obtain⟨i,j,e1,e2,q⟩:=h;subst e1;subst e2;obtain⟨t,rfl⟩:=r1;obtain⟨t',rfl⟩:=r2;exact iadd_int ⟨.int _,H,I.tok _,⟨_,rfl⟩,q⟩
noncomputable def e0o(c:TT)(tb:TS):TS:=λD σ H=>∃W:Nat->St->Hp->Prop,(∃m,W m σ H)/\∀m σ H,W m σ H ->
 c σ H λb H1=>if b=true then ∃N:St->Hp->Prop,(∀σ' H',N σ' H'->∃m',m'<m/\W m' σ' H')/\tb { D with nx:=N,ct:=N,bk:=D.nx } σ H1 else D.nx σ H1
theorem d5b{c:Expr}{body:List Stmt}{tc:TT}{tb:TS}(hp:PassesOwn ↑20 X.A X.env X.xe)(hc:PT X c tc)(hb:PSs X body tb):PS X (.While c body [] pos) (e0o tc tb):=by
 intro pins s σ H D I h;obtain⟨W,⟨m0,w0⟩,turn⟩:=h;refine wpAny_While (codeAny_whileLoop (λn s'=>∃σ' H',Inv X pins σ' H' s'/\W n σ' H') ?_ m0 ⟨σ,H,I,w0⟩);rintro n s1 ⟨σ1,H1,I1,w1⟩;refine wpAny_passesOwn hp (thn (hc pins s1 σ1 H1 _ I1 (turn n σ1 H1 w1)) λb s2 z0_=>?_);obtain⟨H2,I2,q2⟩:=z0_;cases b with
 | true=>
  obtain⟨N,hN,q2⟩:=q2;rw[if_pos rfl];refine wpAny_passesOwn hp (thn (hb pins s2 σ1 H2 _ I2 q2) λf s3 q3=>?_);cases f with
  | next=>
   obtain⟨σ3,H3,I3,n3⟩:=q3;obtain⟨m',hm,w3⟩:=hN σ3 H3 n3;exact⟨m',hm,σ3,H3,I3,w3⟩
  | cont=>
   obtain⟨σ3,H3,I3,n3⟩:=q3;obtain⟨m',hm,w3⟩:=hN σ3 H3 n3;exact⟨m',hm,σ3,H3,I3,w3⟩
  | brk=>exact q3
  | ret v=>exact q3
 | false=>
  rw[if_neg Bool.false_ne_true];exact wpAny_execs_nil ⟨σ1,H2,I2,q2⟩
end
structure It where
 go:Nat->Hp->Prop
 yld:Nat->Hp->V->Hp->Prop
 stop:Nat->Hp->Prop
noncomputable def d4f(X:Cx)(pins:List ↑24)(H:Hp)(b:Addr):Prop :=
 H b=none/\b≠X.env.locals/\b ∉ X.fs/\(b∈X.ex\/X.s₀.heap.objs.size<=b)/\(∀x c,X.env.cells.lookup x=some c->c≠b)/\∀p∈X.pn++pins,p.1≠b
theorem Inv.fpOk{X:Cx}{pins:List ↑24}{σ:St}{H H':Hp}{s:Shared}{b:Addr}(I:↑13)(hb:s.heap.objs.size<=b)(hn:H' b=none):d4f X pins H' b:=by
 refine⟨hn,Nat.ne_of_gt (Nat.lt_of_lt_of_le I.lt hb),I.nofs hb,.inr (Nat.le_trans I.sz hb),λx c e z=>?_,λp hp z=>?_⟩
 ·obtain⟨v,q⟩:=I.cell x c e
  exact absurd (Nat.lt_of_lt_of_le q.lt (by rw[z];exact hb)) (Nat.lt_irrefl _)
 ·exact absurd (Nat.lt_of_lt_of_le (Heap.lt_size (I.pin p hp).1) (by rw[z];exact hb)) (Nat.lt_irrefl _)
structure e5o(P:Program)(w:World)(K:↑28)(tg:Expr)(J:It)(fp:List Addr)(it:Addr)(tn:Nat->Heap->Prop):Prop where
 mem:it∈fp
 obj:∀i h,tn i h->∀b∈fp,∃o,h.get? b=some o/\∀v,o.data≠.cell v
 keep:∀i h h',tn i h->(∀b∈fp,∀o,h.get? b=some o->h'.get? b=some o)->tn i h'
 item:∀(X:Cx),X.prog=P->X.w=w->X.K=K->X.calm=true->∀(i:Nat)(pins:List ↑24)(s:Shared)(σ:St)(H:Hp)(E:Value->Shared->Prop),Inv X pins σ H s->(∀b∈fp,d4f X pins H b)->tn i s.heap->J.go i H ->
  wpAny (model P w) X.A (pyNext (.ref it)) (λr s1=>∃u,r=some u /\
   wpAny (model P w) X.A (letOwnedTupleGo tg (.ref it) u) (λ_ s2=>∃x H',Inv X pins σ H' s2/\RelV x u/\J.yld i H x H'/\tn (i+1) s2.heap/\∀b∈fp,H' b=none) E s1) E s
 done:∀(X:Cx),X.prog=P->X.w=w->X.K=K->X.calm=true->∀(i:Nat)(pins:List ↑24)(s:Shared)(σ:St)(H:Hp)(E:Value->Shared->Prop),Inv X pins σ H s->(∀b∈fp,d4f X pins H b)->tn i s.heap->J.stop i H ->
  wpAny (model P w) X.A (pyNext (.ref it)) (λr s1=>r=none/\Inv X pins σ H s1) E s
 self:∀(A:Around)(i:Nat)(s:Shared)(Q:Value->Shared->Prop)(E:Value->Shared->Prop),tn i s.heap->Q (.ref it) s->wpAny (model P w) A (pyIter (.ref it)) Q E s
abbrev TI:=St->Hp->(It->Hp->Prop)->Prop
noncomputable def PIE(X:Cx)(pins:List ↑24)(σ:St)(tg:Expr)(R:It->Hp->Prop)(itv:Value)(s2:Shared):Prop :=
 ∃(it:Addr)(fp:List Addr)(tn:Nat->Heap->Prop)(J:It)(H':Hp),itv=.ref it/\Inv X pins σ H' s2/\e5o X.prog X.w X.K tg J fp it tn/\tn 0 s2.heap/\(∀b∈fp,d4f X pins H' b)/\R J H'
noncomputable def PI(X:Cx)(tg iter:Expr)(wi:TI):Prop :=
 ∀(pins:List ↑24)(s:Shared)(σ:St)(H:Hp)(R:It->Hp->Prop),Inv X pins σ H s->wi σ H R ->
  wpAny ↑20 X.A (eval iter X.env) (λv s1=>wpAny ↑20 X.A (pyIter v) (PIE X pins σ tg R) X.xe s1) X.xe s
theorem e2m{M:Model}{A:Around}{E:Value->Shared->Prop}{s:Shared}{tg:Expr}{it:Addr}{u:Value}{o:Obj}{n:String}{vs:Array Value}{Q:Unit->Shared->Prop}(ho:s.heap.get? it=some o)(hc:o.cls=.type n)(hd:o.data=.fields vs)(hn:["enumerate","zip","dict_itemiterator","dict_reverseitemiterator","odict_iterator","itertools.zip_longest","itertools.pairwise"].contains n=false)(hQ:Q () s):wpAny M A (letOwnedTupleGo tg (.ref it) u) Q E s:=by
 unfold letOwnedTupleGo;cases tg <;> first
  | exact wpAny_pure hQ
  | (cases u <;> first
    | exact wpAny_pure hQ
    | (
      refine wpAny_bind (wpAny_load ho ?_);rw[hc,hd];show wpAny M A (if (["enumerate","zip","dict_itemiterator","dict_reverseitemiterator","odict_iterator","itertools.zip_longest","itertools.pairwise"].contains n && vs[0]? == some (rawInt _))=true then _ else _) Q E s;rw[if_neg (by intro h;rw[hn,Bool.false_and] at h;cases h)]
      exact wpAny_pure hQ))
noncomputable def Itl(K:↑28)(a:Addr):It :=
 ⟨λi H=>∃xs x,SqL K H a xs/\xs[i]?=some x,λi H x H'=>H'=H/\∀xs,SqL K H a xs->xs[i]?=some x,λi H=>∃xs,SqL K H a xs/\xs.length<=i⟩
noncomputable def Itr(lo:Int)(n:Nat):It:=⟨λi _=>i<n,λi H x H'=>H'=H/\x=.int (lo+i),λi _=>n<=i⟩
theorem d0s{P:Program}{w:World}{K:Frag}{tg:Expr}(a it:Addr):e5o P w K tg (Itl K a) [it] it (λi h=>h.IsListIter it a i) where
 mem:=by simp
 obj:=λi h st b hb=>by
  have e:b=it:=by simpa using hb
  subst e;obtain⟨o,e,c,d⟩:=st;exact⟨o,e,λv z=>by rw[d] at z;cases z⟩
 keep:=λi h h' st k=>st.at λo e=>k it (by simp) o e
 item:=by
  intro X hP hw hK hc i pins s σ H E I hf st hg;subst hP hw hK;obtain⟨xs,x,hq,hx⟩:=hg;obtain⟨its,rv,p,hz⟩:=I.list hq;obtain⟨u,hu,ru⟩:=rv.get hx;obtain⟨f0,f1,f2,f3,f4,f5⟩:=hf it (by simp)
  refine wpAny_pyNext_list_item st p.isList (x:=u) (by simpa using hu) λh' st' sb=>?_
  have I1:Inv X pins σ H { s with heap:=h' }:=I.turned (t':=s.toks) (λb o hb e=>(sb.2 b hb).trans e) f0 f1 f3 f4 f5
  obtain⟨o,e,c,d⟩:=id st';exact⟨u,rfl,e2m (s:={ s with heap:=h' }) e c d (by decide) ⟨x,H,I1,ru,⟨rfl,λys hy=>by rw[I.list_inj hy hq];exact hx⟩,st',λb hb=>(hf b hb).1⟩⟩
 done:=by
  intro X hP hw hK hc i pins s σ H E I hf st hg;subst hP hw hK;obtain⟨xs,hq,hx⟩:=hg;obtain⟨its,rv,p,hz⟩:=I.list hq;obtain⟨f0,f1,f2,f3,f4,f5⟩:=hf it (by simp)
  have hl:=rv.length;exact wpAny_pyNext_list_end (I.ok.hd hc) st p.isList (by simp;lia) λh' eb=>⟨rfl,I.turned (t':=s.toks) (λb o hb e=>eb b o hb e) f0 f1 f3 f4 f5⟩
 self:=λ_ _ _ _ _ st h=>wpAny_pyIter_listiter st h
theorem c9f{P:Program}{w:World}{K:Frag}{tg:Expr}(it:Addr)(lo:Int)(n:Nat):e5o P w K tg (Itr lo n) [it] it (λi h=>IsRangeIter h it (lo+(i:Nat)*1) ((n:Int)-(i:Nat)) 1) where
 mem:=by simp
 obj:=λi h st b hb=>by
  have e:b=it:=by simpa using hb
  subst e;exact⟨_,st,λv z=>by
   have z':Data.fields _=Data.cell v:=z;cases z'⟩
 keep:=λi h h' st k=>k it (by simp) _ st
 item:=by
  intro X hP hw hK hc i pins s σ H E I hf st hg;subst hP hw hK;obtain⟨f0,f1,f2,f3,f4,f5⟩:=hf it (by simp)
  have W:=Walks.range (prog:=X.prog) (w:=X.w) (I.ok.hd hc) it lo 1 n;refine W.item i s _ _ hg st λv h' tk hv st' kk=>?_;obtain⟨t,rfl⟩:=hv;have I1:Inv X pins σ H { s with heap:=h',toks:=tk }:=I.turned (λb o hb e=>kk b o (by simpa using hb) e) f0 f1 f3 f4 f5
  refine⟨_,rfl,e2m (s:={ s with heap:=h',toks:=tk }) (n:="range_iterator") st' rfl rfl (by decide) ⟨.int (lo+i),H,I1,⟨t,?_⟩,⟨rfl,rfl⟩,st',λb hb=>(hf b hb).1⟩⟩
  rw[Int.mul_one]
 done:=by
  intro X hP hw hK hc i pins s σ H E I hf st hg;subst hP hw hK;obtain⟨f0,f1,f2,f3,f4,f5⟩:=hf it (by simp)
  exact wpAny_pyNext_range_end (I.ok.hd hc) st (by have:n<=i:=hg;lia) λh' eb=>⟨rfl,I.turned (t':=s.toks) (λb o hb e=>eb b o hb e) f0 f1 f3 f4 f5⟩
 self:=λ_ _ _ _ _ st h=>wpAny_pyIter_rangeiter st h
section
variable{X:Cx}{tg:Expr}
noncomputable def d9g(K:↑28)(tl:TE):TI:=λσ H R=>tl σ H λx H1=>∃a,x=.ref a/\(∃xs,SqL K H1 a xs)/\R (Itl K a) H1
theorem d8o{l:Expr}{tl:TE}(hl:PE X l tl):PI X tg l (d9g X.K tl):=by
 intro pins s σ H R I h;refine thn (hl pins s σ H _ I h) λv s1 z0_=>?_;obtain⟨x,H1,I1,r1,q1⟩:=z0_;obtain⟨a,e,⟨xs,hq⟩,q⟩:=q1;subst e;cases r1;obtain⟨its,rv,p,hz⟩:=I1.list hq;refine wpAny_pyIter_list p.isList ?_;refine⟨s1.heap.objs.size,[s1.heap.objs.size],_,_,H1,rfl,I1.kept (t':=s1.toks) λb o e=>Heap.get?_push_of_some _ e,d0s a _,⟨_,Heap.get?_push_size _ rfl,rfl,rfl⟩,λb hb=>?_,q⟩;have e:b=s1.heap.objs.size:=by simpa using hb
 subst e;exact I1.fpOk ↑31 (I1.hok.fresh ↑31)
theorem d5a{pins:List ↑24}{σ:St}{H:Hp}{s:Shared}{R:It->Hp->Prop}{E:Value->Shared->Prop}{lo hi:Int}{t u v:Tok}{tk:Nat}(I:↑13)(h1:-(2 ^ 62)<=lo)(h2:lo<2 ^ 62)(h3:-(2 ^ 62)<=hi)(h4:hi<2 ^ 62)(q:R (Itr lo (hi-lo).toNat) H):wpAny ↑20 X.A (pyIter (.ref s.heap.objs.size)) (PIE X pins σ tg R) E { s with heap:=s.heap.push { cls:=.type "range",data:=.fields #[.int lo t,.int hi u,.int 1 v] },toks:=tk }:=by
 refine wpAny_pyIter_range (IsRange.new ..) (small_one h1 h2 h3 h4) ?_;have I1:Inv X pins σ H { s with heap:=s.heap.push { cls:=.type "range",data:=.fields #[.int lo t,.int hi u,.int 1 v] },toks:=tk }:=I.kept λb o e=>Heap.get?_push_of_some _ e
 refine⟨(s.heap.push { cls:=.type "range",data:=.fields #[.int lo t,.int hi u,.int 1 v] }).objs.size,[(s.heap.push { cls:=.type "range",data:=.fields #[.int lo t,.int hi u,.int 1 v] }).objs.size],_,_,H,rfl,
  I1.kept (t':=tk) λb o e=>Heap.get?_push_of_some _ e,c9f _ lo (hi-lo).toNat,?_,λb hb=>?_,q⟩
 ·have e1:lo+((0:Nat):Int)*1=lo:=by simp
  have e2:(((hi-lo).toNat:Nat):Int)-((0:Nat):Int)=Builtin.Range.rangeSize lo hi 1:=by rw[rangeSize_one];split <;> lia
  show IsRangeIter _ _ (lo+((0:Nat):Int)*1) ((((hi-lo).toNat:Nat):Int)-((0:Nat):Int)) 1;rw[e1,e2];exact Heap.get?_push_size _ rfl
 ·have e:b=(s.heap.push { cls:=.type "range",data:=.fields #[.int lo t,.int hi u,.int 1 v] }).objs.size:=by simpa using hb
  subst e;exact I1.fpOk ↑31 (I1.hok.fresh ↑31)
noncomputable def e2j(ta:TA):TI:=λσ H R=>ta σ H λvs H1=>∃j:Int,vs=[.int j]/\-(2 ^ 62)<=j/\j<2 ^ 62/\R (Itr 0 j.toNat) H1
theorem a8v{a:Expr}{ta:TA}{p pos:Pos}(hg:Gl X "range")(hm:X.mg "range" = none)(ha:PA X [a] ta)(hs:starEach [a] X.env=[(false,eval a X.env)]:=by rfl):PI X tg (.Call (.Name "range" p) [a] [] pos) (e2j ta):=by
 intro pins s σ H R I h;refine Call_ (c4t I hg hm boot_range (PyProof.Rows.callWith_type1 (thn (ha pos pins s σ H _ I h) λus s1 z0_=>?_) hs rfl));obtain⟨vs,H1,I1,r1,q1⟩:=z0_;obtain⟨j,e,q1,q2,q⟩:=q1;subst e;cases r1 with
 | cons r rr=>
  cases rr;obtain⟨t,rfl⟩:=r;exact call_range_1 (d5a I1 ↑2 ↑2 q1 q2 (by simpa using q))
noncomputable def e5y(wi:TI)(g:TG)(tb:TS):TS:=λD σ H=>wi σ H λJ H1=>∃W:Nat->Nat->St->Hp->Prop,(∃m,W 0 m σ H1)/\∀i m σ H,W i m σ H ->
 (J.stop i H/\D.nx σ H)\/(J.go i H/\∃N:St->Hp->Prop,(∀σ' H',N σ' H'->∃m',m'<m/\W (i+1) m' σ' H')/\∀x H',J.yld i H x H'->g x σ H' λσ2 H2=>tb { D with nx:=N,ct:=N,bk:=D.nx } σ2 H2)
noncomputable def c3l(fp:List Addr)(h:Heap):List ↑24:=fp.filterMap λb=>(h.get? b).map λo=>(b,o)
theorem a9p{fp:List Addr}{h:Heap}{b:Addr}{o:Obj}(hb:b∈fp)(e:h.get? b=some o):(b,o)∈c3l fp h:=List.mem_filterMap.mpr ⟨b,hb,by rw[e];rfl⟩
theorem d2h{fp:List Addr}{h:Heap}{p:Addr×Obj}(hp:p∈c3l fp h):p.1∈fp/\h.get? p.1=some p.2:=by
 obtain⟨b,hb,e⟩:=List.mem_filterMap.mp hp;cases q:h.get? b with
 | none=>rw[q] at e;cases e
 | some o=>
  rw[q] at e;have e':(b,o)=p:=Option.some.inj e;subst e';exact⟨hb,q⟩
theorem Inv.pinned{pins:List ↑24}{σ:St}{H:Hp}{s:Shared}{fp:List Addr}(I:↑13)(hf:∀b∈fp,d4f X pins H b)(ho:∀b∈fp,∃o,s.heap.get? b=some o/\∀v,o.data≠.cell v):Inv X (pins++c3l fp s.heap) σ H s :=
 I.pins_of λp hp=>(List.mem_append.mp hp).elim (λz=>I.pin p (List.mem_append_right _ z)) λz=>by
  obtain⟨hb,e⟩:=d2h z;obtain⟨f0,f1,f2,_⟩:=hf p.1 hb;obtain⟨o,e',d⟩:=ho p.1 hb;rw[e] at e';cases e';exact⟨e,f0,f1,f2,d⟩
theorem Inv.unpinned{pins pl:List ↑24}{σ:St}{H:Hp}{s:Shared}(I:Inv X (pins++pl) σ H s):Inv X pins σ H s:=I.pins_of λp hp=>I.pin p (List.mem_append_right _ (List.mem_append_left _ hp))
theorem b0n{iter:Expr}{body:List Stmt}{wi:TI}{g:TG}{tb:TS}{pos:Pos}(hp:PassesOwn ↑20 X.A X.env X.xe)(hc:X.calm=true)(hi:PI X tg iter wi)(hg:PG X tg g)(hb:PSs X body tb)(hs:∀x,foldedSetIterable iter X.env x=pure x:=by intro _;rfl):PS X (.For tg iter body [] pos) (e5y wi g tb):=by
 intro pins s σ H D I h;refine wpAny_For (thn (hi pins s σ H _ I h) λv s1 h1=>thn h1 λitv s2 h2=>?_) hs;obtain⟨it,fp,tn,J,H2,e,I2,T,st2,f2,W,⟨m0,w0⟩,turn⟩:=h2;subst e;have stat:∀{H':Hp},(∀b∈fp,H' b=none)->∀b∈fp,d4f X pins H' b:=λhn b hb=>⟨hn b hb,(f2 b hb).2⟩;refine codeAny_forLoop_any (λn s'=>∃i σ' H',Inv X pins σ' H' s'/\tn i s'.heap/\(∀b∈fp,H' b=none)/\W i n σ' H') ?_ m0 ⟨0,σ,H2,I2,st2,λb hb=>(f2 b hb).1,w0⟩;rintro n s3 ⟨i,σ3,H3,I3,st3,fr3,w3⟩;rcases turn i n σ3 H3 w3 with ⟨stop,qn⟩|⟨go,N,hN,step⟩
 ·refine wpAny_passesOwn hp (thn (T.done X rfl rfl rfl hc i pins s3 σ3 H3 X.xe I3 (stat fr3) st3 stop) λr s4 z0_=>?_)
  obtain⟨hr,I4⟩:=z0_;subst hr;exact wpAny_execs_nil ⟨σ3,H3,I4,qn⟩
 ·refine wpAny_passesOwn hp (thn (T.item X rfl rfl rfl hc i pins s3 σ3 H3 X.xe I3 (stat fr3) st3 go) λr s4 z0_=>?_)
  obtain⟨u,hr,h4⟩:=z0_;subst hr;refine wpAny_passesOwn hp (thn h4 λ_ s5 z0_=>?_);obtain⟨x,H5,I5,r5,y5,st5,fr5⟩:=z0_;have I5':=I5.pinned (stat fr5) (T.obj _ _ st5);refine wpAny_passesOwn hp (thn (hg _ s5 σ3 H5 x u _ I5' r5 (step x H5 y5)) λ_ s6 z0_=>?_);obtain⟨σ6,H6,I6,q6⟩:=z0_;refine wpAny_passesOwn hp (thn (hb _ s6 σ6 H6 _ I6 q6) λf s7 q7=>?_);have again:∀{σ7:St}{H7:Hp},Inv X (pins++c3l fp s5.heap) σ7 H7 s7->N σ7 H7->∃m,m<n/\∃i σ' H',Inv X pins σ' H' s7/\tn i s7.heap/\(∀b∈fp,H' b=none)/\W i m σ' H':=λ{σ7 H7} I7 n7=>by
   obtain⟨m',hm,w7⟩:=hN σ7 H7 n7;refine⟨m',hm,i+1,σ7,H7,I7.unpinned,T.keep _ _ _ st5 λb hb o e=>(I7.pin (b,o) (List.mem_append_right _ (List.mem_append_right _ (a9p hb e)))).1,λb hb=>?_,w7⟩;obtain⟨o,e,d⟩:=T.obj _ _ st5 b hb;exact(I7.pin (b,o) (List.mem_append_right _ (List.mem_append_right _ (a9p hb e)))).2.1
  cases f with
  | next=>obtain⟨σ7,H7,I7,n7⟩:=q7;exact again I7 n7
  | cont=>obtain⟨σ7,H7,I7,n7⟩:=q7;exact again I7 n7
  | brk=>obtain⟨σ7,H7,I7,q7⟩:=q7;exact⟨σ7,H7,I7.unpinned,q7⟩
  | ret v=>obtain⟨x7,σ7,H7,I7,r7,q7⟩:=q7;exact⟨x7,σ7,H7,I7.unpinned,r7,q7⟩
end
theorem c2i{K:Frag}{a:Addr}{xs:List V}{g:TG}{tb:TS}{D:d7m}{σ:St}{H:Hp}(Pv:Nat->St->Hp->Prop)(h0:Pv 0 σ H)(hl:∀i σ H,i<=xs.length->Pv i σ H->SqL K H a xs)(hs:∀i x σ H,xs[i]?=some x->Pv i σ H->g x σ H λσ2 H2=>tb { D with nx:=Pv (i+1),ct:=Pv (i+1),bk:=D.nx } σ2 H2)(hd:∀σ H,Pv xs.length σ H->D.nx σ H):
  ∃W:Nat->Nat->St->Hp->Prop,(∃m,W 0 m σ H)/\∀i m σ H,W i m σ H ->
   ((Itl K a).stop i H/\D.nx σ H)\/((Itl K a).go i H/\∃N:St->Hp->Prop,(∀σ' H',N σ' H'->∃m',m'<m/\W (i+1) m' σ' H')/\∀x H',(Itl K a).yld i H x H'->g x σ H' λσ2 H2=>tb { D with nx:=N,ct:=N,bk:=D.nx } σ2 H2):=by
 refine⟨λi m σ H=>m=xs.length-i/\i<=xs.length/\Pv i σ H,⟨xs.length,by simp,Nat.zero_le _,h0⟩,?_⟩
 rintro i m σ H ⟨rfl,hi,p⟩;have q:=hl i σ H hi p;by_cases hlt:i<xs.length
 ·refine .inr ⟨⟨xs,xs[i],q,by simp[hlt]⟩,Pv (i+1),λσ' H' p'=>⟨xs.length-(i+1),by lia,rfl,hlt,p'⟩,λx H' y=>?_⟩
  obtain⟨e,y⟩:=y;subst e;exact hs i x σ _ (y xs q) p
 ·have e:i=xs.length:=by lia
  subst e;exact .inl ⟨⟨xs,q,Nat.le_refl _⟩,hd σ H p⟩
theorem d3l{lo:Int}{n:Nat}{g:TG}{tb:TS}{D:d7m}{σ:St}{H:Hp}(Pv:Nat->St->Hp->Prop)(h0:Pv 0 σ H)(hs:∀i σ H,i<n->Pv i σ H->g (.int (lo+i)) σ H λσ2 H2=>tb { D with nx:=Pv (i+1),ct:=Pv (i+1),bk:=D.nx } σ2 H2)(hd:∀σ H,Pv n σ H->D.nx σ H):
  ∃W:Nat->Nat->St->Hp->Prop,(∃m,W 0 m σ H)/\∀i m σ H,W i m σ H ->
   ((Itr lo n).stop i H/\D.nx σ H)\/((Itr lo n).go i H/\∃N:St->Hp->Prop,(∀σ' H',N σ' H'->∃m',m'<m/\W (i+1) m' σ' H')/\∀x H',(Itr lo n).yld i H x H'->g x σ H' λσ2 H2=>tb { D with nx:=N,ct:=N,bk:=D.nx } σ2 H2):=by
 refine⟨λi m σ H=>m=n-i/\i<=n/\Pv i σ H,⟨n,by simp,Nat.zero_le _,h0⟩,?_⟩
 rintro i m σ H ⟨rfl,hi,p⟩;by_cases hlt:i<n
 ·refine .inr ⟨hlt,Pv (i+1),λσ' H' p'=>⟨n-(i+1),by lia,rfl,hlt,p'⟩,λx H' y=>?_⟩
  obtain⟨e,y⟩:=y;subst e y;exact hs i σ _ hlt p
 ·have e:i=n:=by lia
  subst e;exact .inl ⟨Nat.le_refl _,hd σ H p⟩
abbrev R2:=V->V->Hp->VK->Prop
noncomputable def OpR(X:Cx)(f:Value->Value->Sem Value)(r:R2):Prop :=
 ∀(pins:List ↑24)(s:Shared)(σ:St)(H:Hp)(x y:V)(v u:Value)(Q:VK),Inv X pins σ H s->RelV x v->RelV y u->r x y H Q ->
  wpAny ↑20 X.A (f v u) (EP X pins σ Q) X.xe s
noncomputable def UnR(X:Cx)(f:Value->Sem Value)(r:V->Hp->VK->Prop):Prop :=
 ∀(pins:List ↑24)(s:Shared)(σ:St)(H:Hp)(x:V)(v:Value)(Q:VK),Inv X pins σ H s->RelV x v->r x H Q ->
  wpAny ↑20 X.A (f v) (EP X pins σ Q) X.xe s
noncomputable def b8h(X:Cx)(f:Value)(r:List V->Hp->VK->Prop):Prop :=
 ∀(pins:List ↑24)(s:Shared)(σ:St)(H:Hp)(xs:List V)(us:List Value)(Q:VK),Inv X pins σ H s->Vals xs us->r xs H Q ->
  wpAny ↑20 X.A (call f us) (EP X pins σ Q) X.xe s
noncomputable def tOp(r:R2)(ta tb:TE):TE:=λσ H Q=>ta σ H λx H1=>tb σ H1 λy H2=>r x y H2 Q
noncomputable def tUn(r:V->Hp->VK->Prop)(ta:TE):TE:=λσ H Q=>ta σ H λx H1=>r x H1 Q
noncomputable def rI(C:Int->Int->Prop)(g:Int->Int->V):R2:=λx y H Q=>∃i j,x=.int i/\y=.int j/\C i j/\Q (g i j) H
noncomputable def rI0(g:Int->Int->V):R2:=λx y H Q=>∃i j,x=.int i/\y=.int j/\Q (g i j) H
def rU(g:Int->V):V->Hp->VK->Prop:=λx H Q=>∃i,x=.int i/\Q (g i) H
section
variable{X:Cx}{a b c:Expr}{ta tb tc:TE}{pos:Pos}
theorem e5n(ha:PE X a ta)(hb:PE X b tb){pins:List ↑24}{s:Shared}{σ:St}{H:Hp}{R:V->V->Hp->Prop}(I:↑13)(h:ta σ H λx H1=>tb σ H1 λy H2=>R x y H2){Q:Value->Shared->Prop}{f:Value->Value->Sem Value}(hf:∀v u s2 x y H2,Inv X pins σ H2 s2->RelV x v->RelV y u->R x y H2->wpAny ↑20 X.A (f v u) Q X.xe s2):
  wpAny ↑20 X.A (eval a X.env) (λv s₁=>wpAny ↑20 X.A (eval b X.env) (λu s₂=>wpAny ↑20 X.A (f v u) Q X.xe s₂) X.xe s₁) X.xe s:=by
 refine thn (ha pins s σ H _ I h) λv s1 z0_=>?_;obtain⟨x,H1,I1,r1,q1⟩:=z0_;refine thn (hb pins s1 σ H1 _ I1 q1) λu s2 z0_=>?_;obtain⟨y,H2,I2,r2,q2⟩:=z0_;exact hf v u s2 x y H2 I2 r1 r2 q2
theorem g7{op:Operator}{r:R2}(ho:OpR X (binaryOp op) r)(ha:PE X a ta)(hb:PE X b tb):PE X (.BinOp a op b pos) (tOp r ta tb):=by
 fail "i";exact wpAny_BinOp (e5n ha hb I h λv u s2 x y H2 I2 rx ry q=>ho pins s2 σ H2 x y v u Q I2 rx ry q)
theorem c6f{op:UnaryOp}{r:V->Hp->VK->Prop}(ho:UnR X (unaryOp op) r)(ha:PE X a ta):PE X (.UnaryOp op a pos) (tUn r ta):=by
 fail "i";exact UnaryOp_ (thn (ha pins s σ H _ I h) λv s1 z0_=>by obtain⟨x,H1,I1,r1,q1⟩:=z0_;exact ho pins s1 σ H1 x v Q I1 r1 q1)
theorem opI{f:Value->Value->Sem Value}{C:Int->Int->Prop}{g:Int->Int->Int}(rule:∀(i j:Int) (t u:Tok) (s:Shared) (Q:Value->Shared->Prop) (E:Value->Shared->Prop),C i j->Q (.int (g i j) s.toks) { s with toks:=s.toks+1 }->wpAny (model X.prog X.w) X.A (f (.int i t) (.int j u)) Q E s):
  OpR X f (rI C λi j=>.int (g i j)):=by
 intro pins s σ H x y v u Q I rx ry h;obtain⟨i,j,rfl,rfl,hc,q⟩:=h;obtain⟨t,rfl⟩:=rx;obtain⟨t',rfl⟩:=ry;exact rule i j t t' s _ _ hc ⟨.int (g i j),H,I.tok _,⟨_,rfl⟩,q⟩
theorem e6g{f:Value->Value->Sem Value}{g:Int->Int->Int}(rule:∀(i j:Int) (t u:Tok) (s:Shared) (Q:Value->Shared->Prop) (E:Value->Shared->Prop),Q (.int (g i j) s.toks) { s with toks:=s.toks+1 }->wpAny (model X.prog X.w) X.A (f (.int i t) (.int j u)) Q E s):
  OpR X f (rI0 λi j=>.int (g i j)):=by
 intro pins s σ H x y v u Q I rx ry h;obtain⟨i,j,rfl,rfl,q⟩:=h;obtain⟨t,rfl⟩:=rx;obtain⟨t',rfl⟩:=ry;exact rule i j t t' s _ _ ⟨.int (g i j),H,I.tok _,⟨_,rfl⟩,q⟩
theorem e3q{f:Value->Value->Sem Value}{g:Int->Int->Bool}(rule:∀(i j:Int) (t u:Tok) (s:Shared) (Q:Value->Shared->Prop) (E:Value->Shared->Prop),Q (.bool (g i j)) s->wpAny ↑20 X.A (f (.int i t) (.int j u)) Q E s):
  OpR X f (rI0 λi j=>.bl (g i j)):=by
 intro pins s σ H x y v u Q I rx ry h;obtain⟨i,j,rfl,rfl,q⟩:=h;obtain⟨t,rfl⟩:=rx;obtain⟨t',rfl⟩:=ry;exact rule i j t t' s _ _ ⟨.bl (g i j),H,I,rfl,q⟩
def e7p(i j:Int):Prop:=0<=j/\j<=1000000/\i.natAbs<2 ^ 64
def CMul(i j:Int):Prop:=(-(2 ^ 64)<i/\i<2 ^ 64)\/(-(2 ^ 64)<j/\j<2 ^ 64)
theorem CMul.ok{i j:Int}(h:CMul i j):IntMulOk i j:=by
 rcases h with ⟨h1,h2⟩|⟨h1,h2⟩
 ·exact .of_left (intBits_le_64 h1 h2)
 ·exact .of_right (intBits_le_64 h1 h2)
theorem j9:OpR X (binaryOp .Add) (rI0 λi j=>.int (i+j)):=e6g λ_ _ _ _ _ _ _ q=>add_int q
theorem a3n:OpR X (binaryOp .Sub) (rI0 λi j=>.int (i-j)):=e6g λ_ _ _ _ _ _ _ q=>sub_int q
theorem m6:OpR X (binaryOp .Mult) (rI CMul λi j=>.int (i*j)):=opI λ_ _ _ _ _ _ _ hc q=>mul_int q hc.ok
theorem a0f:OpR X (binaryOp .Mod) (rI (λ_ j=>0<j) λi j=>.int (i % j)):=opI λi j _ _ _ _ _ hc q=>by
 have h1:(0:Int)<j:=hc;exact mod_int' ↑2 (by rw[Int.fmod_eq_emod_of_nonneg i ↑2];exact q)
theorem c8e:OpR X (binaryOp .Pow) (rI e7p λi j=>.int (i ^ j.toNat)):=opI λ_ _ _ _ _ _ _ hc q=>pow_int_small hc.1 hc.2.1 hc.2.2 q
theorem unI{f:Value->Sem Value}{g:Int->Int}(rule:∀(i:Int) (t:Tok) (s:Shared) (Q:Value->Shared->Prop) (E:Value->Shared->Prop),Q (.int (g i) s.toks) { s with toks:=s.toks+1 }->wpAny (model X.prog X.w) X.A (f (.int i t)) Q E s):
  UnR X f (rU λi=>.int (g i)):=by
 intro pins s σ H x v Q I rx h;obtain⟨i,rfl,q⟩:=h;obtain⟨t,rfl⟩:=rx;exact rule i t s _ _ ⟨.int (g i),H,I.tok _,⟨_,rfl⟩,q⟩
theorem b6i:UnR X (unaryOp .USub) (rU λi=>.int (-i)):=unI λ_ _ _ _ _ q=>neg_int q
end
noncomputable def e3n:V->V->Bool
 | .non,.non=>true|.non,.int _=>true|.int _,.non=>true|.non,.bl _=>true|.bl _,.non=>true|.non,.str _=>true|.str _,.non=>true
 | .int _,.int _=>true|.bl _,.bl _=>true|.str _,.str _=>true|.byt _,.byt _=>true
 | .int _,.str _=>true|.str _,.int _=>true|.bl _,.str _=>true|.str _,.bl _=>true
 | _,_=>false
noncomputable def rEq:R2:=λx y H Q=>e3n x y=true/\Q (.bl (decide (x=y))) H
noncomputable def rNe:R2:=λx y H Q=>e3n x y=true/\Q (.bl (!decide (x=y))) H
theorem a4v{i j:Int}:decide (V.int i=V.int j)=(i == j):=by
 rw[Bool.eq_iff_iff];simp
theorem d7k{i j:Bool}:decide (V.bl i=V.bl j)=(i == j):=by
 rw[Bool.eq_iff_iff];simp
theorem a0m{i j:Str}:decide (V.str i=V.str j)=(i == j):=by
 rw[Bool.eq_iff_iff];simp
theorem d3p{i j:Array UInt8}:decide (V.byt i=V.byt j)=(i.toList == j.toList):=by
 rw[Bool.eq_iff_iff];cases i;cases j;simp
section
variable{X:Cx}{a b c:Expr}{ta tb tc:TE}{pos:Pos}
theorem a9f{pins:List ↑24}{σ:St}{H:Hp}{s:Shared}{Q:VK}{k k':Bool}(I:↑13)(q:Q (.bl k) H)(e:k=k'):EP X pins σ Q (.bool k') s:=by
 subst e;exact⟨.bl k,H,I,rfl,q⟩
theorem v3:OpR X (compareOp .Eq) rEq:=by
 intro pins s σ H x y v u Q I rx ry h;obtain⟨hs,q⟩:=h;cases x with
 | non=>
  cases rx;cases y with
  | non=>cases ry;exact PySem.EqNone.eq_none_none ↑35
  | bl j=>cases ry;exact PySem.EqNone.eq_none_bool ↑35
  | int j=>obtain⟨t',rfl⟩:=ry;exact PySem.EqNone.eq_none_int ↑35
  | str j=>obtain⟨t',rfl⟩:=ry;exact PySem.EqNone.eq_none_str ↑35
  | _=>exact absurd (show false=true from hs) Bool.false_ne_true
 | bl i=>
  cases rx;cases y with
  | non=>cases ry;exact PySem.EqNone.eq_bool_none ↑35
  | bl j=>cases ry;exact eq_bool (a9f I q d7k)
  | str j=>obtain⟨t',rfl⟩:=ry;exact PySem.EqMixed.eq_bool_str ↑35
  | _=>exact absurd (show false=true from hs) Bool.false_ne_true
 | int i=>
  obtain⟨t,rfl⟩:=rx;cases y with
  | non=>cases ry;exact PySem.EqNone.eq_int_none ↑35
  | int j=>obtain⟨t',rfl⟩:=ry;exact eq_int (a9f I q a4v)
  | str j=>obtain⟨t',rfl⟩:=ry;exact PySem.EqMixed.eq_int_str ↑35
  | _=>exact absurd (show false=true from hs) Bool.false_ne_true
 | str i=>
  obtain⟨t,rfl⟩:=rx;cases y with
  | non=>cases ry;exact PySem.EqNone.eq_str_none ↑35
  | bl j=>cases ry;exact PySem.EqMixed.eq_str_bool ↑35
  | int j=>obtain⟨t',rfl⟩:=ry;exact PySem.EqMixed.eq_str_int ↑35
  | str j=>obtain⟨t',rfl⟩:=ry;exact eq_str (a9f I q a0m)
  | _=>exact absurd (show false=true from hs) Bool.false_ne_true
 | byt i=>
  obtain⟨t,rfl⟩:=rx;cases y with
  | byt j=>obtain⟨t',rfl⟩:=ry;exact PySem.W.eq_bytes (a9f I q d3p)
  | _=>exact absurd (show false=true from hs) Bool.false_ne_true
 | _=>cases y <;> exact absurd (show false=true from hs) Bool.false_ne_true
theorem d1z:OpR X (compareOp .NotEq) rNe:=by
 intro pins s σ H x y v u Q I rx ry h;obtain⟨hs,q⟩:=h;cases x with
 | non=>
  cases rx;cases y with
  | non=>cases ry;exact PySem.EqNone.ne_none_none ↑35
  | bl j=>cases ry;exact PySem.EqNone.ne_none_bool ↑35
  | int j=>obtain⟨t',rfl⟩:=ry;exact PySem.EqNone.ne_none_int ↑35
  | str j=>obtain⟨t',rfl⟩:=ry;exact PySem.EqNone.ne_none_str ↑35
  | _=>exact absurd (show false=true from hs) Bool.false_ne_true
 | bl i=>
  cases rx;cases y with
  | non=>cases ry;exact PySem.EqNone.ne_bool_none ↑35
  | bl j=>cases ry;exact ne_bool (a9f I q (congrArg not d7k))
  | str j=>obtain⟨t',rfl⟩:=ry;exact PySem.EqMixed.ne_bool_str ↑35
  | _=>exact absurd (show false=true from hs) Bool.false_ne_true
 | int i=>
  obtain⟨t,rfl⟩:=rx;cases y with
  | non=>cases ry;exact PySem.EqNone.ne_int_none ↑35
  | int j=>obtain⟨t',rfl⟩:=ry;exact ne_int (a9f I q (congrArg not a4v))
  | str j=>obtain⟨t',rfl⟩:=ry;exact PySem.EqMixed.ne_int_str ↑35
  | _=>exact absurd (show false=true from hs) Bool.false_ne_true
 | str i=>
  obtain⟨t,rfl⟩:=rx;cases y with
  | non=>cases ry;exact PySem.EqNone.ne_str_none ↑35
  | bl j=>cases ry;exact PySem.EqMixed.ne_str_bool ↑35
  | int j=>obtain⟨t',rfl⟩:=ry;exact PySem.EqMixed.ne_str_int ↑35
  | str j=>obtain⟨t',rfl⟩:=ry;exact ne_str (a9f I q (congrArg not a0m))
  | _=>exact absurd (show false=true from hs) Bool.false_ne_true
 | byt i=>
  obtain⟨t,rfl⟩:=rx;cases y with
  | byt j=>obtain⟨t',rfl⟩:=ry;exact PySem.W.ne_bytes (a9f I q (congrArg not d3p))
  | _=>exact absurd (show false=true from hs) Bool.false_ne_true
 | _=>cases y <;> exact absurd (show false=true from hs) Bool.false_ne_true
theorem b7n:OpR X (compareOp .Lt) (rI0 λi j=>.bl (decide (i<j))):=e3q λ_ _ _ _ _ _ _ q=>lt_int q
theorem e4l:OpR X (compareOp .LtE) (rI0 λi j=>.bl (decide (i<=j))):=e3q λ_ _ _ _ _ _ _ q=>le_int q
theorem b8q:OpR X (compareOp .Gt) (rI0 λi j=>.bl (decide (j<i))):=e3q λ_ _ _ _ _ _ _ q=>gt_int q
theorem d2d:OpR X (compareOp .GtE) (rI0 λi j=>.bl (decide (j<=i))):=e3q λ_ _ _ _ _ _ _ q=>ge_int q
theorem d8u:OpR X (compareOp .IsNot) (λx y H Q=>y=.non/\Q (.bl (!decide (x=.non))) H):=by
 intro pins s σ H x y v u Q I rx ry h;obtain⟨rfl,q⟩:=h;cases ry;refine isnot_none_gen (a9f I q ?_);cases x <;> first
  | (cases rx;rfl)
  | (obtain⟨t,rfl⟩:=rx;rfl)
theorem e1w(b:Expr){op:CmpOp}(h:op≠.In:=by decide)(h2:op≠.NotIn:=by decide):behindInMarks op b=false:=by
 have e1:(op == CmpOp.In)=false:=by cases op <;> first|rfl|exact absurd rfl h
 have e2:(op == CmpOp.NotIn)=false:=by cases op <;> first|rfl|exact absurd rfl h2
 cases b <;> simp[behindInMarks,e1,e2]
theorem a0w{op:CmpOp}{r:R2}(ho:OpR X (compareOp op) r)(ha:PE X a ta)(hb:PE X b tb)(hm:behindInMarks op b=false):PE X (.Compare a [op] [b] pos) (tOp r ta tb):=by
 fail "i";exact wpAny_Compare1 (e5n ha hb I h λv u s2 x y H2 I2 rx ry q=>ho pins s2 σ H2 x y v u Q I2 rx ry q) hm
noncomputable def d8b(t:TE):TT:=λσ H Q=>t σ H λx H'=>∃k,x=.bl k/\Q k H'
theorem g9{op:CmpOp}{r:R2}(ho:OpR X (compareOp op) r)(ha:PE X a ta)(hb:PE X b tb)(hm:behindInMarks op b=false):PT X (.Compare a [op] [b] pos) (d8b (tOp r ta tb)):=by
 fail "i";refine wpAny_isTrue_Compare1 (thn (ha pins s σ H _ I h) λv s1 ⟨x,H1,I1,r1,q1⟩=>thn (hb pins s1 σ H1 _ I1 q1) λu s2 ⟨y,H2,I2,r2,q2⟩=>
  thn (ho pins s2 σ H2 x y v u _ I2 r1 r2 q2) λc s3 ⟨z,H3,I3,r3,k,e,q3⟩=>?_) hm
 subst e;cases r3;exact wpAny_truthy_bool ⟨H3,I3,q3⟩
theorem c8m:(sizeLine:Nat)<2 ^ 63:=by rw[sizeLine_eq];decide
theorem d4l{x:V}{us:List Value}(r:Vals [x] us):∃u,us=[u]/\RelV x u:=by
 cases r with
 | cons r1 r2=>cases r2;exact⟨_,rfl,r1⟩
theorem e0k{x y:V}{us:List Value}(r:Vals [x,y] us):∃u w',us=[u,w']/\RelV x u/\RelV y w':=by
 cases r with
 | cons r1 r2=>
  cases r2 with
  | cons r3 r4=>cases r4;exact⟨_,_,rfl,r1,r3⟩
theorem d3t(hc:X.calm=true):b8h X (.builtin "max") (λxs H Q=>∃i j,xs=[.int i,.int j]/\Q (.int (if j > i then j else i)) H):=by
 intro pins s σ H xs us Q I r h;obtain⟨i,j,rfl,q⟩:=h;obtain⟨u,w',rfl,⟨t,rfl⟩,⟨t',rfl⟩⟩:=e0k r;refine max_two_ints (I.ok.hd hc) λh' tk k=>⟨_,H,I.kept k,?_,q⟩;by_cases hj:j > i
 ·rw[if_pos hj,if_pos hj];exact⟨_,rfl⟩
 ·rw[if_neg hj,if_neg hj];exact⟨_,rfl⟩
theorem d3s(hc:X.calm=true):b8h X (.builtin "min") (λxs H Q=>∃i j,xs=[.int i,.int j]/\Q (.int (if j<i then j else i)) H):=by
 intro pins s σ H xs us Q I r h;obtain⟨i,j,rfl,q⟩:=h;obtain⟨u,w',rfl,⟨t,rfl⟩,⟨t',rfl⟩⟩:=e0k r;refine min_two_ints (I.ok.hd hc) λh' tk k=>⟨_,H,I.kept k,?_,q⟩;by_cases hj:j<i
 ·rw[if_pos hj,if_pos hj];exact⟨_,rfl⟩
 ·rw[if_neg hj,if_neg hj];exact⟨_,rfl⟩
theorem a2p:b8h X (.type "int") (λxs H Q=>(∃i,xs=[.int i]/\Q (.int i) H) \/ ∃k,xs=[.bl k]/\Q (.int (if k then 1 else 0)) H):=by
 intro pins s σ H xs us Q I r h;rcases h with ⟨i,rfl,q⟩|⟨k,rfl,q⟩
 ·obtain⟨u,rfl,t,rfl⟩:=d4l r
  exact call_int_int ⟨.int i,H,I,⟨_,rfl⟩,q⟩
 ·obtain⟨u,rfl,r1⟩:=d4l r
  cases r1;exact call_int_bool ⟨.int (if k then 1 else 0),H,I.tok _,⟨_,rfl⟩,q⟩
end
structure ObjM(h:Heap)(x dx C:Addr)(mA:Str->Option Value):Prop where
 obj:h.get? x=some (PySem.W.instObj C dx)
 ns:h.Ns1 dx mA
 ne:dx≠x
theorem d2o{h:Heap}{dx:Addr}{mA:Str->Option Value}(n:h.Ns1 dx mA):∃od,h.get? dx=some od/\∀name,PySem.W.lookIn name od=some (mA name):=by
 obtain⟨o,es,ep,ho,hd,hk,_,hm⟩:=n;refine⟨o,ho,λname=>?_⟩;have e:=hm name;unfold nsFind findBy at e;rw[<- Array.find?_toList] at e;unfold PySem.W.lookIn;rw[hd];dsimp only;split
 ·rename_i y q
  rw[q] at e;exact congrArg some e
 ·rename_i q
  rw[q] at e;have a:es.toList.any (·.refKey)=false:=by
   rw[List.any_eq_false];intro y hy;obtain⟨z,t,hkey⟩:=hk y (Array.mem_toList_iff.mp hy);simp[DictEntry.refKey,hkey]
  have a':¬ es.toList.any (·.refKey)=true:=by rw[a];exact Bool.false_ne_true
  rw[if_neg a'];exact congrArg some e
theorem ObjM.look{h:Heap}{x dx C:Addr}{mA:Str->Option Value}(I:ObjM h x dx C mA):∃od,PySem.W.InstAt h x (PySem.W.instObj C dx) C (some od)/\∀name,PySem.W.lookIn name od=some (mA name) :=
 let ⟨od,ho,hl⟩:=d2o I.ns
 ⟨od,⟨I.obj,rfl,rfl,ho⟩,hl⟩
section
variable{prog:Program}{w:World}{A:Around}{E:Value->Shared->Prop}{s:Shared}{K:Frag}{x dx C f:Addr}{mA:Str->Option Value}{name:Str}{v:Value}
theorem d9h{expr:Bool}{Q:Value->Shared->Prop}(X:K.In s.heap)(I:ObjM s.heap x dx C mA)(hg:plainGet K C name=true)(hh:hasDictIn K C=true)(ha:findIn K (.ref C) name=some none)(hv:mA name=some v)(hv':PySem.W.handedIn v=true)(h:Q v { s with toks:=s.toks+1 }):
  wpAny ↑38 A (getAttr (.ref x) name expr) Q E s:=by
 obtain⟨od,J,hl⟩:=I.look;exact PySem.W.get_value X J (PySem.W.plainGet_of hg).1 (PySem.W.findObj_own hh ha rfl (by rw[hl,hv])) hv' h
theorem d6b{pl:Sem Bool}{Q:Value×List Value->Shared->Prop}(X:K.In s.heap)(I:ObjM s.heap x dx C mA)(hg:plainGet K C name=true)(hf:findIn K (.ref C) name=some (some (.ref f)))(ht:isFn K (.ref f)=true)(hv:mA name=none)(h:Q (.ref f,[.ref x]) s):
  wpAny ↑38 A (getMethod (.ref x) name pl) Q E s:=by
 obtain⟨od,J,hl⟩:=I.look;exact PySem.W.method_fn X J (PySem.W.plainGet_of hg).1 (PySem.W.plainGet_of hg).2 hf (beq_iff_eq.mp ht) (by show(PySem.W.lookIn name od).map (·.isSome)=some false;rw[hl,hv];rfl) h
theorem d8h{ns:List Str}{Q:Unit->Shared->Prop}(X:K.In s.heap)(I:ObjM s.heap x dx C mA)(hs:findIn K (.ref C) "__setattr__" = some (some (.builtin "object.__setattr__")))(hp:plainOver K C=true)(ht:PySem.W.takerIn K C name=some none)(hh:hasDictIn K C=true)(hw:PySem.Within mA ns)(hsz:ns.length<=sizeLine)(h:∀h',ObjM h' x dx C (λy=>if y=name then some v else mA y)->Heap.SameBut dx s.heap h'->Q () { s with heap:=h',toks:=s.toks+2 }):
  wpAny ↑38 A (setAttr (.ref x) name v) Q E s:=by
 obtain⟨od,J,hl⟩:=I.look;refine PySem.W.set_plain X J hs (PySem.W.osa_open (s:={ s with toks:=s.toks+1 }) (r:=none) X J hp ht λb=>?_)
 obtain⟨cd,hc,hd'⟩:=PySem.W.any_some hh;have hx:s.heap.get? x=some ⟨.ref C,some dx,.plain,#[]⟩:=I.obj;refine wpAny_bind (wpAny_pure (wpAny_bind (wpAny_bind (wpAny_loadPart hx (wpAny_bind (PySem.W.Looks.here (s:={ s with toks:=s.toks+1 }) (PySem.W.looks_clsIn X hc) ?_))))))
 rw[hd'];refine wpAny_pure (a:=some dx) (wpAny_bind (wpAny_pure (wpAny_bind ?_)));refine wpAny_nsSet1 (s:={ s with toks:=s.toks+1 }) I.ns λh' hn2 hs2=>?_
 obtain⟨oD,esD,epD,hoD,hdD,hcD⟩:=hn2.count (PySem.Within.cons name v hw);refine wpAny_bind (wpAny_lookBehind hoD (by rw[hdD];exact pastItsLine_dict (Nat.le_trans hcD (by rw[List.length_cons];lia))) ?_)
 exact wpAny_pure (h _ ⟨(hs2.2 _ (Ne.symm I.ne)).trans I.obj,hn2,I.ne⟩ hs2)
theorem d5p{R:Result->Shared->Prop}{vs:List Value}{kw:List (Str×Value)}(X:K.In s.heap)(hm:makesIn K C=true)(hi:findIn K (.ref C) "__init__" = some (some (.ref f)))(hf:PySem.W.typeIn K (.ref f)=some (.type "function"))(h:codeAny ↑38 (A.under (.builtin "type.__call__" ⟨.ref C::vs,kw⟩)) (.call (.ref f) ⟨.ref (s.heap.objs.size+1)::vs,kw⟩) (PySem.W.InitBack (s.heap.objs.size+1) R)
   { s with heap:=(s.heap.push PySem.W.emptyDict).push (PySem.W.instObj C s.heap.objs.size) }):
  codeAny ↑38 A (.call (.ref C) ⟨vs,kw⟩) R s:=by
 obtain⟨hh,g,d,t,os⟩:=s;exact PySem.W.make_core (PySem.W.makes_of X hm) (PySem.W.looks_findIn X hi) (λself=>PySem.W.bind_fn X self hf) ↑23 h
end
noncomputable def b8p(f:Str)(v:V):List (Str×V)->List (Str×V)
 | []=>[(f,v)]
 | (g,x)::r=>if g=f then (g,v)::r else (g,x)::b8p f v r
theorem b7t(f g:Str)(v:V):∀fs:List (Str×V),(b8p f v fs).lookup g=if g=f then some v else fs.lookup g
 | []=>by
  show List.lookup g [(f,v)]=_;by_cases h:g=f
  ·have hb:(g == f)=true:=beq_iff_eq.mpr h
   simp only[List.lookup,hb,if_pos h]
  ·have hb:(g == f)=false:=beq_eq_false_iff_ne.mpr h
   simp only[List.lookup,hb,if_neg h]
 | (k,x)::r=>by
  have ih:=b7t f g v r;rw[show b8p f v ((k,x)::r)=(if k=f then (k,v)::r else (k,x)::b8p f v r) from rfl];by_cases hk:k=f
  ·rw[if_pos hk]
   by_cases h:g=k
   ·have hb:(g == k)=true:=beq_iff_eq.mpr h
    simp only[List.lookup,hb,if_pos (h.trans hk)]
   ·have hb:(g == k)=false:=beq_eq_false_iff_ne.mpr h
    simp only[List.lookup,hb,if_neg (λe:g=f=>h (e.trans hk.symm))]
  ·rw[if_neg hk]
   by_cases h:g=k
   ·have hb:(g == k)=true:=beq_iff_eq.mpr h
    simp only[List.lookup,hb,if_neg (λe:g=f=>hk (h.symm.trans e))]
   ·have hb:(g == k)=false:=beq_eq_false_iff_ne.mpr h
    simp only[List.lookup,hb];exact ih
theorem b7v(f:Str)(v:V):∀fs:List (Str×V),f∈(b8p f v fs).map (·.1)/\∀g,g∈fs.map (·.1)->g∈(b8p f v fs).map (·.1)
 | []=>⟨by simp[b8p],λg h=>by simp at h⟩
 | (k,x)::r=>by
  obtain⟨i1,i2⟩:=b7v f v r;rw[show b8p f v ((k,x)::r)=(if k=f then (k,v)::r else (k,x)::b8p f v r) from rfl];by_cases hk:k=f
  ·rw[if_pos hk]
   subst hk;exact⟨by simp,λg h=>by simpa using h⟩
  ·rw[if_neg hk]
   refine⟨?_,λg h=>?_⟩
   ·rw[List.map_cons]
    exact List.mem_cons_of_mem _ i1
   ·rw[List.map_cons] at h ⊢
    rcases List.mem_cons.mp h with e|e
    ·exact List.mem_cons.mpr (.inl e)
    ·exact List.mem_cons_of_mem _ (i2 g e)
theorem b7u(f:Str)(v:V):∀fs:List (Str×V),(b8p f v fs).length<=fs.length+1
 | []=>by simp[b8p]
 | (k,x)::r=>by
  have ih:=b7u f v r;rw[show b8p f v ((k,x)::r)=(if k=f then (k,v)::r else (k,x)::b8p f v r) from rfl];by_cases hk:k=f
  ·rw[if_pos hk,List.length_cons,List.length_cons];lia
  ·rw[if_neg hk,List.length_cons,List.length_cons];lia
theorem RelO.some_of{v:V}{o:Option Value}(r:RelO (some v) o):∃u,o=some u/\RelV v u:=by
 cases o with
 | none=>exact(show False from r).elim
 | some u=>exact⟨u,rfl,r⟩
theorem RelO.none_of{o:Option Value}(r:RelO none o):o=none:=by
 cases o with
 | none=>rfl
 | some u=>exact(show False from r).elim
theorem d2z{v:V}{u:Value}(r:RelV v u):PySem.W.handedIn u=true:=by
 cases v with
 | non=>cases (show u=Value.none from r);rfl
 | bl b=>cases (show u=Value.bool b from r);rfl
 | int i=>obtain⟨t,e⟩:=(show ∃t,u=Value.int i t from r);cases e;rfl
 | str x=>obtain⟨t,e⟩:=(show ∃t,u=Value.str x t from r);cases e;rfl
 | byt b=>obtain⟨t,e⟩:=(show ∃t,u=Value.bytes b t from r);cases e;rfl
 | flt b=>obtain⟨t,e⟩:=(show ∃t,u=Value.float b t from r);cases e;rfl
 | ref a=>cases (show u=Value.ref a from r);rfl
 | ty n=>cases (show u=Value.type n from r);rfl
section
variable{P:Program}{w:World}{H H':Hp}{h h':Heap}{a C dx:Addr}{fs fs':List (Str×V)}
theorem c2f(hok:HOk P w H h)(e:H a=some ↑40):∃mA,ObjM h a dx C mA/\(∀f,RelO (fs.lookup f) (mA f))/\PySem.Within mA (fs.map (·.1))/\fs.length<=1000/\H dx=some (.own a):=by
 obtain⟨d,z,ne,ob,mA,n,r,q⟩:=(show ObjOk P w H h a ↑40 from hok a _ e);exact⟨mA,⟨ob,n,ne⟩,r,q,z,d⟩
end
structure Cls(K:↑28)(C:Addr):Prop where
 pg:plainGet K C Str.empty=true
 hd:hasDictIn K C=true
 po:plainOver K C=true
 sa:findIn K (.ref C) "__setattr__" = some (some (.builtin "object.__setattr__"))
theorem Cls.get{K:Frag}{C:Addr}(c:Cls K C)(f:Str):plainGet K C f=true:=c.pg
def NoAttr(K:↑28)(C:Addr)(f:Str):Prop:=findIn K (.ref C) f=some none
theorem NoAttr.taker{K:Frag}{C:Addr}{f:Str}(n:NoAttr K C f):PySem.W.takerIn K C f=some none:=by
 unfold PySem.W.takerIn;rw[show findIn K (.ref C) f=some none from n]
 rfl
structure e3l(K:↑28)(C:Addr)(m:Str)(f:Addr):Prop where
 at_:findIn K (.ref C) m=some (some (.ref f))
 fn:isFn K (.ref f)=true
 kp:keepIn K (.ref f)=true
section
variable{X:Cx}{pins:List ↑24}{σ:St}{H:Hp}{s:Shared}{a C dx:Addr}{fs:List (Str×V)}{f:Str}{v:V}{A:Around}{E:Value->Shared->Prop}
theorem b9s{b:Bool}{Q:Value->Shared->Prop}(I:↑13)(e:H a=some ↑40)(c:Cls X.K C)(n:NoAttr X.K C f)(l:fs.lookup f=some v)(h:∀u s',Inv X pins σ H s'->RelV v u->Q u s'):wpAny ↑20 A (getAttr (.ref a) f b) Q E s:=by
 obtain⟨mA,O,r,_,_,_⟩:=c2f I.hok e;obtain⟨u,hu,ru⟩:=RelO.some_of (v:=v) (o:=mA f) (by rw[<- l];exact r f)
 exact d9h I.kIn O (c.get f) c.hd n hu (d2z ru) (h u _ (I.tok _) ru)
theorem a9s{m:Str}{g:Addr}{pl:Sem Bool}{Q:Value×List Value->Shared->Prop}(I:↑13)(e:H a=some ↑40)(c:Cls X.K C)(k:e3l X.K C m g)(l:fs.lookup m=none)(h:Q (.ref g,[.ref a]) s):wpAny ↑20 A (getMethod (.ref a) m pl) Q E s:=by
 obtain⟨mA,O,r,_,_,_⟩:=c2f I.hok e;have hn:mA m=none:=RelO.none_of (by rw[<- l];exact r m)
 exact d6b I.kIn O (c.get m) k.at_ k.fn hn h
theorem b3s{y:V}{u:Value}{Q:Unit->Shared->Prop}(I:↑13)(e:H a=some ↑40)(c:Cls X.K C)(n:NoAttr X.K C f)(hl:fs.length<1000)(ry:RelV y u)(h:∀s',Inv X pins σ (upd H a (.ins C dx (b8p f y fs))) s'->Q () s'):wpAny ↑20 A (setAttr (.ref a) f u) Q E s:=by
 obtain⟨mA,O,r,wi,_,ho⟩:=c2f I.hok e;have hz:(fs.map (·.1)).length<=sizeLine:=by rw[List.length_map,sizeLine_eq];lia
 refine d8h I.kIn O c.sa c.po n.taker c.hd wi hz λh' O' sb=>h _ ?_;have hd:∃o,h'.get? dx=some o:=let ⟨o,_,_,e',_⟩:=O'.ns;⟨o,e'⟩
 refine I.write (x:=a) (e:=dx) (by rw[e];exact True.intro) (.inr ho) (λb q hb z=>(sb.2 b hb).trans z) hd ?_
 refine⟨by rw[c9 O.ne];exact ho,?_,O.ne,O'.obj,_,O'.ns,λg=>?_,λg hg=>?_⟩
 ·have:=b7u f y fs;lia
 ·show RelO ((b8p f y fs).lookup g) (if g=f then some u else mA g)
  rw[b7t];by_cases q:g=f
  ·rw[if_pos q,if_pos q];exact ry
  ·rw[if_neg q,if_neg q];exact r g
 ·by_cases q:g=f
  ·rw[q];exact(b7v f y fs).1
  ·refine (b7v f y fs).2 g (wi g λz=>hg ?_)
   show(if g=f then some u else mA g)=none;rw[if_neg q];exact z
theorem Inv.made(I:↑13):Inv X pins σ (upd (upd H s.heap.objs.size (.own (s.heap.objs.size+1))) (s.heap.objs.size+1) (.ins C s.heap.objs.size []))
  { s with heap:=(s.heap.push PySem.W.emptyDict).push (PySem.W.instObj C s.heap.objs.size) }:=by
 have e1:(s.heap.push PySem.W.emptyDict).get? s.heap.objs.size=some PySem.W.emptyDict:=Heap.get?_push_size s.heap rfl;have e2:((s.heap.push PySem.W.emptyDict).push (PySem.W.instObj C s.heap.objs.size)).get? (s.heap.objs.size+1)=some (PySem.W.instObj C s.heap.objs.size):=by
  have:=Heap.get?_push_size (s.heap.push PySem.W.emptyDict) (o:=PySem.W.instObj C s.heap.objs.size) rfl
  rwa [Heap.size_push] at this
 have e3:(s.heap.push PySem.W.emptyDict).Ns s.heap.objs.size (λ_=>none):=⟨PySem.W.emptyDict,#[],_,e1,rfl,(λe he=>absurd he (by simp)),λ_=>rfl⟩
 have I1:=I.laid (a:=s.heap.objs.size) (o:=.own (s.heap.objs.size+1)) (h':=s.heap.push PySem.W.emptyDict) (t':=s.toks) (λb u q=>Heap.get?_push_of_some _ q) ↑31 ⟨_,e1⟩;refine I1.laid (a:=s.heap.objs.size+1) (o:=.ins C s.heap.objs.size []) (t':=s.toks) (λb u q=>Heap.get?_push_of_some _ q) (Nat.le_of_eq (Heap.size_push _ _)) ?_;have ne:s.heap.objs.size≠s.heap.objs.size+1:=Nat.ne_of_lt (Nat.lt_succ_self _);refine⟨by rw[c9 ne,d6],Nat.zero_le _,ne,e2,λ_=>none,(Heap.Ns1.of_empty e3).at λo q=>Heap.get?_push_of_some _ q,λ_=>True.intro,λy hy=>absurd rfl hy⟩
theorem d9z{prog:Program}{w:World}{env:Env}{e:Expr}{f:Str}{pos:Pos}{s:Shared}{Q:Value->Shared->Prop}(hb:attributeBase e f env (eval e env)=eval e env)(h:wpAny ↑38 A (eval e env) (λo s₁=>wpAny ↑38 A (getAttr o f true) Q E s₁) E s):wpAny ↑38 A (eval (.Attribute e f pos) env) Q E s :=
 Attribute_any_ h (by rw[arm_eval_Attribute,hb])
end
noncomputable def e4b(K:↑28)(ta:TE)(f:Str):TE:=λσ H Q=>ta σ H λx H1=>∃a C dx fs v,x=.ref a/\H1 a=some ↑40/\Cls K C/\NoAttr K C f/\fs.lookup f=some v/\Q v H1
noncomputable def e4d(K:↑28)(ta tv:TE)(f:Str):TS:=λD σ H=>tv σ H λy H1=>ta σ H1 λx H2=>∃a C dx fs,x=.ref a/\H2 a=some ↑40/\Cls K C/\NoAttr K C f/\fs.length<1000 /\
 D.nx σ (upd H2 a (.ins C dx (b8p f y fs)))
noncomputable def e5q(X:Cx)(op:Operator)(rd:V->V->Hp->VK->Prop):Prop :=
 ∀(pins:List ↑24)(s:Shared)(σ:St)(H:Hp)(x y:V)(u v:Value)(Q:VK),Inv X pins σ H s->RelV x u->RelV y v->rd x y H Q->wpAny ↑20 X.A (inplaceOp op u v) (EP X pins σ Q) X.xe s
noncomputable def c6a(K:↑28)(ta tv:TE)(rd:V->V->Hp->VK->Prop)(f:Str):TS:=λD σ H=>ta σ H λx H1=>∃a C dx fs v,x=.ref a/\H1 a=some ↑40/\Cls K C/\NoAttr K C f/\fs.lookup f=some v /\
 tv σ H1 λy H2=>rd v y H2 λz H3=>∃dx' fs',H3 a=some (.ins C dx' fs')/\fs'.length<1000/\D.nx σ (upd H3 a (.ins C dx' (b8p f z fs')))
section
variable{X:Cx}{o e value:Expr}{f:Str}{pos pos' tpos:Pos}{ta tv:TE}
theorem e1p(he:PE X e ta)(hb:attributeBase e f X.env (eval e X.env)=eval e X.env):PE X (.Attribute e f pos) (e4b X.K ta f):=by
 fail "i";refine d9z hb (thn (he pins s σ H _ I h) λu s1 z0_=>?_);obtain⟨x,H1,I1,rx,a,C,dx,fs,v,ex,ea,c,n,l,q⟩:=z0_;subst ex;obtain rfl:u=Value.ref a:=rx;exact b9s I1 ea c n l λu' s2 I2 ru=>⟨v,H1,I2,ru,q⟩
theorem e1j(ha:PE X o ta)(hv:PE X value tv)(hs:swapsWith value (some (.Attribute o f pos')) pos.line X.env=pure false):PS X (.Assign [.Attribute o f pos'] value pos) (e4d X.K ta tv f):=by
 intro pins s σ H D I h;refine plainObj_wpAny_Assign_Attribute (thn (hv pins s σ H _ I h) λu s1 z0_=>?_) hs;obtain⟨y,H1,I1,ry,q⟩:=z0_;refine thn (ha pins s1 σ H1 _ I1 q) λov s2 z1_=>?_;obtain⟨x,H2,I2,rx,a,C,dx,fs,ex,ea,c,n,l,q2⟩:=z1_;subst ex;obtain rfl:ov=Value.ref a:=rx;exact b3s I2 ea c n l ry λs3 I3=>⟨σ,_,I3,q2⟩
theorem d1m{op:Operator}{rd:V->V->Hp->VK->Prop}(ha:PE X o ta)(hv:PE X value tv)(hop:e5q X op rd):PS X (.AugAssign (.Attribute o f tpos) op value pos) (c6a X.K ta tv rd f):=by
 intro pins s σ H D I h;refine wpAny_AugAssign_AttributeAny (thn (ha pins s σ H _ I h) λov s1 z0_=>?_);obtain⟨x,H1,I1,rx,a,C,dx,fs,v,ex,ea,c,n,l,q⟩:=z0_;subst ex;obtain rfl:ov=Value.ref a:=rx;refine b9s I1 ea c n l λu s2 I2 ru=>thn (hv pins s2 σ H1 _ I2 q) λw3 s3 z0_=>?_;obtain⟨y,H2,I3,ry,q3⟩:=z0_;refine thn (hop pins s3 σ H2 v y u w3 _ I3 ru ry q3) λw4 s4 z1_=>?_;obtain⟨z,H3,I4,rz,dx',fs',ea',l',q4⟩:=z1_;exact b3s I4 ea' c n l' rz λs5 I5=>⟨σ,_,I5,q4⟩
def e6f:V->V->Hp->VK->Prop:=λx y H Q=>∃i j,x=.int i/\y=.int j/\Q (.int (i+j)) H
theorem e2i:e5q X .Add e6f:=by
 rintro pins s σ H x y u v Q I rx ry ⟨i,j,rfl,rfl,q⟩;obtain⟨t,rfl⟩:=(show ∃t,u=Value.int i t from rx);obtain⟨t',rfl⟩:=(show ∃t',v=Value.int j t' from ry);exact PyProof.Rows.iadd_int ⟨.int (i+j),H,I.tok _,⟨_,rfl⟩,q⟩
end
section
variable{X:Cx}{pins:List ↑24}{σ:St}{H:Hp}{s:Shared}{A:Around}{E:Value->Shared->Prop}{Q:Value->Shared->Prop}{c:Value}{b:Bool}
inductive d0o(K:↑28)(H:Hp):V->Value->Prop where
 | non:d0o K H .non (.type "NoneType")
 | bl (x:Bool):d0o K H (.bl x) (.type "bool")
 | int (i:Int):d0o K H (.int i) (.type "int")
 | str (x:Str):d0o K H (.str x) (.type "str")
 | flt (x:UInt64):d0o K H (.flt x) (.type "float")
 | lst {a:Addr} {xs:List V} (e:H a=some (.lst xs)):d0o K H (.ref a) (.type "list")
 | frz {a:Addr} {o:Obj} {xs:List V} (e:H a=some (.frz o (.lst xs))):d0o K H (.ref a) (.type "list")
 | tup {a:Addr} {xs:List V} (e:H a=some (.tup xs)):d0o K H (.ref a) (.type "tuple")
 | dK {a:Addr} {kvs:List (Key×V)} (e:H a=some (.dK kvs)):d0o K H (.ref a) (.type "dict")
 | dT {a:Addr} {kvs:List (List Key×V)} (e:H a=some (.dT kvs)):d0o K H (.ref a) (.type "dict")
 | ins {a C dx:Addr} {fs:List (Str×V)} (e:H a=some ↑40) (cl:Cls K C) (ha:findIn K (.ref C) "__class__" = some (some (.builtin "object.__class__")))
   (hn:specialIn K (.builtin "object.__class__") "__get__" = some (some (.builtin "getset_descriptor.__get__"))) (htk:PySem.W.takesIn K (.builtin "object.__class__")=some true)
   (hm:mroIn K C (.type "object")=some true):d0o K H (.ref a) (.ref C)
theorem d2v{x:V}{u t:Value}(I:↑13)(rx:RelV x u)(ty:d0o X.K H x t)(e:kitOne X.K t c=some b)(h:∀tk,Q (.bool b) { s with toks:=tk }):
  wpAny ↑20 A (call (.builtin "isinstance") [u,c]) Q E s:=by
 cases ty with
 | non=>cases (show u=Value.none from rx);exact kia_one PySem.W.kitx_none I.kIn True.intro e (λz=>nomatch z) h
 | bl y=>cases (show u=Value.bool y from rx);exact kia_one PySem.W.kitx_bool I.kIn True.intro e (λz=>nomatch z) h
 | int i=>obtain⟨t,q⟩:=(show ∃t,u=Value.int i t from rx);cases q;exact kia_one PySem.W.kitx_int I.kIn True.intro e (λz=>nomatch z) h
 | str y=>obtain⟨t,q⟩:=(show ∃t,u=Value.str y t from rx);cases q;exact kia_one PySem.W.kitx_str I.kIn True.intro e (λz=>nomatch z) h
 | flt y=>obtain⟨t,q⟩:=(show ∃t,u=Value.float y t from rx);cases q;exact kia_one PySem.W.kitx_float I.kIn True.intro e (λz=>nomatch z) h
 | @lst a xs ea=>
  cases (show u=Value.ref a from rx);obtain⟨_,_,n,_,h1⟩:=(show ObjOk X.prog X.w H s.heap a (.lst xs) from I.hok a _ ea);exact kia_one PySem.W.kitx_list I.kIn ⟨_,h1,rfl⟩ e (λz=>nomatch z) h
 | @frz a ob xs ea=>
  cases (show u=Value.ref a from rx);obtain⟨_,_,_,n,_,h1⟩:=(show ObjOk X.prog X.w H s.heap a (.frz ob (.lst xs)) from I.hok a _ ea);exact kia_one PySem.W.kitx_list I.kIn ⟨_,h1,rfl⟩ e (λz=>nomatch z) h
 | @tup a xs ea=>
  cases (show u=Value.ref a from rx);obtain⟨_,_,_,p⟩:=(show ObjOk X.prog X.w H s.heap a (.tup xs) from I.hok a _ ea);obtain⟨o,h1,h2,_⟩:=p;exact kia_one PySem.W.kitx_tuple I.kIn ⟨o,h1,h2⟩ e (λz=>nomatch z) h
 | @dK a kvs ea=>
  cases (show u=Value.ref a from rx);obtain⟨_,_,vs,_,p⟩:=(show ObjOk X.prog X.w H s.heap a (.dK kvs) from I.hok a _ ea);obtain⟨o,es,ep,h1,h2,_⟩:=p;exact kia_one PySem.W.kitx_dict I.kIn ⟨o,h1,h2.1⟩ e (λz=>nomatch z) h
 | @dT a kvs ea=>
  cases (show u=Value.ref a from rx);obtain⟨_,_,xs,_,o,es,ep,h1,h2,_⟩:=(show ObjOk X.prog X.w H s.heap a (.dT kvs) from I.hok a _ ea);exact kia_one PySem.W.kitx_dict I.kIn ⟨o,h1,h2.1⟩ e (λz=>nomatch z) h
 | @ins a C dx fs ea cl ha hn htk hm=>
  cases (show u=Value.ref a from rx);obtain⟨mA,O,_⟩:=c2f I.hok ea;obtain⟨od,J,_⟩:=O.look;exact kia_one (PySem.W.kitx_own (cl.get _) cl.hd ha hn htk hm) I.kIn J e (λz=>nomatch z) h
end
structure Room(k:Nat)(A:Around):Prop where
 hd:A.handled=none
 dp:A.depth+3*k+5<recursionLimit
 un:A.units+16*k+200<cLine
theorem Room.mono{j k:Nat}{A:Around}(r:Room k A)(h:j<=k):Room j A:=⟨r.hd,by have:=r.dp;lia,by have:=r.un;lia⟩
theorem Room.deeper{k:Nat}{A:Around}(r:Room (k+1) A)(env:Env):Room k (A.deeper env) :=
 ⟨r.hd,by have:=r.dp;show A.depth+1+3*k+5<_;lia,by have:=r.un;show A.units+3+16*k+200<_;lia⟩
theorem d0h{A:Around}{C:Addr}{us:List Value}{kw:List (Str×Value)}:(A.under (.builtin "type.__call__" ⟨.ref C::us,kw⟩)).depth=A.depth+1:=by
 first|rfl|simp[Around.under,Code.weight,Code.isCreation,Code.isGuard,Code.isCaller,Code.frames,Code.isFrame,guardIds]
theorem d0g{A:Around}{C:Addr}{us:List Value}{kw:List (Str×Value)}:(A.under (.builtin "type.__call__" ⟨.ref C::us,kw⟩)).units=A.units+1:=by
 first|rfl|simp[Around.under,Code.cUnits,Code.frames,Code.isFrame]
theorem Room.make{k:Nat}{A:Around}(r:Room (k+1) A)(C:Addr)(us:List Value)(kw:List (Str×Value)):Room k (A.under (.builtin "type.__call__" ⟨.ref C::us,kw⟩)) :=
 ⟨r.hd,by have:=r.dp;rw[d0h];lia,by have:=r.un;rw[d0g];lia⟩
theorem Room.depth{k:Nat}{A:Around}(r:Room k A):A.depth<recursionLimit:=by have:=r.dp;lia
def d6v:TA:=λ_ H Q=>Q [] H
noncomputable def d4u(ta:TE)(tr:TA):TA:=λσ H Q=>ta σ H λx H1=>tr σ H1 λxs H2=>Q (x::xs) H2
section
variable{X:Cx}{e:Expr}{es:List Expr}{te:TE}{t:TA}{pos:Pos}
theorem d9:PA X [] d6v:=λ_ _ _ _ H Q I h=>Calls.spliced_nil ⟨[],H,I,.nil,h⟩
theorem a9(ha:PE X e te)(hr:PA X es t)(hs:starEach (e::es) X.env=(false,eval e X.env)::starEach es X.env:=by rfl):PA X (e::es) (d4u te t):=by
 intro pos pins s σ H Q I h;rw[hs];show wpAny _ _ (spliced ((false,eval e X.env)::backTo pos (starEach es X.env))) _ _ s;refine Calls.spliced_cons (thn (ha pins s σ H _ I h) λu s1 z0_=>?_);obtain⟨x,H1,I1,r1,q1⟩:=z0_;exact thn (hr pos pins s1 σ H1 _ I1 q1) λus s2 z0_=>by obtain⟨xs,H2,I2,r2,q2⟩:=z0_;exact⟨x::xs,H2,I2,.cons r1 r2,q2⟩
noncomputable def e5t(t:TA):TE:=λσ H Q=>t σ H λxs H1=>xs.length<=sizeLine/\∀p,H1 p=none->Q (.ref p) (upd H1 p (.tup xs))
noncomputable def e5x(t:TA):TE:=λσ H Q=>t σ H λxs H1=>xs.length<=sizeLine/\∀p,H1 p=none->Q (.ref p) (upd H1 p (.lst xs))
theorem a5j{x1}(h:PA X es t):PE X (.Tuple es x1 pos) (e5t t):=by
 intro pins s σ H Q I hq;refine wpAny_Tuple_spliced (thn (h pos pins s σ H _ I hq) λus s1 ⟨xs,H1,I1,r,z,q⟩=>⟨by rw[<- r.length];exact z,?_⟩)
 have hf:H1 s1.heap.objs.size=none:=I1.hok.fresh ↑31;refine⟨.ref s1.heap.objs.size,upd H1 s1.heap.objs.size (.tup xs),I1.laid (t':=s1.toks) (λb u e=>Heap.get?_push_of_some _ e) ↑31 ?_,rfl,q _ hf⟩;exact⟨z,us,r,⟨_,Heap.get?_push_size _ rfl,rfl,_,rfl⟩⟩
theorem k8(h:PA X es t):PE X (.List es pos) (e5x t):=by
 intro pins s σ H Q I hq;refine wpAny_List_spliced (thn (h pos pins s σ H _ I hq) λus s1 ⟨xs,H1,I1,r,z,q⟩=>⟨by rw[<- r.length];exact z,?_⟩)
 have hf:H1 s1.heap.objs.size=none:=I1.hok.fresh ↑31;refine⟨.ref s1.heap.objs.size,upd H1 s1.heap.objs.size (.lst xs),I1.laid (t':=s1.toks) (λb u e=>Heap.get?_push_of_some _ e) ↑31 ?_,rfl,q _ hf⟩;exact⟨z,us,0,r,Heap.get?_push_size _ rfl⟩
end
abbrev Sp:=List V->Hp->VK->XK->Prop
abbrev CXT:=List Env->Hp->Shared->XK->Value->Shared->Prop
structure Env0(P:Program)(w:World)(K:↑28)(mg:Str->Option Value)(base:Heap)(A:Around)(outer:List Env)(s:Shared)(H:Hp):Prop where
 frames:A.frames=some outer
 mod:Mod K mg base
 bs:∀b o,base.get? b=some o->s.heap.get? b=some o/\H b=none
 bsz:base.objs.size<=s.heap.objs.size
 funs:s.heap.FunFrames base outer
 frf:∀b∈frs outer,H b=none
 hok:HOk P w H s.heap
 bare:AllBare s.gens
noncomputable def CE(outer:List Env)(P:Program)(w:World)(H:Hp)(s:Shared)(Q:VK)(u:Value)(s':Shared):Prop :=
 ∃v H',s'.os=s.os/\AllBare s'.gens/\Un (frs outer) [] H H' s.heap s'.heap/\HOk P w H' s'.heap/\RelV v u/\Q v H'
noncomputable def CR(CX:CXT)(outer:List Env)(P:Program)(w:World)(H:Hp)(s:Shared)(Q:VK)(E:XK)(r:Result)(s':Shared):Prop :=
 match r with
 | .ok (.ret u)=>CE outer P w H s Q u s'
 | .ok _=>False
 | .error e=>CX outer H s E e s'
structure FnOk(P:Program)(w:World)(K:↑28)(mg:Str->Option Value)(base:Heap)(CX:CXT)(k:Nat)(f:Addr)(fd:FuncData)(ps:List Str)(sp:Sp):Prop where
 len:∀vs H Q E,sp vs H Q E->vs.length=ps.length
 run:∀(A:Around)(outer:List Env)(s:Shared)(H:Hp)(args:Args)(us:List Value)(vs:List V)(Q:VK)(E:XK),Room k A->Env0 P w K mg base A outer s H->BindsTo s fd args (ps.zip us)->Vals vs us->sp vs H Q E ->
  codeAny (model P w) A (.call (.ref f) args) (CR CX outer P w H s Q E) s
theorem FnOk.mono{P:Program}{w:World}{K:Frag}{mg:Str->Option Value}{base:Heap}{CX:CXT}{j k:Nat}{f:Addr}{fd:FuncData}{ps:List Str}{sp:Sp}(F:FnOk P w K mg base CX j f fd ps sp)(h:j<=k):
  FnOk P w K mg base CX k f fd ps sp:=⟨F.len,λA outer s H args us vs Q E hr=>F.run A outer s H args us vs Q E (hr.mono h)⟩
theorem Env0.make{P:Program}{w:World}{K:Frag}{mg:Str->Option Value}{base:Heap}{A:Around}{outer:List Env}{s:Shared}{H:Hp}(e:Env0 P w K mg base A outer s H)(C:Addr)(us:List Value)(kw:List (Str×Value)):
  Env0 P w K mg base (A.under (.builtin "type.__call__" ⟨.ref C::us,kw⟩)) outer s H:=⟨by first|exact e.frames|(simpa[Around.under,Code.envs,Code.isFrame,pushEnvs] using e.frames),e.mod,e.bs,e.bsz,e.funs,e.frf,e.hok,e.bare⟩
section
variable{X:Cx}{pins:List ↑24}{σ:St}{H:Hp}{s s':Shared}
theorem Inv.env0(I:↑13):Env0 X.prog X.w X.K X.mg X.base X.A X.stack s H :=
 ⟨I.ok.frames,I.ok.mod,I.bs,Nat.le_trans I.ok.bsz I.sz,I.stack,I.stkFree,I.hok,I.bare⟩
theorem Inv.after{Q:VK}{u:Value}(I:↑13)(h:CE X.stack X.prog X.w H s Q u s'):EP X pins σ Q u s':=by
 obtain⟨v,H',os,bare,un,hok,r,q⟩:=h;obtain⟨hh,g,d,t,os'⟩:=s';obtain rfl:os'=s.os:=os;exact⟨v,H',I.call (h':=hh) (g':=g) (d':=d) (t':=t) (ch:=[]) un hok bare (λb z=>absurd z (by simp)),r,q⟩
end
noncomputable def e0x(sp:Sp)(dvs:List V)(E:XK)(t:TA):TE:=λσ H Q=>t σ H λvs H1=>sp (vs++dvs) H1 Q E
noncomputable def e0s(C:Addr)(m:Str)(sp:Sp)(dvs:List V)(E:XK)(ta:TE)(t:TA):TE:=λσ H Q=>ta σ H λx H1=>∃a dx fs,x=.ref a/\H1 a=some ↑40/\fs.lookup m=none /\
 t σ H1 λvs H2=>sp (x::(vs++dvs)) H2 Q E
noncomputable def e3z(C:Addr)(sp:Sp)(dvs:List V)(E:XK)(t:TA):TE:=λσ H Q=>t σ H λvs H1=>∀x dx,H1 x=none->H1 dx=none->dx≠x ->
 sp (.ref x::(vs++dvs)) (upd (upd H1 dx (.own x)) x (.ins C dx [])) (λv H2=>v=.non/\Q (.ref x) H2) E
noncomputable def Binds(K:↑28)(fd:FuncData)(ps:List Str)(ds:List Value):Prop :=
 ∀(s:Shared)(us:List Value),K.In s.heap->(us++ds).length=ps.length->BindsTo s fd ⟨us,[]⟩ (ps.zip (us++ds))
theorem Binds.all{K:Frag}{fd:FuncData}{ps:List Str}(h:∀us:List Value,us.length=ps.length->bindArgs fd ⟨us,[]⟩=pure (ps.zip us)):Binds K fd ps []:=λs us _ hl=>by
 rw[List.append_nil] at hl ⊢;exact .of_eq (h us hl)
def a2s(CX:CXT)(X:Cx)(E:XK):Prop:=∀(pins:List ↑24)(σ:St)(H:Hp)(s:Shared)(e:Value)(s':Shared),Inv X pins σ H s->CX X.stack H s E e s'->X.xe e s'
section
variable{X:Cx}{CX:CXT}{k:Nat}{f C:Addr}{fd:FuncData}{ps:List Str}{sp:Sp}{dvs:List V}{ds:List Value}{E:XK}{x m:Str}{p pos apos:Pos}{e o:Expr}{es:List Expr}{ta:TE}{t:TA}
theorem b5o{pins:List ↑24}{σ:St}{H:Hp}{s:Shared}{Q:VK}{us:List Value}{vs:List V}(F:FnOk X.prog X.w X.K X.mg X.base CX k f fd ps sp)(hr:Room k X.A)(hb:Binds X.K fd ps ds)(hd:Vals dvs ds)(hx:a2s CX X E)(I:↑13)(r:Vals vs us)(h:sp (vs++dvs) H Q E):wpAny ↑20 X.A (call (.ref f) us) (EP X pins σ Q) X.xe s:=by
 have r2:Vals (vs++dvs) (us++ds):=r.append hd;have hl:(us++ds).length=ps.length:=by rw[<- r2.length];exact F.len _ _ _ _ h
 refine wpAny_call (codeAny_mono (F.run X.A X.stack s H ⟨us,[]⟩ (us++ds) (vs++dvs) Q E hr I.env0 (hb s us I.kIn hl) r2 h) λr s' hq=>?_);cases r with
 | error e=>exact hx pins σ H s e s' I hq
 | ok fl=>
  cases fl with
  | ret u=>exact I.after hq
  | next=>exact False.elim hq
  | brk=>exact False.elim hq
  | cont=>exact False.elim hq
theorem d8r(F:FnOk X.prog X.w X.K X.mg X.base CX k f fd ps sp)(hr:Room k X.A)(hg:Gl X x)(hm:X.mg x=some (.ref f))(hk:keepIn X.K (.ref f)=true)(hb:Binds X.K fd ps ds)(hd:Vals dvs ds)(hx:a2s CX X E)(ha:PA X (e::es) t)(hdb:↑33=false:=by decide)(he:starEach (e::es) X.env=(false,eval e X.env)::starEach es X.env:=by rfl)(hpl:(backTo pos (starEach es X.env)).any (·.1)=false:=by rfl):
  PE X (.Call (.Name x p) (e::es) [] pos) (e0x sp dvs E t):=by
 fail "i";refine wpAny_Call_Name_kw (c2c I hg hm ?_ hdb);refine callWith_K (h₀:=X.base) I.ok.mod.kin hk (thn (ha pos pins s σ H _ I h) λus s1 z0_=>?_) he hpl;obtain⟨vs,H1,I1,r,q⟩:=z0_;refine⟨I1.kIn,?_⟩;exact b5o F hr hb hd hx I1 r q
theorem d5e(F:FnOk X.prog X.w X.K X.mg X.base CX k f fd ps sp)(hr:Room k X.A)(hg:Gl X x)(hm:X.mg x=some (.ref f))(hk:keepIn X.K (.ref f)=true)(hb:Binds X.K fd ps ds)(hd:Vals dvs ds)(hx:a2s CX X E)(hdb:↑33=false:=by decide):PE X (.Call (.Name x p) [] [] pos) (e0x sp dvs E d6v):=by
 fail "i";refine wpAny_Call_Name_kw (c2c I hg hm ?_ hdb);exact PySem.W.callWith_K0 I.kIn hk (b5o (us:=[]) F hr hb hd hx I .nil h)
theorem d8p{pl:Sem Bool}(he:PE X o ta)(c:Cls X.K C)(hm:e3l X.K C m f)(F:FnOk X.prog X.w X.K X.mg X.base CX k f fd ps sp)(hr:Room k X.A)(hb:Binds X.K fd ps ds)(hd:Vals dvs ds)(hx:a2s CX X E)(ha:PA X (e::es) t)(hst:starEach (e::es) X.env=(false,eval e X.env)::starEach es X.env:=by rfl)(hpl:(backTo pos (starEach es X.env)).any (·.1)=false:=by rfl)(ht:eval (.Call (.Attribute o m apos) (e::es) [] pos) X.env=(do
   let ov <- eval o X.env
   standAt apos.atName
   let (f,first) <- holding [ov] (getMethod ov m pl)
   callWith pos f first (backTo pos (starEach (e::es) X.env)) (backToKw pos (keywordEach [] X.env))):=by rfl):
  PE X (.Call (.Attribute o m apos) (e::es) [] pos) (e0s C m sp dvs E ta t):=by
 fail "i";refine PySem.W.methodCall_KW (pl:=pl) (thn (he pins s σ H _ I h) λu s1 z0_=>?_) ht;obtain⟨x,H1,I1,rx,a,dx,fs,ex,ea,l,q⟩:=z0_;subst ex;obtain rfl:u=Value.ref a:=rx;refine a9s I1 ea c hm l ?_;refine callWith_K (first:=[.ref a]) (h₀:=X.base) I.ok.mod.kin hm.kp (thn (ha pos pins s1 σ H1 _ I1 q) λus s2 z0_=>?_) hst hpl
 obtain⟨vs,H2,I2,r,q2⟩:=z0_;refine⟨I2.kIn,?_⟩;exact b5o (us:=.ref a::us) (vs:=.ref a::vs) F hr hb hd hx I2 (.cons rfl r) q2
theorem d5c{pl:Sem Bool}(he:PE X o ta)(c:Cls X.K C)(hm:e3l X.K C m f)(F:FnOk X.prog X.w X.K X.mg X.base CX k f fd ps sp)(hr:Room k X.A)(hb:Binds X.K fd ps ds)(hd:Vals dvs ds)(hx:a2s CX X E)(ht:eval (.Call (.Attribute o m apos) [] [] pos) X.env=(do
   let ov <- eval o X.env
   standAt apos.atName
   let (f,first) <- holding [ov] (getMethod ov m pl)
   callWith pos f first (backTo pos (starEach [] X.env)) (backToKw pos (keywordEach [] X.env))):=by rfl):
  PE X (.Call (.Attribute o m apos) [] [] pos) (e0s C m sp dvs E ta d6v):=by
 fail "i";refine PySem.W.methodCall_KW (pl:=pl) (thn (he pins s σ H _ I h) λu s1 z0_=>?_) ht;obtain⟨x,H1,I1,rx,a,dx,fs,ex,ea,l,q⟩:=z0_;subst ex;obtain rfl:u=Value.ref a:=rx;refine a9s I1 ea c hm l ?_;exact PySem.W.callWith_K0 (first:=[.ref a]) I1.kIn hm.kp (b5o (us:=[.ref a]) (vs:=[.ref a]) F hr hb hd hx I1 (.cons rfl .nil) q)
structure Mk(K:↑28)(C f:Addr):Prop where
 makes:makesIn K C=true
 init:findIn K (.ref C) "__init__" = some (some (.ref f))
 fn:isFn K (.ref f)=true
 kp:keepIn K (.ref C)=true
theorem d4v{pins:List ↑24}{σ:St}{H:Hp}{s:Shared}{Q:VK}{us:List Value}{vs:List V}(M:Mk X.K C f)(F:FnOk X.prog X.w X.K X.mg X.base CX k f fd ps sp)(hr:Room (k+1) X.A)(hb:Binds X.K fd ps ds)(hd:Vals dvs ds)(hx:a2s CX X E)(I:↑13)(r:Vals vs us)(h:∀x dx,H x=none->H dx=none->dx≠x->sp (.ref x::(vs++dvs)) (upd (upd H dx (.own x)) x (.ins C dx [])) (λv H2=>v=.non/\Q (.ref x) H2) E):
  wpAny ↑20 X.A (call (.ref C) us) (EP X pins σ Q) X.xe s:=by
 have hq:=h (s.heap.objs.size+1) s.heap.objs.size (I.hok.fresh (Nat.le_succ _)) (I.hok.fresh ↑31) (Nat.ne_of_lt (Nat.lt_succ_self _));have I2:=Inv.made (C:=C) I;have r2:Vals (V.ref (s.heap.objs.size+1)::(vs++dvs)) (Value.ref (s.heap.objs.size+1)::(us++ds)):=.cons rfl (r.append hd);have hl:(Value.ref (s.heap.objs.size+1)::us++ds).length=ps.length:=by
  have e:=r2.length;rw[F.len _ _ _ _ hq] at e;exact e.symm
 refine wpAny_call (d5p (f:=f) I.kIn M.makes M.init (beq_iff_eq.mp M.fn) (codeAny_mono (F.run _ X.stack _ _ ⟨Value.ref (s.heap.objs.size+1)::us,[]⟩ (Value.ref (s.heap.objs.size+1)::(us++ds)) _ _ E (hr.make C us [])
  (I2.env0.make C us []) (hb _ (Value.ref (s.heap.objs.size+1)::us) I2.kIn hl) r2 hq) λr s' hq'=>?_))
 cases r with
 | error e=>exact hx pins σ _ _ e s' I2 hq'
 | ok fl=>
  cases fl with
  | ret u=>
   obtain⟨v,H',I3,rv,ev,q3⟩:=I2.after hq';subst ev;exact⟨rv,⟨V.ref (s.heap.objs.size+1),H',I3,rfl,q3⟩⟩
  | next=>exact False.elim hq'
  | brk=>exact False.elim hq'
  | cont=>exact False.elim hq'
theorem d8q(M:Mk X.K C f)(F:FnOk X.prog X.w X.K X.mg X.base CX k f fd ps sp)(hr:Room (k+1) X.A)(hg:Gl X x)(hm:X.mg x=some (.ref C))(hb:Binds X.K fd ps ds)(hd:Vals dvs ds)(hx:a2s CX X E)(ha:PA X (e::es) t)(hdb:↑33=false:=by decide)(he:starEach (e::es) X.env=(false,eval e X.env)::starEach es X.env:=by rfl)(hpl:(backTo pos (starEach es X.env)).any (·.1)=false:=by rfl):
  PE X (.Call (.Name x p) (e::es) [] pos) (e3z C sp dvs E t):=by
 fail "i";refine wpAny_Call_Name_kw (c2c I hg hm ?_ hdb);refine callWith_K (h₀:=X.base) I.ok.mod.kin M.kp (thn (ha pos pins s σ H _ I h) λus s1 z0_=>?_) he hpl;obtain⟨vs,H1,I1,r,q⟩:=z0_;refine⟨I1.kIn,?_⟩;exact d4v M F hr hb hd hx I1 r q
end
structure g2(N P:List Str)(sc:Scope):Prop where
 kind:sc.kind=.function
 co:sc.isCoroutine=false
 gen:sc.isGenerator=false
 nd:N.Nodup
 pre:N.take P.length=P
 par:∀x∈P,sc.names.lookup x=some .local\/sc.names.lookup x=some .cell
 nofree:∀y∈sc.names,y.2≠.free
theorem c5f{kindOf:Str->Option NameKind}{x:Str}:∀{binds:List (Str×Value)}{m:Str->Option Value},(∀v,(x,v) ∉ binds)->bindL kindOf binds m x=m x
 | [],_,_=>rfl
 | (n,v)::r,m,h=>by
  unfold bindL;rw[c5f λw hw=>h w (List.mem_cons_of_mem _ hw)];split
  ·have:x≠n:=by rintro rfl;exact h v List.mem_cons_self
   simp[this]
  ·rfl
theorem c5h{kindOf:Str->Option NameKind}{x:Str}:∀{binds:List (Str×Value)}{m:Str->Option Value},(∀v,(x,v) ∉ binds)->bindC kindOf binds m x=m x
 | [],_,_=>rfl
 | (n,v)::r,m,h=>by
  unfold bindC;rw[c5h λw hw=>h w (List.mem_cons_of_mem _ hw)];split
  ·rfl
  ·have:x≠n:=by rintro rfl;exact h v List.mem_cons_self
   simp[this]
theorem c5g{kindOf:Str->Option NameKind}{x:Str}{v:Value}:∀{P:List Str}{vs:List Value}{i:Nat}{m:Str->Option Value},P.Nodup->P[i]?=some x->vs[i]?=some v->kindOf x=some .local ->
  bindL kindOf (P.zip vs) m x=some v
 | [],_,_,_,_,h,_,_=>by simp at h
 | _::_,[],_,_,_,_,h,_=>by simp at h
 | p::P,w::vs,0,m,nd,h1,h2,hk=>by
  simp at h1 h2;subst h1;subst h2;show bindL kindOf ((p,w)::P.zip vs) m p=_;unfold bindL;rw[c5f λv hv=>(List.nodup_cons.mp nd).1 (List.of_mem_zip hv).1,if_pos hk];simp
 | p::P,w::vs,i+1,m,nd,h1,h2,hk=>by
  show bindL kindOf ((p,w)::P.zip vs) m x=_;unfold bindL;exact c5g (i:=i) (List.nodup_cons.mp nd).2 (by simpa using h1) (by simpa using h2) hk
theorem c5i{kindOf:Str->Option NameKind}{x:Str}{v:Value}:∀{P:List Str}{vs:List Value}{i:Nat}{m:Str->Option Value},P.Nodup->P[i]?=some x->vs[i]?=some v->kindOf x≠some .local ->
  bindC kindOf (P.zip vs) m x=some v
 | [],_,_,_,_,h,_,_=>by simp at h
 | _::_,[],_,_,_,_,h,_=>by simp at h
 | p::P,w::vs,0,m,nd,h1,h2,hk=>by
  simp at h1 h2;subst h1;subst h2;show bindC kindOf ((p,w)::P.zip vs) m p=_;unfold bindC;rw[c5h λv hv=>(List.nodup_cons.mp nd).1 (List.of_mem_zip hv).1,if_neg hk];simp
 | p::P,w::vs,i+1,m,nd,h1,h2,hk=>by
  show bindC kindOf ((p,w)::P.zip vs) m x=_;unfold bindC;exact c5i (i:=i) (List.nodup_cons.mp nd).2 (by simpa using h1) (by simpa using h2) hk
noncomputable def start(N:List Str)(vs:List V):St:=vs.map some++List.replicate (N.length-vs.length) none
noncomputable def c7j(CX:CXT)(P:Program)(w:World)(K:↑28)(mg:Str->Option Value)(base:Heap)(N:List Str)(qual:Str)(scope:Scope)(f:Addr)(cd:Value)(A:Around)(outer:List Env)(s:Shared)(H:Hp)(E:XK):Cx where
 prog:=P
 w:=w
 K:=K
 mg:=mg
 base:=base
 A:=A.deeper (envOfC qual scope s.heap.objs.size f cd)
 N:=N
 s₀:=s
 H₀:=H
 env:=envOfC qual scope s.heap.objs.size f cd
 outer:=outer
 stack:=envOfC qual scope s.heap.objs.size f cd::outer
 ex:=[]
 calm:=true
 fn:=λ_=>true
 pn:=[]
 xe:=λe s'=>wpAny (model P w) (A.deeper (envOfC qual scope s.heap.objs.size f cd)) (leaving (envOfC qual scope s.heap.objs.size f cd) e) (λ_ s''=>CX outer H s E e s'') (λe' s''=>CX outer H s E e' s'') s'
theorem c8y{sc:Scope}{n:Nat}{x:Str}(h:sc.names.lookup x=some .cell):∃c,(cellsFrom n sc.names []).lookup x=some c:=by
 have q:=PySem.W.cellsFrom_some sc.names n [] (.inl h);exact Option.isSome_iff_exists.mp q
theorem d2w{CX:CXT}{P:Program}{w:World}{K:Frag}{mg:Str->Option Value}{base:Heap}{N ps:List Str}{qual:Str}{scope:Scope}{f:Addr}{cd:Value}{A:Around}{outer:List Env}{s s1:Shared}{H:Hp}{E:XK}{us:List Value}{vs:List V}(S:g2 N ps scope)(hd:A.handled=none)(e0:Env0 P w K mg base A outer s H)(hl:vs.length=ps.length)(r:Vals vs us)(x:InCallC s s.heap.objs.size (bindL (envOfC qual scope s.heap.objs.size f cd).kindOf (ps.zip us) λ_=>none) (cellsFrom (s.heap.objs.size+1) scope.names []) (bindC (envOfC qual scope s.heap.objs.size f cd).kindOf (ps.zip us) λ_=>none) s1):
  Inv (c7j CX P w K mg base N qual scope f cd A outer s H E) [] (start N vs) H s1:=by
 have hpl:ps.length<=N.length:=by have:=congrArg List.length S.pre;rw[List.length_take] at this;lia
 obtain⟨h1,tk,rfl,hk⟩:=x.done;have noA:∀b:Addr,b ∉ (c7j CX P w K mg base N qual scope f cd A outer s H E).ex:=λb z=>absurd (show b∈([]:List Addr) from z) (by simp)
 refine⟨⟨e0.mod,S.kind,rfl,rfl,Nat.le_refl _,λy z c h1 h2=>?_,λy hy=>?_,λy c _ h=>?_,λ_=>hd,Around.frames_deeper e0.frames,.inr ⟨rfl,rfl⟩,λb z=>absurd z (noA b),e0.bs,e0.bsz,λb _ _=>noA b,λb z=>absurd z (noA b),e0.funs,e0.frf⟩,
  rfl,e0.bare,Un.kept hk,⟨_,x.toInCall.ns,λi y v h1 h2 h3=>?_⟩,λy c h=>⟨_,x.cell y c h⟩,e0.hok.fresh ↑31,λy c h=>?_,λp hp=>absurd (show p∈([]:List ↑24) from hp) (by simp),e0.hok.kept hk,?_⟩
 ·exact name_of_addr x.apart (PySem.mem_of_lookup h1) (PySem.mem_of_lookup h2)
 ·have hy:scope.names.lookup y=some .cell\/scope.names.lookup y=some .free:=hy
  rcases hy with hy|hy
  ·exact c8y hy
  ·exact absurd rfl (S.nofree _ (PySem.mem_of_lookup hy))
 ·exact Nat.le_of_lt (x.above y c (PySem.mem_of_lookup h))
 ·have hi:i<vs.length:=by
   unfold start at h2;by_cases hi:i<vs.length
   ·exact hi
   ·rw[List.getElem?_append_right (by simpa using hi)] at h2
    rw[List.getElem?_replicate] at h2;split at h2 <;> cases h2
  have ha:vs[i]?=some v:=by
   unfold start at h2;rw[List.getElem?_append_left (by simpa using hi),List.getElem?_map] at h2
   cases e:vs[i]? with
   | none=>rw[e] at h2;cases h2
   | some a=>rw[e] at h2;cases h2;rfl
  obtain⟨u,hu,rv⟩:=r.get ha;have hp:ps[i]?=some y:=by
   rw[<- S.pre,List.getElem?_take_of_lt ↑2];exact h1
  have ndP:ps.Nodup:=by rw[<- S.pre];exact S.nd.sublist (List.take_sublist _ _)
  refine⟨u,rv,?_⟩;rcases S.par y (List.mem_of_getElem? hp) with k|k
  ·exact .inl ⟨k,c5g ndP hp hu k⟩
  ·obtain⟨c,e⟩:=c8y (n:=s.heap.objs.size+1) k
   refine .inr ⟨.inl k,c,e,?_⟩;have q:=x.cell y c e;rw[c5i ndP hp hu (by show scope.names.lookup y≠_;rw[k];decide)] at q
   exact q
 ·exact e0.hok.fresh (Nat.le_of_lt (x.above y c (PySem.mem_of_lookup h)))
 ·unfold start
  show _=N.length;rw[List.length_append,List.length_map,List.length_replicate];lia
theorem e5l{CX:CXT}{P:Program}{w:World}{K:Frag}{mg:Str->Option Value}{base:Heap}{k:Nat}{f:Addr}{name qual:Str}{params:Arguments}{body:List Stmt}{scope:Scope}{dV kV doc pm cdv ct oc:Value}{an od:Option Addr}{osl:Array (Option Value)}{N ps:List Str}{sp:Sp}(lk:K.lookup f=some ⟨oc,od,.func (PySem.W.fnOf name qual params body scope dV kV doc pm an cdv ct),osl⟩)(hcd:codeIn K cdv qual=true)(S:g2 N ps scope)(len:∀vs H Q E,sp vs H Q E->vs.length=ps.length)(hbody:∀(A:Around) (outer:List Env) (s:Shared) (H:Hp) (vs:List V) (Q:VK) (E:XK),Room k (A.deeper (envOfC qual scope s.heap.objs.size f cdv))->sp vs H Q E ->
   ∃t,PSs (c7j CX P w K mg base N qual scope f cdv A outer s H E) body t/\t { nx:=λ_ H'=>Q .non H',rt:=Q } (start N vs) H):
  FnOk P w K mg base CX (k+1) f (PySem.W.fnOf name qual params body scope dV kV doc pm an cdv ct) ps sp:=by
 refine⟨len,λA outer s H args us vs Q E hr e0 hb r hsp=>?_⟩;have hl:=len _ _ _ _ hsp;have KX:K.In s.heap:=e0.mod.kin.keeps λb o e=>(e0.bs b o e).1;have lim:s.heap.NoLimit:=e0.mod.nolimit.keeps λb o e=>(e0.bs b o e).1;have hkind:∀y∈ps.zip us,scope.names.lookup y.1=some .local\/(scope.names.lookup y.1=some .cell/\((cellsFrom (s.heap.objs.size+1) scope.names []).lookup y.1).isSome=true):=λ⟨n,v⟩ hy=>by
  rcases S.par n (List.of_mem_zip hy).1 with q|q
  ·exact .inl q
  ·exact .inr ⟨q,PySem.W.cellsFrom_some _ _ _ (.inl q)⟩
 refine codeAny_call_function hr.depth (KX _ _ lk) rfl S.co S.gen rfl (PySem.W.codeRec_of KX hcd) (hb _ _ _ _ ?_);refine wpAny_newFunctionEnv_cells S.kind hkind λenv he s1 x=>?_;subst he;refine⟨lim.keeps x.toInCall.keep,codeAny_func ?_⟩;obtain⟨t,ht,hq⟩:=hbody A outer s H vs Q E (hr.deeper _) hsp;have I:Inv (c7j CX P w K mg base N qual scope f cdv A outer s H E) [] (start N vs) H s1:=d2w S hr.hd e0 hl r x;refine wpAny_mono (ht [] s1 (start N vs) H _ I hq) (λfl s' hs=>?_) λe s' hs=>hs;have fin:∀{σ':St}{H':Hp}{v:V}{u:Value},Inv (c7j CX P w K mg base N qual scope f cdv A outer s H E) [] σ' H' s'->RelV v u->Q v H'->CE outer P w H s Q u s' :=
  λ{σ' H' v u} J rv q=>⟨v,H',J.os,J.bare,J.base,J.hok,rv,q⟩
 cases fl with
 | ret u=>
  obtain⟨v,σ',H',J,rv,q⟩:=hs;exact fin J rv q
 | next=>
  obtain⟨σ',H',J,q⟩:=hs;exact fin (v:=V.non) (u:=Value.none) J rfl q
 | brk=>
  obtain⟨_,_,_,q⟩:=hs;exact False.elim q
 | cont=>
  obtain⟨_,_,_,q⟩:=hs;exact False.elim q
section
variable{X:Cx}{x:Str}{p pos:Pos}{e:Expr}{es:List Expr}{t:TA}{id T:String}{r:List V->Hp->VK->Prop}
noncomputable def tCB(r:List V->Hp->VK->Prop)(t:TA):TE:=λσ H Q=>t σ H λvs H1=>r vs H1 Q
theorem k0(hc:b8h X (.builtin id) r)(hg:Gl X x)(hm:X.mg x=none)(hv:bootBuiltins x=some (.builtin id))(ha:PA X (e::es) t)(hn:x≠"__name__":=by decide)(hdb:↑33=false:=by decide)(he:starEach (e::es) X.env=(false,eval e X.env)::starEach es X.env:=by rfl)(hpl:(backTo pos (starEach es X.env)).any (·.1)=false:=by rfl):PE X (.Call (.Name x p) (e::es) [] pos) (tCB r t):=by
 fail "i";refine wpAny_Call_Name_kw (c4t I hg hm hv ?_ hn hdb);exact PyProof.Rows.callWith_builtin1 (thn (ha pos pins s σ H _ I h) λus s1 z0_=>by obtain⟨vs,H1,I1,r1,q1⟩:=z0_;exact hc pins s1 σ H1 vs us Q I1 r1 q1) he hpl
theorem m9(hc:b8h X (.type T) r)(hg:Gl X x)(hm:X.mg x=none)(hv:bootBuiltins x=some (.type T))(ha:PA X (e::es) t)(hn:x≠"__name__":=by decide)(hdb:↑33=false:=by decide)(he:starEach (e::es) X.env=(false,eval e X.env)::starEach es X.env:=by rfl)(hpl:(backTo pos (starEach es X.env)).any (·.1)=false:=by rfl):PE X (.Call (.Name x p) (e::es) [] pos) (tCB r t):=by
 fail "i";refine wpAny_Call_Name_kw (c4t I hg hm hv ?_ hn hdb);exact PyProof.Rows.callWith_type1 (thn (ha pos pins s σ H _ I h) λus s1 z0_=>by obtain⟨vs,H1,I1,r1,q1⟩:=z0_;exact hc pins s1 σ H1 vs us Q I1 r1 q1) he hpl
end
end L2
namespace HT
open PySem PyProof.Rows
section
variable{prog:Program}{w:World}{A:Around}{E:Value->Shared->Prop}{s:Shared}
theorem cat_tup{t b:Addr}{vs ws:List Value}{Q:Value->Shared->Prop}(ht:IsTup s.heap t vs.toArray)(hb:IsTup s.heap b ws.toArray)(hv:vs≠[])(h1:ws=[]->Q (.ref t) s)(h2:ws≠[]->Q (.ref s.heap.objs.size) { s with heap:=s.heap.push { cls:=.type "tuple",data:=.seq (vs++ws).toArray } })(hsz:vs.length+ws.length<=sizeLine):wpAny ↑38 A (binaryOp .Add (.ref t) (.ref b)) Q E s:=by
 obtain⟨⟨cls,dd,data,sl⟩,ho,hc,n,hd⟩:=id ht;obtain⟨⟨cls2,dd2,data2,sl2⟩,ho2,hc2,n2,hd2⟩:=id hb;simp only at hc hd hc2 hd2;subst hc hd hc2 hd2;have e:vs.toArray++ws.toArray=(vs++ws).toArray:=by simp
 by_cases hw:ws=[]
 ·exact concat_meets ⟨_,ho,rfl⟩ ⟨_,ho2,rfl⟩ noFill_tuple_add seq_tuple_add PySem.F.slot_tuple_add PySem.F.entry_tuple_add (PySem.F.args_tuple_add_2 _ _)
   (tuple_addW1 t b vs.toArray ws.toArray n n2 dd dd2 sl sl2 (by simpa using hv) (by simp[hw])) ⟨ho,ho2,h1 hw⟩
 ·refine concat_meets ⟨_,ho,rfl⟩ ⟨_,ho2,rfl⟩ noFill_tuple_add seq_tuple_add PySem.F.slot_tuple_add PySem.F.entry_tuple_add (PySem.F.args_tuple_add_2 _ _)
   (tuple_addW2 t b vs.toArray ws.toArray n n2 dd dd2 sl sl2 (by simpa using hv) (by simpa using hw) (by rw[List.size_toArray,List.size_toArray];exact hsz)) ⟨ho,ho2,?_⟩
  rw[e];exact h2 hw
noncomputable def sIx(n d:Nat):Option Int->Nat
 | none=>d
 | some v=>if v<0 then (v+(n:Int)).toNat else min v.toNat n
theorem sIx_none(n d:Nat):sIx n d none=d:=rfl
theorem sIx_nat(n d k:Nat):sIx n d (some (k:Int))=min k n:=by
 show(if (k:Int)<0 then ((k:Int)+(n:Int)).toNat else min (k:Int).toNat n)=min k n;rw[if_neg ↑2,Int.toNat_natCast]
end
end HT
namespace L2
open PySem PySem.Spec PyProof.Rows
abbrev TO:=St->Hp->(Option Int->Hp->Prop)->Prop
noncomputable def PO(X:Cx)(e:Option Expr)(t:TO):Prop :=
 ∀(pins:List ↑24)(s:Shared)(σ:St)(H:Hp)(Q:Option Int->Hp->Prop),Inv X pins σ H s->t σ H Q ->
  wpAny ↑20 X.A (evalPart e X.env) (λu s'=>∃o H',Inv X pins σ H' s'/\IsPart u o/\Q o H') X.xe s
def d0y:TO:=λ_ H Q=>Q none H
noncomputable def e0p(t:TE):TO:=λσ H Q=>t σ H λx H1=>∃i,x=.int i/\Q (some i) H1
section
variable{X:Cx}{e:Expr}{te:TE}{lo hi:Option Expr}{tl th:TO}{pos p2:Pos}
theorem d1r:PO X none d0y:=by
 fail "i";rw[evalPart_none];exact wpAny_pure ⟨none,H,I,.none,h⟩
theorem d1q(h:PE X e te):PO X (some e) (e0p te):=by
 intro pins s σ H Q I hw;rw[evalPart_some];refine thn (h pins s σ H _ I hw) λu s1 z0_=>?_;obtain⟨x,H1,I1,r1,q1⟩:=z0_;obtain⟨i,rfl,q⟩:=q1;obtain⟨t,rfl⟩:=r1;exact⟨some i,H1,I1,.int i t,q⟩
noncomputable def SlR(X:Cx)(r:V->Option Int->Option Int->Hp->VK->Prop):Prop :=
 ∀(pins:List ↑24)(s:Shared)(σ:St)(H:Hp)(x:V)(v vl vu:Value)(lo hi:Option Int)(sl:Addr)(Q:VK),Inv X pins σ H s->RelV x v->s.heap.IsSliceOf sl vl vu .none->IsPart vl lo->IsPart vu hi->r x lo hi H Q ->
  ∃T id,typeLookup (.type T) "__getitem__" = pure (some (.builtin id))/\s.TypeIs v T/\wpAny ↑20 X.A (getItem v (.ref sl)) (EP X pins σ Q) X.xe s
noncomputable def tSl(r:V->Option Int->Option Int->Hp->VK->Prop)(te:TE)(tl th:TO):TE:=λσ H Q=>te σ H λx H1=>tl σ H1 λl H2=>th σ H2 λu H3=>r x l u H3 Q
theorem c7y{r:V->Option Int->Option Int->Hp->VK->Prop}(hr:SlR X r)(he:PE X e te)(hl:PO X lo tl)(hu:PO X hi th):PE X (.Subscript e (.Slice lo hi none p2) pos) (tSl r te tl th):=by
 fail "i";refine Subscript_ (thn (he pins s σ H _ I h) λv s1 z0_=>?_);obtain⟨x,H1,I1,r1,q1⟩:=z0_;refine wpAny_Slice (thn (hl pins s1 σ H1 _ I1 q1) λvl s2 z0_=>?_);obtain⟨l,H2,I2,pl,q2⟩:=z0_;refine thn (hu pins s2 σ H2 _ I2 q2) λvu s3 z1_=>?_;obtain⟨u,H3,I3,pu,q3⟩:=z1_;rw[evalPart_none];refine wpAny_pure ?_;have I4:Inv X pins σ H3 { s3 with heap:=s3.heap.push { cls:=.type "slice",data:=.fields #[vl,vu,.none] } }:=I3.kept (t':=s3.toks) λb ob q=>Heap.get?_push_of_some _ q
 obtain⟨T,id,hT,ht,hg⟩:=hr pins { s3 with heap:=s3.heap.push { cls:=.type "slice",data:=.fields #[vl,vu,.none] } } σ H3 x v vl vu l u s3.heap.objs.size Q I4 r1 (Heap.IsSliceOf.new ..) pl pu q3
 show wpAny ↑20 X.A (subscriptTail e (.Slice lo hi none p2) v (.ref s3.heap.objs.size)) (EP X pins σ Q) X.xe { s3 with heap:=s3.heap.push { cls:=.type "slice",data:=.fields #[vl,vu,.none] } }
 exact tail_any (ops:=[.ref s3.heap.objs.size,v]) ht hT hg (by with_unfolding_all rfl)
noncomputable def d9w(xs:List V)(lo hi:Option Int):List V:=(xs.drop (HT.sIx xs.length 0 lo)).take (HT.sIx xs.length xs.length hi-HT.sIx xs.length 0 lo)
theorem c7k(xs:List V)(lo hi:Option Int):(d9w xs lo hi).length<=xs.length:=by
 unfold d9w;rw[List.length_take,List.length_drop];lia
noncomputable def e1i(K:↑28):R2:=λx y H Q=>∃a b xs ys,x=.ref a/\y=.ref b/\SqT K H a xs/\SqT K H b ys/\xs≠[]/\xs.length+ys.length<=sizeLine /\
 (ys=[]->Q (.ref a) H)/\(ys≠[]->∀p,H p=none->Q (.ref p) (upd H p (.tup (xs++ys))))
theorem Vals.nil_iff{xs:List V}{us:List Value}(r:Vals xs us):us=[] ↔ xs=[]:=by
 cases r with
 | nil=>simp
 | cons _ _=>simp
theorem d8w:OpR X (binaryOp .Add) (e1i X.K):=by
 intro pins s σ H x y v u Q I rx ry h;obtain⟨a,b,xs,ys,rfl,rfl,ha,hb,hx,hz,q1,q2⟩:=h;cases rx;cases ry;obtain⟨its,r1,p1,_⟩:=I.tuple ha;obtain⟨its2,r2,p2,_⟩:=I.tuple hb;refine HT.cat_tup p1 p2 (λz=>hx (r1.nil_iff.mp z)) (λz=>⟨.ref a,H,I,rfl,q1 (r2.nil_iff.mp z)⟩) (λz=>?_) (by rw[<- r1.length,<- r2.length];exact hz)
 refine⟨.ref s.heap.objs.size,_,I.laid (t':=s.toks) (o:=.tup (xs++ys)) (λb ob q=>Heap.get?_push_of_some _ q) ↑31 ?_,rfl,q2 (λw=>z (r2.nil_iff.mpr w)) _ (I.hok.fresh ↑31)⟩;exact⟨by rw[List.length_append];exact hz,_,r1.append r2,IsTup.new _ _⟩
end
noncomputable def ixN(n:Nat)(i:Int):Option Nat:=if 0<=i then (if i<n then some i.toNat else none) else if -(n:Int)<=i then some (i+n).toNat else none
noncomputable def atI{α:Type}(xs:List α)(i:Int):Option α:=(ixN xs.length i).bind λj=>xs[j]?
theorem d2u{n:Nat}{i:Int}{j:Nat}(h:ixN n i=some j):seqIndex? i n=some j/\j<n/\-(n:Int)<=i/\i<n:=by
 unfold ixN at h;by_cases h0:0<=i
 ·rw[if_pos h0] at h
  by_cases h1:i<n
  ·rw[if_pos h1] at h
   have e:i.toNat=j:=Option.some.inj h;exact⟨by rw[seqIndex_of h0 h1,e],by lia,by lia,h1⟩
  ·rw[if_neg h1] at h;cases h
 ·rw[if_neg h0] at h
  by_cases h1:-(n:Int)<=i
  ·rw[if_pos h1] at h
   have e:(i+n).toNat=j:=Option.some.inj h;exact⟨by rw[seqIndex_neg ↑2 h1,e],by lia,h1,by lia⟩
  ·rw[if_neg h1] at h;cases h
theorem d4b{α:Type}{xs:List α}{i:Int}{v:α}(h:atI xs i=some v):∃j,seqIndex? i xs.length=some j/\xs[j]?=some v/\j<xs.length/\-(xs.length:Int)<=i/\i<xs.length:=by
 unfold atI at h;cases e:ixN xs.length i with
 | none=>rw[e] at h;cases h
 | some j=>
  rw[e] at h;obtain⟨h1,h2,h3,h4⟩:=d2u e;exact⟨j,h1,h,h2,h3,h4⟩
def e0c(b:Expr):Prop:=∀o i,subscripted b false o i=operate [o,i] (getItem o i)
noncomputable def IxR(X:Cx)(r:R2):Prop :=
 ∀(value slice:Expr)(pins:List ↑24)(s:Shared)(σ:St)(H:Hp)(x y:V)(v u:Value)(Q:VK),Inv X pins σ H s->RelV x v->RelV y u->r x y H Q ->
  subscripted slice false v u=operate [v,u] (getItem v u)->wpAny ↑20 X.A (subscriptTail value slice v u) (EP X pins σ Q) X.xe s
noncomputable def MtR(X:Cx)(id:String)(r:V->List V->Hp->VK->Prop):Prop :=
 ∀(pins:List ↑24)(s:Shared)(σ:St)(H:Hp)(x:V)(xs:List V)(v:Value)(us:List Value)(Q:VK),Inv X pins σ H s->RelV x v->Vals xs us->r x xs H Q ->
  wpAny ↑20 X.A (call (.builtin id) (v::us)) (EP X pins σ Q) X.xe s
section
variable{X:Cx}{a b:Expr}{ta tb:TE}{pos:Pos}
theorem l7{r:R2}(hr:IxR X r)(ha:PE X a ta)(hb:PE X b tb)(hs:e0c b):PE X (.Subscript a b pos) (tOp r ta tb):=by
 fail "i";exact Subscript_ (e5n ha hb I h λv u s2 x y H2 I2 rx ry q=>hr a b pins s2 σ H2 x y v u Q I2 rx ry q (hs _ _))
noncomputable def e4h(K:↑28):R2:=λx y H Q=>∃p xs i v,x=.ref p/\y=.int i/\SqL K H p xs/\atI xs i=some v/\Q v H
noncomputable def e4g(K:↑28):R2:=λx y H Q=>∃p xs i v,x=.ref p/\y=.int i/\SqT K H p xs/\atI xs i=some v/\Q v H
theorem d9f:IxR X (e4h X.K):=by
 intro value slice pins s σ H x y v u Q I rx ry h hs;obtain⟨p,xs,i,z,rfl,rfl,hq,he,q⟩:=h;cases rx;obtain⟨t,rfl⟩:=ry;obtain⟨its,r,pl,hz⟩:=I.list hq;obtain⟨j,h1,h2,h3,h4,h5⟩:=d4b he;obtain⟨w,ew,rw'⟩:=r.get h2;have hl:=r.length;have hn:=c8m;have fin:EP X pins σ Q w s:=⟨z,H,I,rw',q⟩;by_cases h0:0<=i
 ·have hj:i.toNat=j:=by
   rw[seqIndex_of h0 h5] at h1;exact Option.some.inj h1
  exact item_listR pl.isList h0 ↑2 (by rw[hj];simpa using ew) fin hs
 ·have hj:(i+(its.toArray.size:Int)).toNat=j:=by
   rw[seqIndex_neg ↑2 h4] at h1;rw[List.size_toArray,<- hl];exact Option.some.inj h1
  exact subscriptTail_builtinR (x:=w) pl.isList.typeIs slot_list_getitem.lookup
   (wpAny_getItem_list_neg (Q:=λr s'=>r=w/\EP X pins σ Q r s') pl.isList ↑2 (by rw[List.size_toArray] <;> lia) ↑2 (by rw[hj];simpa using ew) ⟨rfl,fin⟩) hs
theorem e2f:IxR X (e4g X.K):=by
 intro value slice pins s σ H x y v u Q I rx ry h hs;obtain⟨p,xs,i,z,rfl,rfl,hq,he,q⟩:=h;cases rx;obtain⟨t,rfl⟩:=ry;obtain⟨its,r,pl,hz⟩:=I.tuple hq;obtain⟨j,h1,h2,h3,h4,h5⟩:=d4b he;obtain⟨w,ew,rw'⟩:=r.get h2;have hl:=r.length;have hn:=c8m;have fin:EP X pins σ Q w s:=⟨z,H,I,rw',q⟩;exact subscriptTail_builtinR (x:=w) pl.typeIs slot_tuple_getitem.lookup
  (getItem_tuple (j:=j) (Q:=λr s'=>r=w/\EP X pins σ Q r s') pl ↑2 ↑2 (by rw[List.size_toArray,<- hl];exact h1) (by simpa using ew) ⟨rfl,fin⟩) hs
theorem d0f(its:List Value)(n j:Nat)(u:Value):Obj.mapSeq (·.setIfInBounds j u) { cls:=.type "list",data:=.seq its.toArray n }={ cls:=.type "list",data:=.seq (its.set j u).toArray n }:=by
 simp[Obj.mapSeq]
theorem Inv.lst{pins:List ↑24}{σ:St}{H:Hp}{s:Shared}{p:Addr}{xs:List V}(I:↑13)(h:H p=some (.lst xs)):
  ∃(its:List Value)(n:Nat),Vals xs its/\s.heap.get? p=some { cls:=.type "list",data:=.seq its.toArray n }/\xs.length<=sizeLine:=by
 obtain⟨z,its,n,r,e⟩:=I.hok p _ h;exact⟨its,n,r,e,z⟩
theorem Inv.lstUpd{pins:List ↑24}{σ:St}{H:Hp}{s:Shared}{p:Addr}{xs ys:List V}{its its':List Value}{n n':Nat}{f:Obj->Obj}(I:↑13)(h:H p=some (.lst xs))(ho:s.heap.get? p=some { cls:=.type "list",data:=.seq its.toArray n })(hf:f { cls:=.type "list",data:=.seq its.toArray n }={ cls:=.type "list",data:=.seq its'.toArray n' })(r:Vals ys its')(hz:ys.length<=sizeLine)(t:Nat):
  Inv X pins σ (upd H p (.lst ys)) { s with heap:=s.heap.update p f,toks:=t }:=by
 have e:(s.heap.update p f).get? p=some { cls:=.type "list",data:=.seq its'.toArray n' }:=by
  rw[Heap.get?_update_self f ho (by rw[hf] <;> rfl),hf]
 refine I.write (x:=p) (e:=p) (by rw[h];trivial) ↑23 (λb u hb q=>(Heap.get?_update_other _ _ (Ne.symm hb)).trans q) ⟨_,e⟩ ?_
 exact⟨hz,its',n',r,e⟩
def e1h:V->V->V->Hp->(Hp->Prop)->Prop:=λo i v H Q=>∃p xs k j,o=.ref p/\i=.int k/\H p=some (.lst xs)/\ixN xs.length k=some j/\Q (upd H p (.lst (xs.set j v)))
theorem a5e:e6m X e1h:=by
 intro pins s σ H o i v ov iv u Q I ro ri rv h;obtain⟨p,xs,k,j,rfl,rfl,hp,hj,q⟩:=h;cases ro;obtain⟨t,rfl⟩:=ri;obtain⟨its,n,r,ho,hz⟩:=I.lst hp;obtain⟨h1,h2,h3,h4⟩:=d2u hj;have hl:=r.length;have hn:=c8m;have I':Inv X pins σ (upd H p (.lst (xs.set j v))) { s with heap:=s.heap.update p (Obj.mapSeq (·.setIfInBounds j u)) } :=
  I.lstUpd hp ho (d0f its n j u) (r.set rv j) (by rw[List.length_set];exact hz) s.toks
 by_cases h0:0<=k
 ·have hk:k.toNat=j:=by
   rw[seqIndex_of h0 h4] at h1;exact Option.some.inj h1
  exact PySem.W.ki_setAt ho h0 ↑2 (by rw[List.size_toArray,<- hl];exact h4) (by rw[hk];exact⟨_,I',q⟩)
 ·have hk:(k+(its.toArray.size:Int)).toNat=j:=by
   rw[seqIndex_neg ↑2 h3] at h1;rw[List.size_toArray,<- hl];exact Option.some.inj h1
  exact PySem.W.ki_setBack ho ↑2 (by rw[List.size_toArray,<- hl];exact h3) ↑2 (by rw[hk];exact⟨_,I',q⟩)
theorem c2s(lo hi:Option Int)(n:Nat):(sliceBounds lo hi none n).1=((HT.sIx n 0 lo:Nat):Int)/\(sliceBounds lo hi none n).2.1=((HT.sIx n n hi:Nat):Int)/\(sliceBounds lo hi none n).2.2=1:=by
 refine⟨?_,?_,rfl⟩
 ·cases lo with
  | none=>simp[sliceBounds,HT.sIx]
  | some i=>
   simp only[sliceBounds,HT.sIx,Option.getD_none,show(1:Int) > 0 by decide,if_true]
   by_cases h:i<0
   ·simp only[h,if_true] <;> lia
   ·simp only[h,if_false] <;> lia
 ·cases hi with
  | none=>simp[sliceBounds,HT.sIx]
  | some i=>
   simp only[sliceBounds,HT.sIx,Option.getD_none,show(1:Int) > 0 by decide,if_true]
   by_cases h:i<0
   ·simp only[h,if_true] <;> lia
   ·simp only[h,if_false] <;> lia
theorem c0i(its:List Value)(lo hi:Option Int):slicePick its.toArray lo hi none=((its.drop (HT.sIx its.length 0 lo)).take (HT.sIx its.length its.length hi-HT.sIx its.length 0 lo)).toArray:=by
 obtain⟨h1,h2,h3⟩:=c2s lo hi its.toArray.size;unfold slicePick;rw[h1,h2,h3];simp only[sliceRange_one,pick_run,List.size_toArray] <;> rfl
def e6a(K:↑28):V->Option Int->Option Int->Hp->VK->Prop:=λx lo hi H Q=>∃a xs,x=.ref a/\SqL K H a xs/\∀p,H p=none->Q (.ref p) (upd H p (.lst (d9w xs lo hi)))
theorem d8g:SlR X (e6a X.K):=by
 intro pins s σ H x v vl vu lo hi sl Q I rx hs pl pu h;obtain⟨a,xs,rfl,hx,q⟩:=h;cases rx;obtain⟨its,r,ht,hz⟩:=I.list hx;have hlen:=r.length;refine⟨"list",_,slot_list_getitem.lookup,ht.isList.typeIs,?_⟩;refine wpAny_getItem_list_slice ht.isList hs pl pu .none (by simp) ?_ (by rw[List.size_toArray] <;> lia)
 rw[c0i,<- hlen];refine⟨.ref s.heap.objs.size,_,I.laid (t':=s.toks) (o:=.lst (d9w xs lo hi)) (λb ob q=>Heap.get?_push_of_some _ q) ↑31 ?_,rfl,q _ (I.hok.fresh ↑31)⟩;exact⟨Nat.le_trans (c7k xs lo hi) hz,_,0,(r.drop (HT.sIx xs.length 0 lo)).take (HT.sIx xs.length xs.length hi-HT.sIx xs.length 0 lo),Heap.get?_push_size _ rfl⟩
noncomputable def a6l:V->Bool
 | .non=>true
 | .bl _=>true
 | .int _=>true
 | .str _=>true
 | _=>false
noncomputable def eqV:V->V->Bool
 | .non,.non=>true
 | .bl a,.bl b=>a == b
 | .bl a,.int b=>(if a then 1 else 0) == b
 | .int a,.bl b=>a == (if b then 1 else 0)
 | .int a,.int b=>a == b
 | .str a,.str b=>a == b
 | _,_=>false
theorem d7i{A:Around}{s:Shared}{y x:V}{u v:Value}(ry:RelV y u)(rx:RelV x v)(fy:a6l y=true)(fx:a6l x=true):SeqAt.EqAt A s u v (eqV y x):=by
 cases y with
 | non=>
  cases ry;cases x with
  | non=>cases rx;exact SeqAt.EqAt.same _
  | bl b=>cases rx;exact SeqAt.EqAt.none_bool b
  | int b=>obtain⟨t,rfl⟩:=rx;exact SeqAt.EqAt.none_int b t
  | str b=>obtain⟨t,rfl⟩:=rx;exact SeqAt.EqAt.none_str b t
  | _=>exact absurd (show false=true from fx) Bool.false_ne_true
 | bl a=>
  cases ry;cases x with
  | non=>cases rx;exact SeqAt.EqAt.bool_none a
  | bl b=>cases rx;exact SeqAt.EqAt.bool_bool a b
  | int b=>obtain⟨t,rfl⟩:=rx;exact SeqAt.EqAt.bool_int a b t
  | str b=>obtain⟨t,rfl⟩:=rx;exact SeqAt.EqAt.bool_str a b t
  | _=>exact absurd (show false=true from fx) Bool.false_ne_true
 | int a=>
  obtain⟨t',rfl⟩:=ry;cases x with
  | non=>cases rx;exact SeqAt.EqAt.int_none a t'
  | bl b=>cases rx;exact SeqAt.EqAt.int_bool a t' b
  | int b=>obtain⟨t,rfl⟩:=rx;exact SeqAt.EqAt.int_int a t' b t
  | str b=>obtain⟨t,rfl⟩:=rx;exact SeqAt.EqAt.int_str a t' b t
  | _=>exact absurd (show false=true from fx) Bool.false_ne_true
 | str a=>
  obtain⟨t',rfl⟩:=ry;cases x with
  | non=>cases rx;exact SeqAt.EqAt.str_none a t'
  | bl b=>cases rx;exact SeqAt.EqAt.str_bool a t' b
  | int b=>obtain⟨t,rfl⟩:=rx;exact SeqAt.EqAt.str_int a t' b t
  | str b=>obtain⟨t,rfl⟩:=rx;exact SeqAt.EqAt.str_str a t' b t
  | _=>exact absurd (show false=true from fx) Bool.false_ne_true
 | _=>exact absurd (show false=true from fy) Bool.false_ne_true
noncomputable def eqU(x:V)(u:Value):Bool:=match u with
 | .none=>eqV .non x
 | .bool b=>eqV (.bl b) x
 | .int i _=>eqV (.int i) x
 | .str z _=>eqV (.str z) x
 | _=>false
theorem c8w{x y:V}{u:Value}(r:RelV y u)(f:a6l y=true):eqU x u=eqV y x:=by
 cases y with
 | non=>cases r;rfl
 | bl b=>cases r;rfl
 | int i=>obtain⟨t,rfl⟩:=r;rfl
 | str z=>obtain⟨t,rfl⟩:=r;rfl
 | _=>exact absurd (show false=true from f) Bool.false_ne_true
theorem b8f{x:V}:∀{xs:List V}{us:List Value},Vals xs us->xs.all a6l=true->us.any (eqU x)=xs.any λy=>eqV y x
 | _,_,.nil,_=>rfl
 | y::xs,u::us,.cons r t,f=>by
  rw[List.all_cons,Bool.and_eq_true] at f;rw[List.any_cons,List.any_cons,c8w r f.1,b8f t f.2]
theorem a9q{A:Around}{s:Shared}{x:V}{v:Value}(rx:RelV x v)(fx:a6l x=true):∀{xs:List V}{us:List Value},Vals xs us->xs.all a6l=true->∀u∈us,SeqAt.EqAt A s u v (eqU x u)
 | _,_,.nil,_=>λu hu=>by cases hu
 | y::xs,u::us,.cons r t,f=>λu' hu=>by
  rw[List.all_cons,Bool.and_eq_true] at f;rcases List.mem_cons.mp hu with rfl|hu
  ·rw[c8w r f.1];exact d7i r rx f.1 fx
  ·exact a9q rx fx t f.2 u' hu
noncomputable def inV(x:V)(xs:List V):Bool:=xs.any λy=>eqV y x
noncomputable def rIn(K:↑28)(neg:Bool):R2:=λx y H Q=>∃p xs,y=.ref p/\(SqL K H p xs\/SqT K H p xs)/\a6l x=true/\xs.all a6l=true/\Q (.bl (if neg then !inV x xs else inV x xs)) H
theorem d2b:OpR X (compareOp .In) (rIn X.K false):=by
 intro pins s σ H x y v u Q I rx ry h;obtain⟨p,xs,rfl,hq,fx,fs,q⟩:=h;cases ry;rcases hq with hq|hq
 ·obtain⟨its,r,pl,hz⟩:=I.list hq
  refine SeqAt.in_listAt (eqU x) pl.isList (λw hw=>a9q rx fx r fs w (by simpa using hw)) ⟨.bl _,H,I,rfl,?_⟩
  rw[show its.toArray.any (eqU x)=its.any (eqU x) by simp,b8f r fs]
  exact q
 ·obtain⟨its,r,pl,hz⟩:=I.tuple hq
  refine SeqAt.in_tupleAt (eqU x) pl (λw hw=>a9q rx fx r fs w (by simpa using hw)) ⟨.bl _,H,I,rfl,?_⟩
  rw[show its.toArray.any (eqU x)=its.any (eqU x) by simp,b8f r fs]
  exact q
theorem c3o:OpR X (compareOp .NotIn) (rIn X.K true):=by
 intro pins s σ H x y v u Q I rx ry h;obtain⟨p,xs,rfl,hq,fx,fs,q⟩:=h;cases ry;rcases hq with hq|hq
 ·obtain⟨its,r,pl,hz⟩:=I.list hq
  refine SeqAt.notIn_listAt (eqU x) pl.isList (λw hw=>a9q rx fx r fs w (by simpa using hw)) ⟨.bl _,H,I,rfl,?_⟩
  rw[show its.toArray.any (eqU x)=its.any (eqU x) by simp,b8f r fs]
  exact q
 ·obtain⟨its,r,pl,hz⟩:=I.tuple hq
  refine SeqAt.notIn_tupleAt (eqU x) pl (λw hw=>a9q rx fx r fs w (by simpa using hw)) ⟨.bl _,H,I,rfl,?_⟩
  rw[show its.toArray.any (eqU x)=its.any (eqU x) by simp,b8f r fs]
  exact q
theorem c5d:b8h X (.builtin "len") (λxs H Q=>∃p ys,xs=[.ref p]/\(SqL X.K H p ys\/SqT X.K H p ys)/\Q (.int ys.length) H):=by
 intro pins s σ H xs us Q I r h;obtain⟨p,ys,rfl,hq,q⟩:=h;obtain⟨u,rfl,rx⟩:=d4l r;cases rx;have hn:=c8m;rcases hq with hq|hq
 ·obtain⟨its,r',pl,hz⟩:=I.list hq
  have hlen:=r'.length;exact Calls.call_len_list pl.isList (by simp only[List.size_toArray] <;> lia) ⟨.int ys.length,H,I.tok _,⟨s.toks+1,by rw[List.size_toArray,hlen]⟩,q⟩
 ·obtain⟨its,r',pl,hz⟩:=I.tuple hq
  have hlen:=r'.length;exact len_tuple pl (by simp only[List.size_toArray] <;> lia) ⟨.int ys.length,H,I.tok _,⟨s.toks+1,by rw[List.size_toArray,hlen]⟩,q⟩
theorem c5c:b8h X (.type "list") (λxs H Q=>∃p ys,xs=[.ref p]/\(SqL X.K H p ys\/SqT X.K H p ys)/\∀l,H l=none->Q (.ref l) (upd H l (.lst ys))):=by
 intro pins s σ H xs us Q I r h;obtain⟨p,ys,rfl,hq,q⟩:=h;obtain⟨u,rfl,rx⟩:=d4l r;cases rx;have fin:∀(its:List Value),Vals ys its->ys.length<=sizeLine->∀(h':Heap)(c':Nat),(∀b o',s.heap.get? b=some o'->h'.get? b=some o') ->
   h'.get? s.heap.objs.size=some { cls:=.type "list",dict:=none,data:=.seq its.toArray c',slots:=#[] }->EP X pins σ Q (.ref s.heap.objs.size) { s with heap:=h' }:=λits r' hz h' c' kp e=>
  ⟨.ref s.heap.objs.size,_,I.laid (t':=s.toks) kp ↑31 (show ObjOk X.prog X.w _ h' _ (.lst ys) from⟨hz,its,c',r',e⟩),rfl,q _ (I.hok.fresh ↑31)⟩
 rcases hq with hq|hq
 ·obtain⟨its,r',pl,hz⟩:=I.list hq
  have hlen:=r'.length;obtain⟨o,ho,hc,n,hd⟩:=pl.isList;exact call_list_seq p ↑23 ho hc hd (λh' c' kp e=>fin its r' hz h' c' kp e) (by simp only[List.size_toArray] <;> lia)
 ·obtain⟨its,r',pl,hz⟩:=I.tuple hq
  have hlen:=r'.length;obtain⟨o,ho,hc,n,hd⟩:=pl;exact call_list_seq p (.inr rfl) ho hc hd (λh' c' kp e=>fin its r' hz h' c' kp e) (by simp only[List.size_toArray] <;> lia)
def tyV(K:↑28)(T:String)(x:V)(H:Hp):Prop:=match x with
 | .str _=>T="str"
 | .int _=>T="int"
 | .ref p=>(T="list"/\∃xs,SqL K H p xs)\/(T="tuple"/\∃o,K.lookup p=some o/\o.cls=.type "tuple"/\o.dict=none) \/
   (T="dict"/\((∃kvs,H p=some (.dK kvs)) \/ ∃kvs,H p=some (.dT kvs)))\/(T="set"/\∃S n,H p=some (.set S n))
 | _=>False
theorem e0l{pins:List ↑24}{σ:St}{H:Hp}{s:Shared}{T:String}{x:V}{v:Value}(I:↑13)(r:RelV x v)(ty:tyV X.K T x H):
  s.TypeIs v T/\∀a,v=.ref a->∃ob,s.heap.get? a=some ob/\ob.dict=none:=by
 cases x with
 | str z=>
  obtain⟨t,rfl⟩:=r;cases (show T="str" from ty);exact⟨typeIs_str s z t,λ_ e=>nomatch e⟩
 | int i=>
  obtain⟨t,rfl⟩:=r;cases (show T="int" from ty);exact⟨typeIs_int s i t,λ_ e=>nomatch e⟩
 | ref p=>
  cases r;rcases ty with ⟨rfl,xs,hq⟩|⟨rfl,o,hk,hc,hd⟩|⟨rfl,hk⟩|⟨rfl,S,n,hk⟩
  ·obtain⟨its,_,pl,_⟩:=I.list hq
   refine⟨pl.isList.typeIs,λa e=>?_⟩;cases e;obtain⟨o,n,e,c,hd,_⟩:=pl;exact⟨o,e,hd⟩
  ·refine⟨⟨o,I.kIn p o hk,hc⟩,λa e=>?_⟩
   cases e;exact⟨o,I.kIn _ o hk,hd⟩
  ·have z:∃o,s.heap.get? p=some o/\o.ExactDict:=by
    rcases hk with ⟨kvs,hk⟩|⟨kvs,hk⟩
    ·obtain⟨_,_,_,_,o,_,_,e,ex,_⟩:=I.hok p _ hk
     exact⟨o,e,ex⟩
    ·obtain⟨_,_,_,_,o,_,_,e,ex,_⟩:=I.hok p _ hk
     exact⟨o,e,ex⟩
   obtain⟨o,e,ex⟩:=z;refine⟨⟨o,e,ex.1⟩,λa e2=>?_⟩;cases e2;exact⟨o,e,ex.2.1⟩
  ·obtain⟨o,_,_,_,e,ex,_⟩:=I.hok p _ hk
   refine⟨⟨o,e,ex.1⟩,λa e2=>?_⟩;cases e2;exact⟨o,e,ex.2.1⟩
 | _=>exact False.elim ty
noncomputable def tBM(K:↑28)(T:String)(r:V->List V->Hp->VK->Prop)(to:TE)(t:TA):TE:=λσ H Q=>to σ H λx H1=>tyV K T x H1/\t σ H1 λxs H2=>r x xs H2 Q
variable{o e:Expr}{es:List Expr}{to:TE}{t:TA}{name:Str}{apos cpos:Pos}{T id:String}{r:V->List V->Hp->VK->Prop}
theorem d5f(pa:PlainAttrs T)(slot:Slot T name id)(hty:typeOf (.builtin id)=pure (.type "method_descriptor"))(hm:MtR X id r)(ho:PE X o to)(ha:PA X (e::es) t)(hbase:attributeBase o name X.env (eval o X.env)=eval o X.env:=by rfl)(hfew:((backTo cpos (starEach (e::es) X.env)).all (λx=>!x.1) && (backToKw cpos (keywordEach [] X.env)).all (λx=>x.1.isSome)
   && decide ((e::es).length+([]:List Keyword).length+(if ([]:List Keyword).isEmpty then 0 else 1)<30))=true:=by rfl)(hline:(apos.endLine == cpos.line)=true:=by rfl)(hs:starEach (e::es) X.env=(false,eval e X.env)::starEach es X.env:=by rfl)(hplain:(backTo cpos (starEach es X.env)).any (·.1)=false:=by rfl):
  PE X (.Call (.Attribute o name apos) (e::es) [] cpos) (tBM X.K T r to t):=by
 fail "i";refine wpAny_Call_method_late hbase hfew hline rfl (thn (ho pins s σ H _ I h) λv s1 z0_=>?_);obtain⟨x,H1,I1,r1,ty,q1⟩:=z0_;obtain⟨h1,h2⟩:=e0l I1 r1 ty;refine⟨T,id,pa,slot,hty,h1,h2,?_⟩;have hA:=ha cpos pins s1 σ H1 _ I1 q1;rw[hs] at hA ⊢;refine Calls.callWith_builtin (by show(false || (backTo cpos (starEach es X.env)).any (·.1))=false;rw[hplain] <;> rfl) (Calls.evalArgs_plain ?_)
 exact thn hA λus s2 z0_=>by obtain⟨vs,H2,I2,r2,q2⟩:=z0_;exact hm pins s2 σ H2 x vs v us Q I2 r1 r2 q2
end
noncomputable def MtM(X:Cx)(id:String)(r:V->List V->Hp->VK->Prop):Prop :=
 ∀(pins:List ↑24)(s:Shared)(σ:St)(H:Hp)(x:V)(xs:List V)(v:Value)(us:List Value)(Q:VK),Inv X pins σ H s->RelV x v->Vals xs us->r x xs H Q ->
  wpAny ↑20 X.A (call (.builtin id) (v::us)) (EP X pins σ Q) X.xe s
theorem Vals.one{x:V}{us:List Value}(h:Vals [x] us):∃u,us=[u]/\RelV x u:=by
 cases h with|cons r t=>cases t;exact⟨_,rfl,r⟩
theorem Vals.two{x y:V}{us:List Value}(h:Vals [x,y] us):∃u v,us=[u,v]/\RelV x u/\RelV y v:=by
 cases h with|cons r t=>cases t with|cons q t=>cases t;exact⟨_,_,rfl,r,q⟩
theorem Vals.eraseIdx:∀{xs:List V}{us:List Value}(i:Nat),Vals xs us->Vals (xs.eraseIdx i) (us.eraseIdx i)
 | _,_,_,.nil=>.nil
 | _,_,0,.cons _ t=>t
 | _,_,i+1,.cons r t=>.cons r (Vals.eraseIdx i t)
theorem Vals.rep{xs:List V}{us:List Value}(h:Vals xs us):∀k:Nat,Vals (List.replicate k xs).flatten (List.replicate k us).flatten
 | 0=>.nil
 | k+1=>by
  rw[List.replicate_succ,List.replicate_succ,List.flatten_cons,List.flatten_cons];exact Vals.append h (Vals.rep h k)
theorem c4s{α:Type}:∀(l:List α)(i:Nat),(l.eraseIdx i).length<=l.length
 | [],_=>Nat.le_refl _
 | _::_,0=>Nat.le_succ _
 | _::r,i+1=>Nat.succ_le_succ (c4s r i)
theorem c4z(its:List Value):∀(k:Nat)(acc:List Value),
  List.foldl (λx1 x2=>x1++x2) acc.toArray (List.replicate k its.toArray)=(acc++(List.replicate k its).flatten).toArray
 | 0,acc=>by simp
 | k+1,acc=>by
  have e:acc.toArray++its.toArray=(acc++its).toArray:=by simp
  have e2:(acc++its)++(List.replicate k its).flatten=acc++(List.replicate (k+1) its).flatten:=by
   rw[List.replicate_succ,List.flatten_cons,List.append_assoc]
  rw[<- e2,<- c4z its k (acc++its),<- e,List.replicate_succ,List.foldl_cons]
section
variable{X:Cx}{pins:List ↑24}{σ:St}{H:Hp}{s:Shared}{l b:Addr}{xs ys zs:List V}
theorem Inv.lset{its its':List Value}{n:Nat}{f:Array Value->Array Value}{t':Nat}(I:↑13)(hH:H l=some (.lst xs))(e:s.heap.get? l=some { cls:=.type "list",data:=.seq its.toArray n })(hf:f its.toArray=its'.toArray)(hv:Vals ys its')(hz:ys.length<=sizeLine):
  Inv X pins σ (upd H l (.lst ys)) { s with heap:=s.heap.update l (Obj.mapSeq f),toks:=t' }:=by
 have q:=PySem.IsL.update e f;rw[hf] at q;refine I.write (x:=l) (e:=l) (by rw[hH];exact trivial) ↑23 (λb' u hb hu=>(Heap.get?_update_other s.heap (Obj.mapSeq f) (Ne.symm hb)).trans hu) ⟨_,q⟩ ?_
 exact⟨hz,its',_,hv,q⟩
theorem Inv.lnew{its:List Value}{t':Nat}(I:↑13)(hv:Vals ys its)(hz:ys.length<=sizeLine):
  Inv X pins σ (upd H s.heap.objs.size (.lst ys)) { s with heap:=s.heap.push { cls:=.type "list",data:=.seq its.toArray },toks:=t' } :=
 I.laid (λ_ _ q=>Heap.get?_push_of_some _ q) ↑31 ⟨hz,its,0,hv,Heap.get?_push_size _ rfl⟩
theorem Inv.fresh(I:↑13):H s.heap.objs.size=none:=I.hok.fresh ↑31
theorem Inv.lstM(I:↑13)(hH:H l=some (.lst xs)):xs.length<=sizeLine/\∃(its:List Value)(n:Nat),Vals xs its/\xs.length=its.length/\s.heap.get? l=some { cls:=.type "list",data:=.seq its.toArray n }:=by
 obtain⟨z,its,n,r,e⟩:=I.hok l _ hH;exact⟨z,its,n,r,r.length,e⟩
theorem d5l{n:Nat}(h:n<=sizeLine):Builtin.List.listTooLong n=false:=by
 unfold Builtin.List.listTooLong;exact decide_eq_false ↑2
end
section
variable{X:Cx}
def c1d:V->List V->Hp->VK->Prop:=λx vs H Q=>∃l xs y,x=.ref l/\vs=[y]/\H l=some (.lst xs)/\xs.length<sizeLine/\Q .non (upd H l (.lst (xs++[y])))
theorem c4p:MtM X "list.append" c1d:=by
 intro pins s σ H x vs v us Q I rx rv h;obtain⟨l,xs,y,rfl,rfl,hH,hz,q⟩:=h;cases rx;obtain⟨u,rfl,ru⟩:=rv.one;obtain⟨z,its,n,r,hl,e⟩:=I.lstM hH;refine call_meets F.slot_list_append ⟨_,e,rfl⟩ F.entry_list_append (F.args_list_append_2 _ _) (PySem.list_append l its.toArray n u (by rw[List.size_toArray];lia)) ⟨e,?_⟩
 refine⟨.non,_,I.lset (its':=its++[u]) hH e (by simp) (r.append (.cons ru .nil)) ?_,rfl,q⟩
 rw[List.length_append,List.length_singleton];lia
def d1g:V->List V->Hp->VK->Prop:=λx vs H Q=>∃l xs i k y,x=.ref l/\vs=[.int i]/\H l=some (.lst xs)/\-(2 ^ 63)<=i/\i<2 ^ 63/\seqIndex? i xs.length=some k/\xs[k]?=some y/\Q y (upd H l (.lst (xs.eraseIdx k)))
theorem d5n:MtM X "list.pop" d1g:=by
 intro pins s σ H x vs v us Q I rx rv h;obtain⟨l,xs,i,k,y,rfl,rfl,hH,h1,h2,hk,hy,q⟩:=h;cases rx;obtain⟨u,rfl,ru⟩:=rv.one;obtain⟨t,rfl⟩:=ru;obtain⟨z,its,n,r,hl,e⟩:=I.lstM hH;obtain⟨w,hw,rw'⟩:=r.get hy;refine call_meets F.slot_list_pop ⟨_,e,rfl⟩ F.entry_list_pop (F.args_list_pop_2 _ _)
  (MeetsSeq.list_pop_at l its.toArray n i t k w (fitsIndex_both h1 h2) (by rw[List.size_toArray,<- hl];exact hk) (by rw[<- Array.getElem?_toList];exact hw) (by rw[List.size_toArray];lia)) ⟨e,?_⟩
 refine⟨y,_,I.lset (its':=its.eraseIdx k) hH e ?_ (r.eraseIdx k) ?_,rw',q⟩
 ·show its.toArray.eraseIdxIfInBounds k=(its.eraseIdx k).toArray
  rw[List.eraseIdxIfInBounds_toArray]
 ·have:=c4s xs k
  lia
noncomputable def e6e:R2:=λx y H Q=>∃l b xs zs,x=.ref l/\y=.ref b/\H l=some (.lst xs)/\H b=some (.lst zs)/\xs.length+zs.length<=sizeLine/\∀p,H p=none->Q (.ref p) (upd H p (.lst (xs++zs)))
theorem c8f:OpR X (binaryOp .Add) e6e:=by
 intro pins s σ H x y v u Q I rx ry h;obtain⟨l,b,xs,zs,rfl,rfl,hH,hB,hz,q⟩:=h;cases rx;cases ry;obtain⟨z,its,n,r,hl,e⟩:=I.lstM hH;obtain⟨z2,its2,n2,r2,hl2,e2⟩:=I.lstM hB;refine PySem.P.add_list e e2 ?_ (by rw[List.size_toArray,List.size_toArray];lia)
 have ea:its.toArray++its2.toArray=(its++its2).toArray:=by simp
 rw[ea];exact⟨.ref _,_,I.lnew (t':=s.toks) (r.append r2) (by rw[List.length_append];lia),rfl,q _ I.fresh⟩
noncomputable def e6s:R2:=λx y H Q=>∃l k xs,x=.ref l/\y=.int k/\H l=some (.lst xs)/\-(2 ^ 63)<=k/\k<2 ^ 63/\xs.length*k.toNat<=sizeLine /\
 ∀p,H p=none->Q (.ref p) (upd H p (.lst (List.replicate k.toNat xs).flatten))
theorem c7d{α:Type}(xs:List α)(k:Nat):(List.replicate k xs).flatten.length=k*xs.length:=by
 induction k with
 | zero=>simp
 | succ k ih=>rw[List.replicate_succ,List.flatten_cons,List.length_append,ih,Nat.succ_mul,Nat.add_comm]
theorem c8d:OpR X (binaryOp .Mult) e6s:=by
 intro pins s σ H x y v u Q I rx ry h;obtain⟨l,k,xs,rfl,rfl,hH,h1,h2,hz,q⟩:=h;cases rx;obtain⟨t,rfl⟩:=ry;obtain⟨z,its,n,r,hl,e⟩:=I.lstM hH;have hlen:its.toArray.size*k.toNat<=sizeLine:=by rw[List.size_toArray,<- hl];exact hz
 have hcap:¬ its.toArray.size*k.toNat > (2 ^ 63-1) / 8:=by
  have:(sizeLine:Nat)<=(2 ^ 63-1) / 8:=by decide
  lia
 have hfit:¬ (!Builtin.List.listFitsIndex k)=true:=by
  rw[fitsIndex_both h1 h2];exact Bool.false_ne_true
 have hlong:¬ Builtin.List.listTooLong (its.toArray.size*k.toNat)=true:=by
  rw[d5l hlen];exact Bool.false_ne_true
 have hnew:List.foldl (λx1 x2=>x1++x2) #[] (List.replicate (if its.toArray.isEmpty=true then 0 else k.toNat) its.toArray)=(List.replicate k.toNat its).flatten.toArray:=by
  have f0:∀m:Nat,List.foldl (λx1 x2=>x1++x2) #[] (List.replicate m its.toArray)=(List.replicate m its).flatten.toArray:=λm=>by
   have:=c4z its m [];rw[List.nil_append] at this;exact this
  rw[f0];cases its with
  | nil=>simp
  | cons a r'=>rw[if_neg (by simp)]
 refine wpAny_binaryOp_repeat_ref (T:="list") (U:="int") ↑4 ⟨_,e,rfl⟩ (λs'=>typeIs_int s' k t) noFill_list_mul F.fills_int_mul F.slot_int_rmul repeat_list F.slot_int_index.lookup
  (call_meets F.slot_int_rmul (typeIs_int s k t) F.entry_int_rmul (F.args_int_rmul_2 _ _) (int___rmul___int_list k t l its.toArray n)
   ⟨e,rfl,⟨_,e,rfl⟩,call_meets F.slot_list_mul ⟨_,e,rfl⟩ F.entry_list_mul (F.args_list_mul_2 _ _) (AutoListH.list___mul___list_int_3 l its.toArray n k t hfit hcap hlong) ⟨e,?_⟩⟩)
 rw[hnew];exact⟨.ref _,_,I.lnew (t':=s.toks) (r.rep k.toNat) (by rw[c7d,Nat.mul_comm];exact hz),rfl,q _ I.fresh⟩
end
end L2
namespace Att
open PySem PySem.W PySem.Calls PyProof.Rows
theorem b7w{P:Params}{h:Heap}:∀(ns:List Int)(vs:List Value),WellAll P h vs (ns.map WData.int)->IntsAre vs ns:=by
 intro ns
 induction ns with
 | nil=>
  intro vs w;rw[List.map_nil] at w;cases w;exact .nil
 | cons n ns ih=>
  intro vs w;rw[List.map_cons] at w;cases w with
  | cons a b=>
   cases a;exact .cons _ _ (ih _ b)
theorem d1a{l:OpenLaw}{n:Nat}(hn:l.most=some n){P:Params}{h:Heap}{args:List WData}{vals:List Value}(hpre:l.row.toRowW.claim.pre args=true)(hwl:WellAll P h vals args):
  ∃a vs ns,vals=[Value.ref a]/\args=[WData.list (ns.map WData.int)]/\h.get? a=some { cls:=.type "list",data:=.seq vs.toArray }/\IntsAre vs ns/\ns.length<=n:=by
 have hsh:WShape.hasAll [] args [.list .int]=true:=(pre_splitW hpre).1;have hc:l.pre.holds [] { args:=args }=true:=(pre_splitW hpre).2;obtain⟨d,r,rfl,h1,h2⟩:=hasAllW_cons hsh;obtain rfl:=hasAllW_nil h2;obtain⟨xs,rfl,h3⟩:=hasW_list h1;obtain⟨ns,rfl⟩:=items_int h3;have hlen:ns.length<=n:=by
  unfold OpenLaw.pre at hc;have h4:(WTm.not (.lt (.lit (.int (n:Int))) (.len (.arg 0)))).holds [] { args:=[.list (ns.map .int)] }=true:=by
   have h4:=(holds_andW hc).1;rw[hn] at h4;exact h4
  have h5:=condW_of h4 (w_not (w_lt w_lit (w_len_list (w_arg rfl))));rw[List.length_map] at h5;refine Nat.le_of_not_lt λq=>?_;have q':(n:Int)<((ns.length:Nat):Int):=by lia
  first
   | (rw[decide_eq_true q'] at h5;exact absurd h5 ↑4)
   | (simp at h5;lia)
 cases hwl with
 | cons w1 w2=>
  cases w2;cases w1 with
  | list ho hall=>exact⟨_,_,ns,rfl,rfl,ho,b7w ns _ hall,hlen⟩
theorem d1p(l:OpenLaw)(args:List WData):l.row.toRowW.claim.post args (.bool true) args=true :=
 postW_of (r:=l.row.toRowW) (X:=(true == true))
  (show WShape.has [] (.bool true) .bool=true by first|rfl|decide|simp[WShape.has,WShape.arms,WShape.armsAll])
  (show(WTm.eq .res (.lit (.bool true))).value [] { args:=args,res:=some (.bool true),after:=args }=some (.bool (true == true)) from w_eq_bool (w_res rfl) w_lit) rfl
theorem attach_call{l:OpenLaw}{n:Nat}{q:Program}{loose:List Str}{XP:(Str->Option Value)->Heap->Prop}{YP:World->Heap->Prop}{d:DefRec}(hn:l.most=some n)(hdf:d.params.defaults=[])(call:∀(w:World) (s₀ s₁:Shared) (mg mb:Str->Option Value) (fa:Addr) (o:Obj) (pm cd doc:Value) (a:Addr) (vs:List Value) (ns:List Int),
   Ground q loose [] XP w s₀ mg mb s₁.heap->YP w s₁.heap ->
   s₁.heap.get? fa=some o->o.data=.func (docDef d.name d.params d.body d.scope pm cd doc)->s₁.heap.CodeRec cd d.name->mg d.name=some (.ref fa) ->
   s₁.heap.get? a=some { cls:=.type "list",data:=.seq vs.toArray }->IntsAre vs ns->ns.length<=n->s₁.gens=#[] ->
   codeAny (model l.prog w) callerA (.call (.ref fa) ⟨[.ref a],[]⟩) (λr s'=>r=.ok (.ret (.bool true))/\OldK s₁.heap s'.heap/\s'.os=s₁.os/\AllBare s'.gens) s₁):
  WalkO q loose XP YP l.row.toRowW d [] (λf vs=>PySem.call f vs):=by
 intro w s₀ s₁ mg mb G Y fa o pm cd doc dV kV ho hd hcd hD hmg hg args vals as hpre hlay hrd hwl hlo;obtain rfl:dV=.none:=Dflts.none hD hdf;obtain rfl:kV=.none:=Dflts.noKw hD;obtain⟨a,vs,ns,rfl,rfl,hobj,hints,hlen⟩:=d1a hn hpre hwl;refine enter_call (codeAny_mono (call w s₀ s₁ mg mb fa o pm cd doc a vs ns G Y ho (fd_plain hd) hcd hmg hobj hints hlen hg) λr s' hq=>?_);obtain⟨rfl,h2,h3,h4⟩:=hq;exact⟨.inl ⟨.bool true,.bool true,[],rfl,λ_=>rfl,.bool true,d1p l _,λ_=>⟨List.Pairwise.nil,λ_ hm=>(nomatch hm)⟩⟩,h2,h3,h4⟩
end Att
namespace L2
open PySem PySem.Spec PyProof.Rows
theorem c2o:∀{vs:List Value}{ns:List Int},IntsAre vs ns->Vals (ns.map V.int) vs
 | _,_,.nil=>.nil
 | _,_,.cons n t h=>.cons ⟨t,rfl⟩ (c2o h)
def e5p(H:Hp):Prop:=∀b,H b=none \/ ∃o xs,H b=some (.frz o (.lst xs))
theorem d5s{P:Program}{w:World}{K:Frag}{mg mb:Str->Option Value}{CX:CXT}{k:Nat}{fa a:Addr}{fd:FuncData}{x:Str}{sp:Sp}{s₁:Shared}{vs:List Value}{ns:List Int}(KX:K.In s₁.heap)(hns:s₁.heap.Ns mainGlobals mg)(hb:s₁.heap.Ns builtinsNs mb)(hbb:∀x:Str,x≠"__name__"->mb x=bootBuiltins x)(hlim:s₁.heap.NoLimit)(hg:s₁.gens=#[])(ha:s₁.heap.get? a=some { cls:=.type "list",data:=.seq vs.toArray })(hi:IntsAre vs ns)(hl:ns.length<=sizeLine)(hr:Room k callerA)(F:∀base:Heap,K.In base->base.Ns mainGlobals mg->FnOk P w K mg base CX k fa fd [x] sp)(hbind:∀(s:Shared) (u:Value),BindsTo s fd ⟨[u],[]⟩ [(x,u)])(hsp:∀H:Hp,e5p H->SqL K H a (ns.map V.int)->sp [.ref a] H (λv _=>v=.bl true) λ_ _ _=>False)(hCX:∀H e s',CX [] H s₁ (λ_ _ _=>False) e s'->False):
  codeAny (model P w) callerA (.call (.ref fa) ⟨[.ref a],[]⟩) (λr s'=>r=.ok (.ret (.bool true))/\OldK s₁.heap s'.heap/\s'.os=s₁.os/\AllBare s'.gens) s₁:=by
 have rv:=c2o hi;have lenV:=hi.length;have core:∀H:Hp,e5p H->SqL K H a (ns.map V.int)->HOk P w H s₁.heap->(∀b,H b≠none->b=a)->(H a≠none->K.lookup a=none) ->
   codeAny (model P w) callerA (.call (.ref fa) ⟨[.ref a],[]⟩) (λr s'=>r=.ok (.ret (.bool true))/\OldK s₁.heap s'.heap/\s'.os=s₁.os/\AllBare s'.gens) s₁:=by
  intro H hO hS hok hA hK;have base_of:∀{b:Addr}{o:Obj},s₁.heap.get? b=some o->H b=none->(d6a s₁.heap H).get? b=some o:=λe n=>d5z e n;have noA:∀{b:Addr}{o:Obj}{es:Array DictEntry}{ep:Nat},s₁.heap.get? b=some o->o.data=.dict es ep->H b=none:=λ{b o es ep} e d=>by
   cases q:H b with
   | none=>rfl
   | some u=>
    have e':b=a:=hA b (by rw[q];simp)
    subst e';rw[ha] at e;cases e;have d':Data.seq vs.toArray _=Data.dict es ep:=d;cases d'
  have nsK:∀{b:Addr}{m:Str->Option Value},s₁.heap.Ns b m->(d6a s₁.heap H).Ns b m:=λ{b m} ⟨o,es,ep,e,d,r⟩=>⟨o,es,ep,base_of e (noA e d),d,r⟩;have hKb:K.In (d6a s₁.heap H):=λb o e=>base_of (KX b o e) (by
   cases q:H b with
   | none=>rfl
   | some u=>
    have e':b=a:=hA b (by rw[q];simp)
    subst e';rw[hK (by rw[q];simp)] at e;cases e)
  have hM:Mod K mg (d6a s₁.heap H):=⟨hKb,nsK hns,⟨mb,nsK hb,hbb⟩,let ⟨mc,h1,h2⟩:=hlim;⟨mc,nsK h1,h2⟩⟩
  have e0:Env0 P w K mg (d6a s₁.heap H) callerA [] s₁ H:=⟨rfl,hM,λb o e=>d8x e,Nat.le_of_eq (d2y _ _),trivial,λb hb=>absurd (show b∈([]:List Addr) from hb) (by simp),hok,.of_eq hg⟩
  refine codeAny_mono ((F _ hKb (nsK hns)).run callerA [] s₁ H ⟨[.ref a],[]⟩ [.ref a] [.ref a] _ _ hr e0 (hbind s₁ (.ref a)) (.cons rfl .nil) (hsp H hO hS)) λr s' h=>?_;cases r with
  | error e=>exact(hCX H e s' h).elim
  | ok fl=>
   cases fl with
   | next=>exact False.elim h
   | brk=>exact False.elim h
   | cont=>exact False.elim h
   | ret u=>
    obtain⟨v,H',os,bare,un,hok',r',q⟩:=h;have q':v=.bl true:=q;subst q';obtain rfl:u=Value.bool true:=r';refine⟨rfl,OldK.of_keep λb o e=>?_,os,bare⟩;cases q:H b with
    | none=>exact un.keep b o e q (by intro z;exact absurd (show b∈([]:List Addr) from z) (by simp)) (by simp)
    | some u=>
     rcases hO b with z|⟨ob,xs,z⟩
     ·rw[q] at z;cases z
     ·have z2:=un.frzs b ob _ z
      obtain⟨e1,_⟩:=hok b _ z;obtain⟨e2,_⟩:=hok' b _ z2;rw[e] at e1;cases e1;exact e2
 cases hk:K.lookup a with
 | some o=>
  have e:=KX a o hk;rw[ha] at e;cases e;refine core (λ_=>none) (λ_=>.inl rfl) (.inr ⟨_,vs.toArray,_,hk,rfl,rfl,rfl,by rw[List.size_toArray,lenV];exact hl,by simpa using rv⟩) (λb u z=>by have z':(none:Option HO)=some u:=z;cases z') (λb z=>absurd rfl z) λz=>absurd rfl z
 | none=>
  refine core (λb=>if b=a then some (.frz { cls:=.type "list",data:=.seq vs.toArray } (.lst (ns.map V.int))) else none) (λb=>?_) (.inl (.inr ⟨{ cls:=.type "list",data:=.seq vs.toArray },if_pos rfl⟩)) (λb u z=>?_) (λb z=>?_) λ_=>hk
  ·by_cases hb:b=a
   ·exact .inr ⟨_,_,if_pos hb⟩
   ·exact .inl (if_neg hb)
  ·by_cases hb:b=a
   ·have z':=(if_pos hb).symm.trans z
    cases z';subst hb;exact⟨ha,by rw[List.length_map];exact hl,vs,_,rv,ha⟩
   ·have z':=(if_neg hb).symm.trans z
    cases z'
  ·by_cases hb:b=a
   ·exact hb
   ·exact absurd (if_neg hb) z
theorem walk_of{l:PySem.W.OpenLaw}{n k:Nat}{q:Program}{loose:List Str}{XP:(Str->Option Value)->Heap->Prop}{YP:World->Heap->Prop}{d:DefRec}{K:Params->Frag}{CX:World->CXT}{sp:World->Sp}{x:Str}(hn:l.most=some n)(hn2:n<=sizeLine)(hdf:d.params.defaults=[])(hr:Room k callerA)(hY:∀(w:World) (h:Heap),YP w h->(K w.params).In h)(F:∀(w:World) (mg:Str->Option Value) (fa:Addr) (h:Heap),(K w.params).In h->h.Ns mainGlobals mg->mg d.name=some (.ref fa) ->
   ∃fd:FuncData,(∀(s:Shared) (u:Value),BindsTo s fd ⟨[u],[]⟩ [(x,u)]) /\
    ∀base:Heap,(K w.params).In base->base.Ns mainGlobals mg->FnOk l.prog w (K w.params) mg base (CX w) k fa fd [x] (sp w))(hsp:∀(w:World) (H:Hp) (a:Addr) (ns:List Int),ns.length<=n->e5p H->SqL (K w.params) H a (ns.map V.int)->sp w [.ref a] H (λv _=>v=.bl true) λ_ _ _=>False)(hCX:∀(w:World) (H:Hp) (s:Shared) (e:Value) (s':Shared),CX w [] H s (λ_ _ _=>False) e s'->False):
  PySem.W.WalkO q loose XP YP l.row.toRowW d [] (λf vs=>PySem.call f vs):=by
 refine Att.attach_call hn hdf λw s₀ s₁ mg mb fa o pm cd doc a vs ns G Y ho hd hcd hmg hobj hints hlen hg=>?_;have KX:=hY w _ Y;obtain⟨fd,hb,hF⟩:=F w mg fa _ KX G.T.g hmg;exact d5s KX G.T.g G.T.b G.T.builtins G.T.nolimit hg hobj hints (Nat.le_trans hlen hn2) hr hF hb (λH hO hS=>hsp w H a ns hlen hO hS) λH e s'=>hCX w H s₁ e s'
noncomputable def a1j(s:Stmt):Arguments:=match s with
 | .FunctionDef _ a _ _ _ _ _ _ _ _=>a
 | _=>{ posonlyargs:=[],args:=[],vararg:=none,kwonlyargs:=[],kw_defaults:=[],kwarg:=none,defaults:=[] }
noncomputable def a0d(s:Stmt):List Stmt:=match s with
 | .FunctionDef _ _ b _ _ _ _ _ _ _=>b
 | _=>[]
noncomputable def d7(s:Stmt):Scope:=match s with
 | .FunctionDef _ _ _ _ _ _ sc _ _ _=>sc
 | _=>{ kind:=.function,names:=[],isGenerator:=false,isCoroutine:=false }
abbrev E0:XK:=λ_ _ _=>False
structure Fun(K:↑28)(x qual:Str)(st:Stmt)(f:Addr)(fd:FuncData):Prop where
 ex:∃(oc:Value)(od:Option Addr)(kV doc pm:Value)(an:Option Addr)(cdv ct:Value)(osl:Array (Option Value)),
  fd=PySem.W.fnOf x qual (a1j st) (a0d st) (d7 st) .none kV doc pm an cdv ct/\K.lookup f=some ⟨oc,od,.func fd,osl⟩/\codeIn K cdv qual=true
 kp:keepIn K (.ref f)=true
section
variable{P:Program}{w:World}{K:Frag}{mg:Str->Option Value}{base:Heap}
theorem Fun.binds{x qual:Str}{st:Stmt}{f:Addr}{fd:FuncData}{ps:List Str}(F:Fun K x qual st f fd)(h:∀(kV doc pm:Value) (an:Option Addr) (cdv ct:Value) (us:List Value),us.length=ps.length->bindArgs (PySem.W.fnOf x qual (a1j st) (a0d st) (d7 st) .none kV doc pm an cdv ct) ⟨us,[]⟩=pure (ps.zip us)):Binds K fd ps []:=by
 obtain⟨oc,od,kV,doc,pm,an,cdv,ct,osl,rfl,lk,hcd⟩:=F.ex;exact .all (h kV doc pm an cdv ct)
theorem c8o{x qual:Str}{st:Stmt}{f:Addr}{oc:Value}{od an:Option Addr}{osl:Array (Option Value)}{kV doc pm cdv ct:Value}(l:K.lookup f=some ⟨oc,od,.func (PySem.W.fnOf x qual (a1j st) (a0d st) (d7 st) .none kV doc pm an cdv ct),osl⟩)(c:codeIn K cdv qual=true)(k:keepIn K (.ref f)=true):Fun K x qual st f (PySem.W.fnOf x qual (a1j st) (a0d st) (d7 st) .none kV doc pm an cdv ct):=⟨⟨oc,od,kV,doc,pm,an,cdv,ct,osl,rfl,l,c⟩,k⟩
end
section
variable{X:Cx}
theorem pv(i:Nat){x:Str}{pos:Pos}(hN:X.N[i]?=some x:=by rfl)(hv:Vis X.env.scope x:=by fail "Y5")(hd:↑33=false:=by decide)(hcd:(x == ("__classdict__":Str))=false:=by decide):PE X (.Name x pos) (e3m i):=d6y hN hv hd hcd
end
theorem e2g{A B:Prop}(h:B):if false=true then A else B:=by
 rw[if_neg Bool.false_ne_true];exact h
theorem e3r{A B:Prop}(h:A):if true=true then A else B:=by
 rw[if_pos rfl];exact h
theorem b2h{c A B:Prop}[Decidable c](h1:c->A)(h2:¬ c->B):if c then A else B:=by
 by_cases h:c
 ·rw[if_pos h]
  exact h1 h
 ·rw[if_neg h]
  exact h2 h
def Same(H H':Hp):Prop:=∀b o,H b=some o->H' b=some o
theorem Same.refl(H:Hp):Same H H:=λ_ _ h=>h
theorem Same.trans{H H1 H2:Hp}(a:Same H H1)(b:Same H1 H2):Same H H2:=λc o h=>b c o (a c o h)
theorem Same.free{H H':Hp}(e:Same H H'){l:Addr}(h:H' l=Option.none):H l=Option.none:=by
 cases q:H l with
 | none=>rfl
 | some o=>
  rw[e l o q] at h;cases h
theorem Same.seq{K:Frag}{H H':Hp}{a:Addr}{xs:List V}(e:Same H H')(h:SqL K H a xs):SqL K H' a xs:=by
 rcases h with (h|⟨o,h⟩)|h
 ·exact .inl (.inl (e _ _ h))
 ·exact .inl (.inr ⟨o,e _ _ h⟩)
 ·exact .inr h
theorem b7x{P:Program}{w:World}{H:Hp}{h h':Heap}(x:HOk P w H h)(k:∀b o u,H b=some o->h.get? b=some u->h'.get? b=some u):HOk P w H h' :=
 λb u e=>(x b u e).stay (λc v hc q=>by
  rcases hc with z|z
  ·subst z;exact k _ _ _ e q
  ·exact k _ _ _ z q) (λ_ q=>q) λ_ _ q=>q
structure d4e(B:Heap)(l:List Env)(H H':Hp)(h:Heap):Prop where
 tr:∀b o,H' b=some o->∃ob,B.get? b=some ob
 un:∀b o,h.get? b=some o->H b=none->b ∉ frs l->B.get? b=some o
 th:∀b o,h.get? b=some o->b ∉ frs l->∃ob,B.get? b=some ob
structure Fly(P:Program)(w:World)(l:List Env)(H H':Hp)(s s':Shared)(a:Addr)(C:Value):Prop where
 os:s'.os=s.os
 bare:AllBare s'.gens
 un:Un (frs l) [] H H' s.heap s'.heap
 hok:HOk P w H' s'.heap
 fl:∃(B:Heap)(a0:Value),Heap.FlyingW B l a C a0 s'.heap/\d4e B l H H' s.heap
noncomputable def CXK(P:Program)(w:World):CXT:=λouter H s E e s'=>∃(a:Addr)(C:Value)(H':Hp),e=.ref a/\Fly P w outer H H' s s' a C/\E C none H'
theorem e3w{l:List Env}{H H':Hp}{h h' h'' B:Heap}{a:Addr}{C a0:Value}(u:Un (frs l) [] H H' h h')(fl:Heap.FlyingW B l a C a0 h')(k:d4e B l H H' h)(st:B.StaysIn h'')(up:h'.UpToSlots h''):Un (frs l) [] H H' h h'' where
 keep:=λb o q n hb _=>st b o (k.un b o q n hb)
 slot:=λb o q n hb hx=>by
  obtain⟨sl,e1⟩:=u.slot b o q n hb hx;obtain⟨_,o',ho',hd⟩:=fl.2.2.1.mem hb;rw[e1] at ho';cases ho';obtain⟨sl',e2⟩:=up b _ e1 hd;exact⟨sl',e2⟩
 free:=u.free
 there:=λb o q hx=>by
  by_cases hb:b∈frs l
  ·obtain⟨_,o',ho',hd⟩:=fl.2.2.1.mem hb
   obtain⟨sl',e2⟩:=up b _ ho' hd;exact⟨_,e2⟩
  ·obtain⟨ob,e⟩:=k.th b o q hb
   exact⟨ob,st b ob e⟩
 tups:=u.tups
 frzs:=u.frzs
 tbls:=u.tbls
theorem e2k{P:Program}{w:World}{l:List Env}{H H':Hp}{h h' h'' B:Heap}{a:Addr}{C a0:Value}(x:HOk P w H' h')(fl:Heap.FlyingW B l a C a0 h')(k:d4e B l H H' h)(st:B.StaysIn h''):HOk P w H' h'' :=
 b7x x λb o u e q=>by
  obtain⟨ob,e1⟩:=k.tr b o e;have e2:=fl.1 b ob e1;rw[q] at e2;cases e2;exact st b _ e1
section
variable{X:Cx}{pins:List ↑24}{σ:St}{H H':Hp}{s:Shared}{h' h'' B:Heap}{a:Addr}{C a0:Value}
theorem Inv.left(I:↑13)(hex:X.ex=[])(hst:X.stack=X.env::X.outer)(u:Un (frs X.stack) [] H H' s.heap h')(fl:Heap.FlyingW B X.stack a C a0 h')(k:d4e B X.stack H H' s.heap)(st:B.StaysIn h'')(up:h'.UpToSlots h''):Un X.fs [] X.H₀ H' X.s₀.heap h''/\d4e B X.outer X.H₀ H' X.s₀.heap:=by
 have u2:=e3w u fl k st up;have nx:∀b:Addr,b ∉ X.ex:=λb z=>by rw[hex] at z;cases z
 have sub:∀b o,X.s₀.heap.get? b=some o->b ∉ X.fs->b ∉ frs X.stack:=λb o e hb z=>by
  rcases List.mem_cons.mp (I.stkSub b z) with y|y
  ·exact absurd (Nat.lt_of_lt_of_le (Heap.lt_size e) I.ok.above) (by rw[y];exact Nat.lt_irrefl _)
  ·exact hb y
 have infs:∀b,b∈X.fs->b∈frs X.stack:=λb hb=>by
  rw[hst];obtain⟨env,he,hf⟩:=List.mem_filterMap.mp hb;exact List.mem_filterMap.mpr ⟨env,List.mem_cons_of_mem _ he,hf⟩
 refine⟨⟨λb o q n hb _=>?_,λb o q n hb _=>?_,λb o q n _=>?_,λb o q _=>?_,λb xs q=>u2.tups b xs (I.base.tups b xs q),λb o xs q=>u2.frzs b o xs (I.base.frzs b o xs q),λb ps q=>?_⟩,⟨k.tr,λb o q n hb=>?_,λb o q hb=>?_⟩⟩
 ·exact u2.keep b o (I.base.keep b o q n hb (nx b)) (I.base.free b o q n (nx b)) (sub b o q hb) (by simp)
 ·obtain⟨sl,e1⟩:=I.base.slot b o q n hb (nx b)
  obtain⟨sl',e2⟩:=u2.slot b _ e1 (I.base.free b o q n (nx b)) (infs b hb) (by simp)
  exact⟨sl',e2⟩
 ·obtain⟨o',e1⟩:=I.base.there b o q (nx b)
  exact u2.free b o' e1 (I.base.free b o q n (nx b)) (by simp)
 ·obtain⟨o',e1⟩:=I.base.there b o q (nx b)
  exact u2.there b o' e1 (by simp)
 ·obtain⟨m1,e1⟩:=I.base.tbls b ps q
  obtain⟨m2,e2⟩:=u2.tbls b _ e1;exact⟨m1++m2,by rw[e2,Array.append_assoc]⟩
 ·exact k.un b o (I.base.keep b o q n hb (nx b)) (I.base.free b o q n (nx b)) (sub b o q hb)
 ·obtain⟨o',e1⟩:=I.base.there b o q (nx b)
  exact k.th b o' e1 (sub b o q hb)
end
section
variable{P:Program}{w:World}{K:Frag}{mg:Str->Option Value}{base:Heap}{N:List Str}{qual:Str}{scope:Scope}{f:Addr}{cd:Value}{A:Around}{outer:List Env}{s₀:Shared}{H₀:Hp}{E₀:XK}
theorem g4:a2s (CXK P w) (c7j (CXK P w) P w K mg base N qual scope f cd A outer s₀ H₀ E₀) E₀:=by
 intro pins σ H s e s' I h;obtain⟨a,C,H',rfl,F,q⟩:=h;obtain⟨B,a0,fl,k⟩:=F.fl;refine wpAny_leaves_onW (base:=B) I.ok.frames rfl fl λh'' x1 x2=>?_;obtain⟨u,k'⟩:=I.left rfl rfl F.un fl k x1.1 x2;exact⟨a,C,H',rfl,⟨F.os.trans I.os,F.bare,u,e2k F.hok fl k x1.1,⟨B,a0,x1,k'⟩⟩,q⟩
theorem a2m:PassesOwn (model (c7j (CXK P w) P w K mg base N qual scope f cd A outer s₀ H₀ E₀).prog (c7j (CXK P w) P w K mg base N qual scope f cd A outer s₀ H₀ E₀).w) (c7j (CXK P w) P w K mg base N qual scope f cd A outer s₀ H₀ E₀).A (c7j (CXK P w) P w K mg base N qual scope f cd A outer s₀ H₀ E₀).env (c7j (CXK P w) P w K mg base N qual scope f cd A outer s₀ H₀ E₀).xe:=PassesOwn.leaving
end
noncomputable abbrev e6p:List Value:=[.type "ValueError",.type "Exception",.type "BaseException",.type "object"]
def e7o(K:↑28)(C:Addr):Prop:=excIn K C e6p "ValueError.__new__" = true
noncomputable def e6l(a:Addr)(C:Value):HO:=.ext λh=>∃o,h.get? a=some o/\o.cls=C
open Builtin Builtin.ObjectAttr Builtin.Getset_descriptor
structure ExK(K:↑28)(C:Addr):Prop where
 ex:e7o K C
 ga:findIn K (.ref C) "__getattribute__" = some (some (.builtin "BaseException.__getattribute__"))
 gn:findIn K (.ref C) "__getattr__" = some none
 cl:findIn K (.ref C) "__class__" = some (some (.builtin "object.__class__"))
 mb:mroIn K C (.type "BaseException")=some true
 mo:mroIn K C (.type "object")=some true
 ic:(clsIn K C).isSome=true
 sg:specialIn K (.builtin "object.__class__") "__get__" = some (some (.builtin "getset_descriptor.__get__"))
 tk:PySem.W.takesIn K (.builtin "object.__class__")=some true
section
variable{prog:Program}{w:World}{A:Around}{E:Value->Shared->Prop}{R:Result->Shared->Prop}{K:Frag}{C x:Addr}{s:Shared}
theorem e0g(X:K.In s.heap)(L0:PySem.W.Looks ↑38 s.heap (typeOf (.ref x)) (.ref C))(hm:mroIn K C (.type "object")=some true)(h:R (.ok (.ret (.ref C))) s):
  codeAny ↑38 A (.call (.builtin "getset_descriptor.__get__") ⟨[.builtin "object.__class__",.ref x,.ref C],[]⟩) R s:=by
 obtain⟨hh,g,dr,t,os⟩:=s;have L1:=PySem.W.looks_mroIn (M:=model prog w) X hm;have pl:=PySem.W.KF.slot_gs.plain;refine codeAny_call_builtin pl PySem.W.KF.entry_gs (PySem.W.KF.slot_gs.check _ _ _ _ _ _ _ _ PySem.W.KF.type_class (PySem.W.KF.args_gs _ _ _) ?_);unfold Builtin.«getset_descriptor.__get__» descrGet;rw[PySem.W.dga_obj];refine wpAny_bind (wpAny_pure ?_);unfold descrGetter descrCheckInstance descrNameAndClass isInstance;simp only[PySem.W.KF.owner_class]
 repeat lk
 refine⟨Code.quiet_builtin _ (by decide +kernel),codeAny_builtin PySem.W.KF.entry_class ?_⟩
 unfold Builtin.«object.__class__» shownTypeOf
 repeat lk
 exact h
theorem d7n(X:K.In s.heap)(k:ExK K C):PySem.W.Looks ↑38 s.heap (find (.ref x) (.ref C) "__class__") (.bind (.builtin "getset_descriptor.__get__") (.builtin "object.__class__")):=by
 have L1:=PySem.W.looks_findIn (M:=model prog w) X k.cl;have L2:PySem.W.Looks ↑38 s.heap (getOf (some (.builtin "object.__class__"))) (some (.builtin "getset_descriptor.__get__")):=PySem.W.looks_specialIn X k.sg;have L3:=PySem.W.looks_takesIn (M:=model prog w) X k.tk;refine L1.andThen (L2.andThen ?_);have L4:PySem.W.Looks ↑38 s.heap (dataDescriptor? (some (.builtin "object.__class__")) (some (.builtin "getset_descriptor.__get__"))) (some (.builtin "getset_descriptor.__get__",.builtin "object.__class__")):=L3.andThen .now;exact L4.andThen (PySem.W.Looks.tag .now)
theorem d4j{tk:Tok}{Q:Fin->Shared->Prop}(X:K.In s.heap)(k:ExK K C)(L0:PySem.W.Looks ↑38 s.heap (typeOf (.ref x)) (.ref C))(h:Q (.done (.ret (.ref C))) s):
  wpAny ↑38 A (Builtin.«object.__getattribute__» ⟨[.ref x,.str "__class__" tk],[]⟩) Q E s:=by
 obtain⟨hh,g,dr,t,os⟩:=s;have L1:=d7n (prog:=prog) (w:=w) (x:=x) X k;unfold Builtin.«object.__getattribute__» slotArgs attrName
 repeat lk
 show wpAny _ _ (run (.call (.builtin "getset_descriptor.__get__") ⟨[.builtin "object.__class__",.ref x,.ref C],[]⟩) none) _ _ _;refine wpAny_run (A:=A) (e0g X L0 k.mo ?_);show wpAny _ _ (pure (Value.ref C)) _ _ _;exact wpAny_pure (wpAny_pure h)
theorem d4k{nameV:Value}{Q:Unit->Shared->Prop}(X:K.In s.heap)(k:ExK K C)(L0:PySem.W.Looks ↑38 s.heap (typeOf (.ref x)) (.ref C))(h:Q () s):
  wpAny ↑38 A (checkBuiltinCall "BaseException.__getattribute__" ⟨[.ref x,nameV],[]⟩) Q E s:=by
 obtain⟨hh,g,dr,t,os⟩:=s;have e1:builtinKind "BaseException.__getattribute__" = some .slot:=by decide +kernel
 have e2:splitId "BaseException.__getattribute__" = some ("BaseException","__getattribute__"):=by decide +kernel
 have L1:=PySem.W.looks_mroIn (M:=model prog w) X k.mb;have hz:=F.args_bexc_ga (.ref x) nameV;have L2:PySem.W.Looks ↑38 hh (isInstance (.ref x) (.type "BaseException")) true:=L0.andThen L1;simp only[checkBuiltinCall,e1,e2];refine wpAny_bind (L2.at ?_)
 repeat (first|assumption|wp_step)
 all_goals exact h
theorem e3v{tk:Tok}{fill:Bool}{Q:Value->Shared->Prop}(X:K.In s.heap)(k:ExK K C)(L0:PySem.W.Looks ↑38 s.heap (typeOf (.ref x)) (.ref C))(h:Q (.ref C) s):
  wpAny ↑38 A (getAttrBy (.ref x) (.str "__class__" tk) fill) Q E s:=by
 obtain⟨hh,g,dr,t,os⟩:=s;have L1:=PySem.W.looks_findIn (M:=model prog w) X k.ga;have L2:=PySem.W.looks_findIn (M:=model prog w) X k.gn;have hb:=F.attr_ValueError.ga.bind (.ref x);unfold getAttrBy;refine wpAny_holding (wpAny_bind (L0.at (wpAny_bind (L1.at ?_))));dsimp only;have ne:(Value.builtin "BaseException.__getattribute__" == Value.builtin "object.__getattribute__")=false:=by decide +kernel
 have oh:onTheHeap (Value.ref C)=true:=rfl;rw[ne,Bool.and_false,if_neg Bool.false_ne_true];unfold getAttrByItsOwn hookBefore;rw[if_pos oh];refine wpAny_bind (L2.at (wpAny_bind (wpAny_attempt (wpAny_holding ?_))));unfold callGetattribute;rw[Bool.false_and,if_neg Bool.false_ne_true];unfold boundAndCalled;rw[hb];refine wpAny_bind (wpAny_pure ?_);refine wpAny_call (codeAny_call_builtin F.attr_ValueError.ga.plain F.entry_bexc_ga (d4k X k L0 (d4j X k L0 ?_)));exact wpAny_pure h
theorem d7o{Q:Option Value->Shared->Prop}(X:K.In s.heap)(k:ExK K C)(L0:PySem.W.Looks ↑38 s.heap (typeOf (.ref x)) (.ref C))(h:Q (some (.ref C)) { s with toks:=s.toks+1 }):
  wpAny ↑38 A (getAttr? (.ref x) "__class__") Q E s:=by
 obtain⟨hh,g,dr,t,os⟩:=s;unfold getAttr? getAttrBy?;exact wpAny_bind (wpAny_mkText (wpAny_bind (wpAny_attempt (e3v X k L0 (wpAny_pure h)))))
end
def ExAt(a C:Addr)(h:Heap):Prop:=∃o,h.get? a=some o/\o.cls=.ref C
theorem ExAt.ty{a C:Addr}{h:Heap}(M:Model)(p:ExAt a C h):PySem.W.Looks M h (typeOf (.ref a)) (.ref C):=by
 obtain⟨o,h1,h2⟩:=p;exact h2 ▸ (PySem.W.Looks.ld h1).andThen .now
theorem d5u{K:Frag}{a C:Addr}(k:ExK K C):PySem.W.KitX K (.ref a) (.ref C) (ExAt a C) where
 ty:=λM h _ p=>p.ty M
 it:=λM h X _=>by
  obtain⟨cd,hc⟩:=Option.isSome_iff_exists.mp k.ic;unfold clsIn at hc;split at hc
  case h_2=>cases hc
  case h_1 c' d' cd' sl' ho=>
   intro A' Q' E' s' kk q;unfold isType loadHead;exact wpAny_bind (wpAny_loadPart (kk _ _ (X _ _ ho)) (wpAny_pure q))
 ne:=λh tp dd its n sl X htp=>by
  obtain⟨cd,hc⟩:=Option.isSome_iff_exists.mp k.ic;cases hb:(Value.ref C == Value.ref tp) with
  | false=>rfl
  | true=>
   have e:C=tp:=Value.ref.inj (beq_iff_eq.mp hb);subst e;unfold clsIn at hc;split at hc
   case h_2=>cases hc
   case h_1 c' d' cd' sl' ho=>
    have z:=(X _ _ ho).symm.trans htp;cases z
 ca:=λX p h=>d7o X k (p.ty _) h
inductive TyX(K:↑28)(H:Hp):V->Value->Prop where
 | ty {x:V} {t:Value} (h:d0o K H x t):TyX K H x t
 | exc {a C:Addr} (e:H a=some (e6l a (.ref C))) (k:ExK K C):TyX K H (.ref a) (.ref C)
noncomputable def e3t:V->Option Value
 | .ref a=>some (.ref a)
 | .ty n=>some (.type n)
 | _=>none
theorem d6s{c:V}{cv u:Value}(h:e3t c=some cv)(r:RelV c u):u=cv:=by
 cases c with
 | ref a=>cases h;exact r
 | ty n=>cases h;exact r
 | _=>cases h
section
variable{X:Cx}
theorem d6t:b8h X (.builtin "isinstance") (λxs H Q=>∃x c t cv b,xs=[x,c]/\TyX X.K H x t/\e3t c=some cv/\kitOne X.K t cv=some b/\Q (.bl b) H):=by
 intro pins s σ H xs us Q I r h;obtain⟨x,c,t,cv,b,rfl,ty,hc,hk,q⟩:=h;obtain⟨u,us',rfl,rx,r2⟩:∃u us',us=u::us'/\RelV x u/\Vals [c] us':=by cases r with|cons a b=>exact⟨_,_,rfl,a,b⟩
 obtain⟨v,rfl,rc⟩:∃v,us'=[v]/\RelV c v:=by cases r2 with|cons a b=>cases b;exact⟨_,rfl,a⟩
 have e:=d6s hc rc;subst e;cases ty with
 | ty ty=>exact d2v I rx ty hk λtk=>⟨.bl b,H,I.tok tk,rfl,q⟩
 | @exc a C ea k=>
  cases (show u=Value.ref a from rx);obtain⟨p,_⟩:=(show ObjOk X.prog X.w H s.heap a (e6l a (.ref C)) from I.hok a _ ea);exact kia_one (d5u k) I.kIn p hk (λz=>nomatch z) λtk=>⟨.bl b,H,I.tok tk,rfl,q⟩
end
inductive EqD(K:↑28)(H:Hp):Nat->V->V->Bool->Prop where
 | flat {n:Nat} {x y:V} (fx:a6l x=true) (fy:a6l y=true):EqD K H n x y (eqV x y)
 | lst {n:Nat} {p q:Addr} {xs ys:List V} {e:Nat->Bool} (ne:p≠q) (hp:SqL K H p xs) (hq:SqL K H q ys) (hl:xs.length=ys.length)
   (h:∀(j:Nat)(x y:V),xs[j]?=some x->ys[j]?=some y->EqD K H n x y (e j)):EqD K H (n+1) (.ref p) (.ref q) ((List.range xs.length).all e)
 | lstN {n:Nat} {p q:Addr} {xs ys:List V} (ne:p≠q) (hp:SqL K H p xs) (hq:SqL K H q ys) (hl:xs.length≠ys.length):EqD K H (n+1) (.ref p) (.ref q) false
 | tup {n:Nat} {p q:Addr} {xs ys:List V} {e:Nat->Bool} (ne:p≠q) (hp:SqT K H p xs) (hq:SqT K H q ys)
   (h:∀(j:Nat)(x y:V),xs[j]?=some x->ys[j]?=some y->EqD K H n x y (e j)):EqD K H (n+1) (.ref p) (.ref q) ((List.range (min xs.length ys.length)).all e && xs.length == ys.length)
 | self {n:Nat} {p:Addr} {xs:List V} (hp:SqT K H p xs):EqD K H n (.ref p) (.ref p) true
theorem Vals.at{xs:List V}{us:List Value}(r:Vals xs us){j:Nat}(h:j<us.toArray.size):∃x,xs[j]?=some x/\RelV x us.toArray[j]:=by
 have hl:j<xs.length:=by rw[r.length];simpa using h
 obtain⟨u,e,q⟩:=r.get (List.getElem?_eq_getElem hl);refine⟨xs[j],List.getElem?_eq_getElem hl,?_⟩;have:us.toArray[j]=u:=by
  simp only[List.getElem_toArray];have:=List.getElem?_eq_some_iff.mp e;exact this.2
 rw[this];exact q
section
variable{X:Cx}{pins:List ↑24}{σ:St}{H:Hp}{s:Shared}
theorem c8u(I:↑13){n:Nat}{x y:V}{b:Bool}(d:EqD X.K H n x y b):∀{A:Around}{u v:Value},RelV x u->RelV y v->A.units+n<cLine->SeqAt.EqAt A s u v b:=by
 induction d with
 | flat fx fy=>intro A u v rx ry hu;exact d7i rx ry fx fy
 | @lst n p q xs ys e ne hp hq hl h ih=>
  intro A u v rx ry hu;cases rx;cases ry;obtain⟨i1,r1,p1,z1⟩:=I.list hp;obtain⟨i2,r2,p2,z2⟩:=I.list hq;have e1:=r1.length;have e2:=r2.length;rw[show xs.length=i1.toArray.size by simpa using e1]
  refine SeqAt.EqAt.of_refs ne (SeqAt.RcAt.lists p1.isList p2.isList (by simp only[List.size_toArray];lia) ↑2 λj h1 h2=>?_)
  obtain⟨a,ea,ra⟩:=r1.at h1;obtain⟨c,ec,rc⟩:=r2.at h2;exact ih j a c ea ec ra rc (by show A.units+1+n<cLine;lia)
 | @lstN n p q xs ys ne hp hq hl=>
  intro A u v rx ry hu;cases rx;cases ry;obtain⟨i1,r1,p1,z1⟩:=I.list hp;obtain⟨i2,r2,p2,z2⟩:=I.list hq;have e1:=r1.length;have e2:=r2.length;exact SeqAt.EqAt.of_refs ne (SeqAt.RcAt.lists_lengths p1.isList p2.isList (by simp only[List.size_toArray,bne_iff_ne];lia) ↑2)
 | @tup n p q xs ys e ne hp hq h ih=>
  intro A u v rx ry hu;cases rx;cases ry;obtain⟨i1,r1,p1,z1⟩:=I.tuple hp;obtain⟨i2,r2,p2,z2⟩:=I.tuple hq;have e1:=r1.length;have e2:=r2.length;rw[show xs.length=i1.toArray.size by simpa using e1,show ys.length=i2.toArray.size by simpa using e2]
  refine SeqAt.EqAt.of_refs ne (SeqAt.RcAt.tuples p1 p2 ↑2 λj h1 h2=>?_);obtain⟨a,ea,ra⟩:=r1.at h1;obtain⟨c,ec,rc⟩:=r2.at h2;exact ih j a c ea ec ra rc (by show A.units+1+n<cLine;lia)
 | self hp=>
  intro A u v rx ry hu;cases rx;cases ry;exact SeqAt.EqAt.same _
theorem c9d(k:Nat):((List.range (min k k)).all (λ_=>true) && k == k)=true:=by simp
theorem e1t{n:Nat}(hu:X.A.units+(n+1)<cLine):OpR X (compareOp .Eq) (λx y H Q=>∃p q b,x=.ref p/\y=.ref q/\EqD X.K H (n+1) x y b/\Q (.bl b) H):=by
 intro pins s σ H x y v u Q I rx ry h;obtain⟨p,q,b,rfl,rfl,d,hq⟩:=h;cases rx;cases ry;cases d with
 | flat fx fy=>cases fx
 | @lst _ _ _ xs ys e ne h1 h2 hl h=>
  obtain⟨i1,r1,p1,z1⟩:=I.list h1;obtain⟨i2,r2,p2,z2⟩:=I.list h2;have e1:=r1.length;have e2:=r2.length;rw[show xs.length=i1.toArray.size by simpa using e1] at hq
  refine SeqAt.RcAt.lists p1.isList p2.isList (by simp only[List.size_toArray];lia) ↑2 (λj h1 h2=>?_) _ _ _ _ ⟨.bl _,H,I,rfl,hq⟩
  obtain⟨a,ea,ra⟩:=r1.at h1;obtain⟨c,ec,rc⟩:=r2.at h2;exact c8u I (h j a c ea ec) ra rc (by show X.A.units+1+n<cLine;lia)
 | @lstN _ _ _ xs ys ne h1 h2 hl=>
  obtain⟨i1,r1,p1,z1⟩:=I.list h1;obtain⟨i2,r2,p2,z2⟩:=I.list h2;have e1:=r1.length;have e2:=r2.length;exact SeqAt.RcAt.lists_lengths p1.isList p2.isList (by simp only[List.size_toArray,bne_iff_ne];lia) ↑2 _ _ _ _ ⟨.bl _,H,I,rfl,hq⟩
 | @tup _ _ _ xs ys e ne h1 h2 h=>
  obtain⟨i1,r1,p1,z1⟩:=I.tuple h1;obtain⟨i2,r2,p2,z2⟩:=I.tuple h2;have e1:=r1.length;have e2:=r2.length;rw[show xs.length=i1.toArray.size by simpa using e1,show ys.length=i2.toArray.size by simpa using e2] at hq
  refine SeqAt.RcAt.tuples p1 p2 ↑2 (λj h1 h2=>?_) _ _ _ _ ⟨.bl _,H,I,rfl,hq⟩;obtain⟨a,ea,ra⟩:=r1.at h1;obtain⟨c,ec,rc⟩:=r2.at h2;exact c8u I (h j a c ea ec) ra rc (by show X.A.units+1+n<cLine;lia)
 | @self _ _ xs hp=>
  obtain⟨i1,r1,p1,z1⟩:=I.tuple hp;rw[<- c9d i1.toArray.size] at hq;exact SeqAt.RcAt.tuples p1 p1 ↑2 (λj h1 h2=>SeqAt.EqAt.same _) _ _ _ _ ⟨.bl _,H,I,rfl,hq⟩
theorem e1s{n:Nat}(hu:X.A.units+(n+1)<cLine):OpR X (compareOp .NotEq) (λx y H Q=>∃p q b,x=.ref p/\y=.ref q/\EqD X.K H (n+1) x y b/\Q (.bl (!b)) H):=by
 intro pins s σ H x y v u Q I rx ry h;obtain⟨p,q,b,rfl,rfl,d,hq⟩:=h;cases rx;cases ry;cases d with
 | flat fx fy=>cases fx
 | @lst _ _ _ xs ys e ne h1 h2 hl h=>
  obtain⟨i1,r1,p1,z1⟩:=I.list h1;obtain⟨i2,r2,p2,z2⟩:=I.list h2;have e1:=r1.length;have e2:=r2.length;rw[show xs.length=i1.toArray.size by simpa using e1] at hq
  refine SeqAt.RcNeAt.lists p1.isList p2.isList (by simp only[List.size_toArray];lia) ↑2 (λj h1 h2=>?_) _ _ _ _ ⟨.bl _,H,I,rfl,hq⟩
  obtain⟨a,ea,ra⟩:=r1.at h1;obtain⟨c,ec,rc⟩:=r2.at h2;exact c8u I (h j a c ea ec) ra rc (by show X.A.units+1+n<cLine;lia)
 | @lstN _ _ _ xs ys ne h1 h2 hl=>
  obtain⟨i1,r1,p1,z1⟩:=I.list h1;obtain⟨i2,r2,p2,z2⟩:=I.list h2;have e1:=r1.length;have e2:=r2.length;exact SeqAt.RcNeAt.lists_lengths p1.isList p2.isList (by simp only[List.size_toArray,bne_iff_ne];lia) ↑2 _ _ _ _ ⟨.bl _,H,I,rfl,hq⟩
 | @tup _ _ _ xs ys e ne h1 h2 h=>
  obtain⟨i1,r1,p1,z1⟩:=I.tuple h1;obtain⟨i2,r2,p2,z2⟩:=I.tuple h2;have e1:=r1.length;have e2:=r2.length;rw[show xs.length=i1.toArray.size by simpa using e1,show ys.length=i2.toArray.size by simpa using e2] at hq
  refine SeqAt.RcNeAt.tuples p1 p2 ↑2 (λj h1 h2=>?_) _ _ _ _ ⟨.bl _,H,I,rfl,hq⟩;obtain⟨a,ea,ra⟩:=r1.at h1;obtain⟨c,ec,rc⟩:=r2.at h2;exact c8u I (h j a c ea ec) ra rc (by show X.A.units+1+n<cLine;lia)
 | @self _ _ xs hp=>
  obtain⟨i1,r1,p1,z1⟩:=I.tuple hp;rw[<- c9d i1.toArray.size] at hq;exact SeqAt.RcNeAt.tuples p1 p1 ↑2 (λj h1 h2=>SeqAt.EqAt.same _) _ _ _ _ ⟨.bl _,H,I,rfl,hq⟩
end
noncomputable def eqL:List V->List V->Bool
 | [],[]=>true
 | x::xs,y::ys=>eqV x y && eqL xs ys
 | _,_=>false
theorem d3n:∀{xs ys:List V},xs.length≠ys.length->eqL xs ys=false
 | [],[],h=>absurd rfl h
 | [],_::_,_=>rfl
 | _::_,[],_=>rfl
 | x::xs,y::ys,h=>by
  show(eqV x y && eqL xs ys)=false;rw[d3n (λe=>h (by simp[e])),Bool.and_false]
theorem b8n(e:Nat->Bool)(n:Nat):(List.range (n+1)).all e=(e 0 && (List.range n).all λj=>e (j+1)):=by
 rw[List.range_succ_eq_map,List.all_cons,List.all_map]
 rfl
theorem b8d:∀{xs ys:List V},xs.length=ys.length->(List.range xs.length).all (λj=>eqV (xs.getD j .non) (ys.getD j .non))=eqL xs ys
 | [],[],_=>rfl
 | [],_::_,h=>by cases h
 | _::_,[],h=>by cases h
 | x::xs,y::ys,h=>by
  have h':xs.length=ys.length:=by simpa using h
  rw[List.length_cons,b8n];have e:=b8d h';simp only[List.getD_cons_zero,List.getD_cons_succ];rw[e]
  rfl
theorem c2j{K:Frag}{H:Hp}{p q:Addr}{xs ys:List V}(ne:p≠q)(hp:SqL K H p xs)(hq:SqL K H q ys)(fx:xs.all a6l=true)(fy:ys.all a6l=true):EqD K H 1 (.ref p) (.ref q) (eqL xs ys):=by
 by_cases h:xs.length=ys.length
 ·rw[<- b8d h]
  refine EqD.lst ne hp hq h λj x y hx hy=>?_;have e1:xs.getD j .non=x:=by rw[List.getD_eq_getElem?_getD,hx];rfl
  have e2:ys.getD j .non=y:=by rw[List.getD_eq_getElem?_getD,hy];rfl
  show EqD K H 0 x y (eqV (xs.getD j .non) (ys.getD j .non));rw[e1,e2];exact EqD.flat (List.all_eq_true.mp fx x (List.mem_of_getElem? hx)) (List.all_eq_true.mp fy y (List.mem_of_getElem? hy))
 ·rw[d3n h]
  exact EqD.lstN ne hp hq h
theorem c2k:∀(ns ms:List Int),eqL (ns.map V.int) (ms.map V.int)=decide (ns=ms)
 | [],[]=>by simp[eqL]
 | [],_::_=>by simp[eqL]
 | _::_,[]=>by simp[eqL]
 | n::ns,m::ms=>by
  show(eqV (.int n) (.int m) && eqL (ns.map V.int) (ms.map V.int))=_;rw[c2k ns ms];show((n == m) && decide (ns=ms))=_;by_cases h:n=m
  ·subst h;simp
  ·simp[h]
noncomputable def b8e(X:Cx)(N:List Str)(scope:Scope)(cl:List (Str×Addr))(C:Addr)(s:Shared)(H:Hp)(ex:List Addr)(pn:List ↑24):Cx :=
 { prog:=X.prog,w:=X.w,K:=X.K,mg:=X.mg,base:=X.base,A:=X.A,N:=N,s₀:=s,H₀:=H,env:=compEnvC scope cl C X.env,outer:=X.stack,stack:=X.stack,ex:=ex,fn:=λ_=>false,calm:=X.calm,pn:=pn,xe:=λ_ _=>False }
noncomputable def a1x(nt:Nat)(fr:List Nat)(σ:St):St:=List.replicate nt none++fr.map λj=>(σ[j]?).join
noncomputable def d8d(wi:TI)(nt:Nat)(fr:List Nat)(g:TG)(te:TE):TE:=λσ H Q=>wi σ H λJ H1=>∀D,H1 D=none->∃(n:Nat)(W:Nat->List V->Hp->Prop),W 0 [] (upd H1 D (.lst [])) /\
 ∀i acc H,W i acc H->H D=some (.lst acc)/\acc.length<sizeLine /\
  ((J.stop i H/\Q (.ref D) H)\/(i<n/\J.go i H/\∀x H',J.yld i H x H'->g x (a1x nt fr σ) H' λσ2 H2=>te σ2 H2 λy H3=>H3 D=some (.lst acc)/\W (i+1) ↑41 (upd H3 D (.lst ↑41))))
def b9y(nt:Nat)(g:TG):Prop:=∀(x:V)(σ:St)(H:Hp)(Q:St->Hp->Prop),g x σ H Q->g x σ H λσ2 H2=>(∀j,nt<=j->σ2[j]?=σ[j]?)/\Q σ2 H2
theorem a7i{i nt:Nat}(h:i<nt):b9y nt (b8z i):=λx σ H Q q=>⟨λj hj=>List.getElem?_set_ne ↑2,q⟩
structure CompOk(X:Cx)(N:List Str)(scope:Scope)(cl:List (Str×Addr))(nt:Nat)(fr:List Nat):Prop where
 clos:closureFor scope X.env=pure cl
 kind:scope.kind=.function
 cell:∀y∈scope.names,y.2≠.cell
 names:∀y∈scope.names,y.2=.local->scope.names.lookup y.1=some .local
 sub:∀p∈cl,X.env.cells.lookup p.1=some p.2
 has:((relabel scope X.env).names.all λy=>!(y.2 == .cell || y.2 == .free) || (cl.lookup y.1).isSome)=true
 len:N.length=nt+fr.length
 frn:∀(j i:Nat),fr[j]?=some i->∃x,N[nt+j]?=some x/\X.N[i]?=some x/\(X.env.kindOf x=some .cell\/X.env.kindOf x=some .free)/\((relabel scope X.env).names.lookup x=some .cell\/(relabel scope X.env).names.lookup x=some .free)
section
variable{X:Cx}{pins:List ↑24}{σ:St}{H:Hp}{s:Shared}{N:List Str}{scope:Scope}{cl:List (Str×Addr)}{nt:Nat}{fr:List Nat}
theorem CompOk.cl_at(k:CompOk X N scope cl nt fr){x:Str}{c:Addr}(h:cl.lookup x=some c):X.env.cells.lookup x=some c:=k.sub (x,c) (PySem.mem_of_lookup h)
theorem CompOk.start(k:CompOk X N scope cl nt fr)(I:↑13){C:Addr}{h':Heap}{t':Nat}{ex:List Addr}(hex:∀b∈ex,d4f X pins H b/\b<s.heap.objs.size)(hC:s.heap.objs.size<=C)(hn:h'.Ns C λ_=>none)(hk:∀b o,s.heap.get? b=some o->h'.get? b=some o):
  Inv (b8e X N scope cl C s H ex (X.pn++pins)) [] (a1x nt fr σ) H { s with heap:=h',toks:=t' }:=by
 have ncell:∀x c,cl.lookup x=some c->c<s.heap.objs.size:=λx c e=>by
  obtain⟨v,z⟩:=I.cell x c (k.cl_at e);exact z.lt
 refine⟨⟨I.ok.mod,?_,I.ok.glob,I.ok.blt,hC,λx y c h1 h2=>I.ok.inj x y c (k.cl_at h1) (k.cl_at h2),λx hx=>?_,λx c hf _=>(nomatch hf),I.ok.hd,I.ok.frames,.inl rfl,λb hb=>⟨?_,λx c e=>?_⟩,I.bs,?_,λb o e hb=>?_,λb hb z=>?_,I.stack,I.stkFree⟩,
  rfl,I.bare,Un.kept hk,⟨_,hn,λi x v e1 e2 e3=>?_⟩,λx c e=>?_,I.hok.fresh hC,λx c e=>I.freeC x c (k.cl_at e),λp hp=>?_,I.hok.kept hk,?_⟩
 ·show(relabel scope X.env).kind=.function
  exact k.kind
 ·have hx:(relabel scope X.env).names.lookup x=some .cell\/(relabel scope X.env).names.lookup x=some .free:=hx
  have hall:=List.all_eq_true.mp k.has;rcases hx with hx|hx
  ·have:=hall _ (PySem.mem_of_lookup hx)
   simp only[beq_self_eq_true,Bool.true_or,Bool.not_true,Bool.false_or] at this;exact Option.isSome_iff_exists.mp this
  ·have:=hall _ (PySem.mem_of_lookup hx)
   simp only[beq_self_eq_true,Bool.or_true,Bool.not_true,Bool.false_or] at this;exact Option.isSome_iff_exists.mp this
 ·exact Nat.ne_of_lt (Nat.lt_of_lt_of_le (hex b hb).2 hC)
 ·exact(hex b hb).1.2.2.2.2.1 x c (k.cl_at e)
 ·exact Nat.le_trans I.ok.bsz I.sz
 ·obtain⟨_,_,_,h4,_⟩:=(hex b hb).1
  have hs:=(I.ok.bs b o e).1;rcases h4 with z|z
  ·exact I.ok.noex b o e z
  ·exact absurd (Nat.lt_of_lt_of_le (Heap.lt_size hs) z) (Nat.lt_irrefl _)
 ·rcases List.mem_cons.mp (I.stkSub b z) with y|y
  ·exact(hex b hb).1.2.1 y
  ·exact(hex b hb).1.2.2.1 y
 ·have hi:¬ i<nt:=λhi=>by
   unfold a1x at e2;rw[List.getElem?_append_left (by simpa using hi),List.getElem?_replicate] at e2
   split at e2 <;> cases e2
  obtain⟨j,rfl⟩:∃j,i=nt+j:=⟨i-nt,by lia⟩
  unfold a1x at e2;rw[List.getElem?_append_right (by simp),List.length_replicate,Nat.add_sub_cancel_left,List.getElem?_map] at e2
  cases hj:fr[j]? with
  | none=>rw[hj] at e2;cases e2
  | some i'=>
   rw[hj] at e2;have e2:(σ[i']?).join=some v:=Option.some.inj e2;have e4:σ[i']?=some (some v):=by
    cases z:σ[i']? with
    | none=>rw[z] at e2;cases e2
    | some y=>rw[z] at e2;rw[show y=some v from e2]
   obtain⟨x',n1,n2,n3,n4⟩:=k.frn j i' hj;have e1:N[nt+j]?=some x:=e1;rw[n1] at e1;cases e1;obtain⟨m,hm,hl⟩:=I.loc;obtain⟨u,r,l⟩:=hl i' x v n2 e4 (n3.elim (λz=>.inr (.inl z)) λz=>.inr (.inr z));refine⟨u,r,.inr ⟨n4,?_⟩⟩;rcases l with ⟨z,_⟩|⟨_,c,hc,hcell⟩
   ·rcases n3 with y|y <;> (rw[z] at y;cases y)
   ·have hall:=List.all_eq_true.mp k.has
    have hs:(cl.lookup x).isSome=true:=by
     rcases n4 with y|y
     ·have:=hall _ (PySem.mem_of_lookup y)
      simpa using this
     ·have:=hall _ (PySem.mem_of_lookup y)
      simpa using this
    obtain⟨c',hc'⟩:=Option.isSome_iff_exists.mp hs;have z:=k.cl_at hc';rw[hc] at z;cases z;exact⟨c,hc',hcell.elim λo ho=>⟨o,hk _ _ ho.1,ho.2⟩⟩
 ·obtain⟨v,o,ho,hd⟩:=I.cell x c (k.cl_at e)
  exact⟨v,o,hk _ _ ho,hd⟩
 ·obtain⟨e,n,ne,nf,d⟩:=I.pin p (by have hp:p∈(X.pn++pins)++[]:=hp;rw[List.append_nil] at hp;exact hp)
  refine⟨hk _ _ e,n,Nat.ne_of_lt (Nat.lt_of_lt_of_le (Heap.lt_size e) hC),λz=>?_,d⟩;rcases List.mem_cons.mp (I.stkSub _ z) with y|y
  ·exact ne y
  ·exact nf y
 ·show(a1x nt fr σ).length=N.length
  unfold a1x;rw[List.length_append,List.length_replicate,List.length_map,k.len]
theorem Inv.blockEnd{ex:List Addr}{C:Addr}{σ':St}{H H':Hp}{s':Shared}{h'':Heap}{pn' pins':List ↑24}(I:↑13)(hex:∀b∈ex,d4f X pins H b)(J:Inv ↑30 pins' σ' H' s')(hC:s.heap.objs.size<=C)(hs:Heap.SameBut C s'.heap h''):Inv X pins σ H' { s' with heap:=h'' }:=by
 have ne:∀b o,s.heap.get? b=some o->b≠C:=λb o e=>Nat.ne_of_lt (Nat.lt_of_lt_of_le (Heap.lt_size e) hC);refine I.call' (s':={ s' with heap:=h'' }) (ch:=ex) J.os ⟨λb o e n hb hx=>?_,λb o e n hb hx=>?_,J.base.free,λb o e hx=>?_,J.base.tups,J.base.frzs,J.base.tbls⟩ ?_ J.bare λb hb=>⟨(hex b hb).2.2.2.1,(hex b hb).2.1,(hex b hb).2.2.2.2.1,(hex b hb).2.2.2.2.2⟩
 ·exact(hs.2 b (ne b o e)).trans (J.base.keep b o e n hb hx)
 ·obtain⟨sl,e1⟩:=J.base.slot b o e n hb hx
  exact⟨sl,(hs.2 b (ne b o e)).trans e1⟩
 ·obtain⟨o',e1⟩:=J.base.there b o e hx
  exact⟨o',(hs.2 b (ne b o e)).trans e1⟩
 ·exact b7x J.hok λb o u e q=>(hs.2 b (λz=>by
   have:=J.free;rw[show(b8e X N scope cl C s H ex pn').env.locals=C from rfl,<- z,e] at this;cases this)).trans q
noncomputable def c5q(wi:TI)(nt:Nat)(fr:List Nat)(g:TG)(tt:TT)(te:TE):TE:=λσ H Q=>wi σ H λJ H1=>∀D,H1 D=none->∃(n:Nat)(W:Nat->List V->Hp->Prop),W 0 [] (upd H1 D (.lst [])) /\
 ∀i acc H,W i acc H->H D=some (.lst acc)/\acc.length<sizeLine /\
  ((J.stop i H/\Q (.ref D) H)\/(i<n/\J.go i H/\∀x H',J.yld i H x H'->g x (a1x nt fr σ) H' λσ2 H2=>tt σ2 H2 λc H3=>if c=true then (te σ2 H3 λy H4=>H4 D=some (.lst acc)/\W (i+1) ↑41 (upd H4 D (.lst ↑41))) else W (i+1) acc H3))
def PTs(X:Cx)(ifs:List Expr)(t:TT):Prop:=∀(pins:List ↑24)(s:Shared)(σ:St)(H:Hp)(Q:Bool->Hp->Prop),Inv X pins σ H s->t σ H Q->wpAny ↑20 X.A (forIn ifs true λc r=>if r=true then do let ok <- isTrue c X.env (eval c X.env);pure (ForInStep.yield ok) else pure (ForInStep.yield r)) (TP X pins σ Q) X.xe s
theorem d1l:PTs X [] (λ_ H Q=>Q true H):=λ_ s σ H Q I q=>wpAny_tests_nil ⟨H,I,q⟩
theorem c5b{elt iter tg:Expr}{ifs:List Expr}{pos pos':Pos}{wi:TI}{g:TG}{te:TE}{tt:TT}{use:Option (Value->Sem Unit)}{PQ:Value->Shared->Prop}{Q:VK}(hc:X.calm=true)(k:CompOk X N scope cl nt fr)(hi:PI X tg iter wi)(gk:b9y nt g)(hg:∀C s H ex pn',PG ↑30 tg g)(ht:∀C s H ex pn',PTs ↑30 ifs tt)(he:∀C s H ex pn',PE ↑30 elt te)(hs:∀x,foldedSetIterable iter X.env x=pure x)(I:↑13)(h:c5q wi nt fr g tt te σ H Q)(fin:∀{H3:Hp} {s3:Shared} {C D:Addr} {fp:List Addr} {H6:Hp} {s7:Shared},Inv X pins σ H3 s3->(∀b∈fp,d4f X pins H3 b)->s3.heap.objs.size<=C->Inv (b8e X N scope cl C s3 H3 fp (X.pn++pins)) [] (a1x nt fr σ) H6 s7->Q (.ref D) H6->compPost ↑20 X.A X.xe use PQ (.ref D) C (.ok .next) s7):
  wpAny ↑20 X.A (comprehension (.ListComp elt [⟨tg,iter,ifs,0⟩] scope pos) scope X.env pos' (newList []) false (eval iter X.env) use) PQ X.xe s:=by
 refine wpAny_comprehension_free rfl hs k.clos k.kind k.names (thn (hi pins s σ H _ I h) λxv s1 h1=>thn h1 λitv s2 h2=>?_);obtain⟨it,fp,tn,J,H2,rfl,I2,T,st2,f2,R2⟩:=h2;obtain⟨n,W,w0,turn⟩:=R2 _ I2.fresh;have I3:Inv X pins σ (upd H2 s2.heap.objs.size (.lst [])) { s2 with heap:=s2.heap.push { cls:=.type "list",data:=.seq ([]:List Value).toArray } }:=I2.lnew (its:=[]) (t':=s2.toks) .nil (Nat.zero_le _)
 have fp2:∀b∈fp,b<s2.heap.objs.size:=λb hb=>by
  obtain⟨o,e,_⟩:=T.obj _ _ st2 b hb;exact Heap.lt_size e
 have f3:∀b∈fp,d4f X pins (upd H2 s2.heap.objs.size (.lst [])) b:=λb hb=>⟨by rw[c9 (Nat.ne_of_lt (fp2 b hb))];exact(f2 b hb).1,(f2 b hb).2⟩
 refine wpAny_newObj_type (hd:=by show(0:Nat)<=_;exact Nat.zero_le _) ?_
 have hsz:({ s2 with heap:=s2.heap.push { cls:=.type "list",data:=.seq ([]:List Value).toArray } }:Shared).heap.objs.size=s2.heap.objs.size+1:=Heap.size_push _ _
 have kp:∀b o,s2.heap.get? b=some o->({ s2 with heap:=s2.heap.push { cls:=.type "list",data:=.seq ([]:List Value).toArray } }:Shared).heap.get? b=some o:=λb o e=>Heap.get?_push_of_some _ e
 generalize ({ s2 with heap:=s2.heap.push { cls:=.type "list",data:=.seq ([]:List Value).toArray } }:Shared)=s3 at *
 have dn:∀b∈fp,b<s3.heap.objs.size:=λb hb=>by rw[hsz];exact Nat.lt_succ_of_lt (fp2 b hb)
 refine wpAny_newFunctionEnv k.cell (by intro y hy;cases hy) (λh4 hns hsb=>?_) k.kind
 have keep4:∀b o,s3.heap.get? b=some o->h4.get? b=some o:=λb o e=>(hsb.2 b (Nat.ne_of_lt (Heap.lt_size e))).trans (Heap.get?_push_of_some _ e);have I4:=k.start I3 (C:=s3.heap.objs.size) (h':=h4) (t':=s3.toks) (ex:=fp) (λb hb=>⟨f3 b hb,dn b hb⟩) ↑31 hns keep4;have st4:tn 0 h4:=T.keep _ _ _ st2 λb hb o e=>keep4 b o (kp b o e);generalize hC:s3.heap.objs.size=C at I4 hns;have hC3:s3.heap.objs.size<=C:=Nat.le_of_eq hC;generalize hH:upd H2 s2.heap.objs.size (.lst [])=H3 at *;generalize s2.heap.objs.size=D at *;have stat:∀{H':Hp},(∀b∈fp,H' b=none)->∀b∈fp,d4f (b8e X N scope cl C s3 H3 fp (X.pn++pins)) [] H' b:=λ{H'} hn b hb=>by
  refine⟨hn b hb,Nat.ne_of_lt (Nat.lt_of_lt_of_le (dn b hb) hC3),λz=>?_,.inl hb,λx c e=>(f2 b hb).2.2.2.2.1 x c (k.cl_at e),λp hp=>(f2 b hb).2.2.2.2.2 p (by have hp:p∈(X.pn++pins)++[]:=hp;rw[List.append_nil] at hp;exact hp)⟩
  rcases List.mem_cons.mp (I2.stkSub b z) with y|y
  ·exact(f2 b hb).2.1 y
  ·exact(f2 b hb).2.2.1 y
 have loop:∀s5:Shared,s5={ s3 with heap:=h4,toks:=s3.toks }->codeAny (model X.prog X.w) X.A (.compLoop (.ListComp elt [⟨tg,iter,ifs,0⟩] scope pos) 0 (.ref it) (.ref D) (compEnvC scope cl C X.env)) (compPost (model X.prog X.w) X.A X.xe use PQ (.ref D) C) s5:=by
  rintro s5 rfl;refine codeAny_loop rfl (λm s'=>∃i acc H',m=n-i/\Inv (b8e X N scope cl C s3 H3 fp (X.pn++pins)) [] (a1x nt fr σ) H' s'/\tn i s'.heap/\(∀b∈fp,H' b=none)/\W i acc H') ?_ n ⟨0,[],_,rfl,I4,st4,λb hb=>(f3 b hb).1,w0⟩;rintro m s6 ⟨i,acc,H6,rfl,I6,st6,fr6,w6⟩;show wpAny _ _ ((compTurn (.ListComp elt [⟨tg,iter,ifs,0⟩] scope pos) 0 (.ref it) (.ref D) (compEnvC scope cl C X.env)).onRaise (λx=>do noteFrame x (compEnvC scope cl C X.env);theTreesLotGoes x)) _ _ s6
  refine wpAny_noted ?_;rw[compTurn_list];refine wpAny_bind (wpAny_standAt (wpAny_bind ?_));obtain⟨hD6,hz6,alt⟩:=turn i acc H6 w6;rcases alt with ⟨stop,qn⟩|⟨hin,go,step⟩
  ·refine wpAny_mono (T.done (b8e X N scope cl C s3 H3 fp (X.pn++pins)) rfl rfl rfl hc i [] s6 (a1x nt fr σ) H6 (λ_ _=>False) I6 (stat fr6) st6 stop) (λr s7 z0_=>?_) (λ_ _ z=>z.elim)
   obtain⟨hr,I7⟩:=z0_;subst hr;exact wpAny_pure (fin I3 f3 hC3 I7 qn)
  ·refine wpAny_mono (T.item (b8e X N scope cl C s3 H3 fp (X.pn++pins)) rfl rfl rfl hc i [] s6 (a1x nt fr σ) H6 (λ_ _=>False) I6 (stat fr6) st6 go) (λr s7 z0_=>?_) (λ_ _ z=>z.elim)
   obtain⟨u,hr,h7⟩:=z0_;subst hr;refine wpAny_bind (wpAny_mono h7 (λ_ s8 z0_=>?_) (λ_ _ z=>z.elim));obtain⟨x,H8,I8,r8,y8,st8,fr8⟩:=z0_;refine wpAny_bind (wpAny_mono (hg _ _ _ _ _ _ s8 _ H8 x u _ (I8.pinned (stat fr8) (T.obj _ _ st8)) r8 (gk _ _ _ _ (step x H8 y8))) (λ_ s9 z0_=>?_) (λ_ _ z=>z.elim));obtain⟨σ9,H9,I9,k9,q9⟩:=z0_;refine wpAny_bind (wpAny_mono (ht _ _ _ _ _ _ s9 σ9 H9 _ I9 q9) (λok s12 z0_=>?_) (λ_ _ z=>z.elim));obtain⟨H12,I12,q12⟩:=z0_;have weak:∀{H11:Hp}{s11:Shared},Inv (b8e X N scope cl C s3 H3 fp (X.pn++pins)) ([]++c3l fp s8.heap) σ9 H11 s11->Inv (b8e X N scope cl C s3 H3 fp (X.pn++pins)) [] (a1x nt fr σ) H11 s11/\tn (i+1) s11.heap/\∀b∈fp,H11 b=none:=λ{H11 s11} I11=>by
    refine⟨(I11.unpinned (pins:=[])).weak ?_ λj v' e=>?_,?_,λb hb=>?_⟩
    ·rw[I11.len,<- I4.len]
    ·by_cases hj:nt<=j
     ·rw[k9 j hj];exact e
     ·unfold a1x at e
      rw[List.getElem?_append_left (by rw[List.length_replicate];lia),List.getElem?_replicate] at e
      split at e <;> cases e
    ·exact T.keep _ _ _ st8 λb hb o e=>(I11.pin (b,o) (List.mem_append_right _ (List.mem_append_right _ (a9p hb e)))).1
    ·obtain⟨o,e,d⟩:=T.obj _ _ st8 b hb
     exact(I11.pin (b,o) (List.mem_append_right _ (List.mem_append_right _ (a9p hb e)))).2.1
   cases ok with
   | false=>
    rw[if_neg Bool.false_ne_true] at q12;obtain⟨z1,z2,z3⟩:=weak I12;exact wpAny_pure ⟨rfl,n-(i+1),by lia,i+1,acc,_,rfl,z1,z2,z3,q12⟩
   | true=>
    rw[if_pos rfl] at q12;refine wpAny_bind (wpAny_bind (wpAny_mono (he _ _ _ _ _ _ s12 σ9 H12 _ I12 q12) (λv s10 z0_=>?_) (λ_ _ z=>z.elim)));obtain⟨y,H10,I10,r10,hD10,q10⟩:=z0_;refine wpAny_bind (wpAny_mono (c4p (X:=b8e X N scope cl C s3 H3 fp (X.pn++pins)) _ s10 σ9 H10 (.ref D) [y] (.ref D) [v] (λv' H'=>v'=.non/\H'=upd H10 D (.lst ↑41)) I10 rfl (.cons r10 .nil) ⟨_,acc,y,rfl,rfl,hD10,hz6,rfl,rfl⟩) (λv' s11 z0_=>?_) (λ_ _ z=>z.elim));obtain⟨_,H11,I11,_,_,e11⟩:=z0_;subst e11;obtain⟨z1,z2,z3⟩:=weak I11;exact wpAny_pure (wpAny_pure ⟨rfl,n-(i+1),by lia,i+1,acc++[y],_,rfl,z1,z2,z3,q10⟩)
 exact codeAny_compStart_list (loop _ rfl) (T.self _ 0 _ _ _ st4 (loop _ rfl))
theorem d5d{elt iter tg:Expr}{ifs:List Expr}{pos:Pos}{wi:TI}{g:TG}{te:TE}{tt:TT}(hc:X.calm=true)(k:CompOk X N scope cl nt fr)(hi:PI X tg iter wi)(gk:b9y nt g)(hg:∀C s H ex pn',PG ↑30 tg g)(ht:∀C s H ex pn',PTs ↑30 ifs tt)(he:∀C s H ex pn',PE ↑30 elt te)(hs:∀x,foldedSetIterable iter X.env x=pure x):
  PE X (.ListComp elt [⟨tg,iter,ifs,0⟩] scope pos) (c5q wi nt fr g tt te):=by
 fail "i";rw[eval_ListComp];refine c5b hc k hi gk hg ht he hs I h λI3 f3 hC3 I7 qn=>?_;obtain⟨m7,hn7,_⟩:=id I7.loc;exact⟨m7,hn7,λh8 hs8=>⟨.ref _,_,I3.blockEnd f3 I7 hC3 hs8,rfl,qn⟩⟩
theorem c1f{elt iter tg:Expr}{pos:Pos}{wi:TI}{g:TG}{te:TE}(hc:X.calm=true)(k:CompOk X N scope cl nt fr)(hi:PI X tg iter wi)(gk:b9y nt g)(hg:∀C s H ex pn',PG ↑30 tg g)(he:∀C s H ex pn',PE ↑30 elt te)(hs:∀x,foldedSetIterable iter X.env x=pure x:=by intro _;rfl):
  PE X (.ListComp elt [⟨tg,iter,[],0⟩] scope pos) (d8d wi nt fr g te):=d5d hc k hi gk hg (λ_ _ _ _ _=>d1l) he hs
end
structure FnT(P:Program)(w:World)(K:↑28)(mg:Str->Option Value)(base:Heap)(x:Str)(k:Nat)(ps:List Str)(sp:Sp):Prop where
 ex:∃(f:Addr)(fd:FuncData),FnOk P w K mg base (CXK P w) k f fd ps sp/\mg x=some (.ref f)/\keepIn K (.ref f)=true/\Binds K fd ps []
theorem Fun.okX{P:Program}{w:World}{K:Frag}{mg:Str->Option Value}{base:Heap}{x qual:Str}{st:Stmt}{f:Addr}{fd:FuncData}{N ps:List Str}{k:Nat}{sp:Sp}(F:Fun K x qual st f fd)(S:g2 N ps (d7 st))(len:∀vs H Q E,sp vs H Q E->vs.length=ps.length)(hbody:∀(cdv:Value) (A:Around) (outer:List Env) (s:Shared) (H:Hp) (vs:List V) (Q:VK) (E:XK),Room k (A.deeper (envOfC qual (d7 st) s.heap.objs.size f cdv))->sp vs H Q E ->
   ∃t,PSs (c7j (CXK P w) P w K mg base N qual (d7 st) f cdv A outer s H E) (a0d st) t/\t { nx:=λ_ H'=>Q .non H',rt:=Q } (start N vs) H):FnOk P w K mg base (CXK P w) (k+1) f fd ps sp:=by
 obtain⟨oc,od,kV,doc,pm,an,cdv,ct,osl,rfl,lk,hcd⟩:=F.ex;exact e5l lk hcd S len λA outer s H vs Q E hr hsp=>hbody cdv A outer s H vs Q E hr hsp
structure DefT(K:↑28)(mg:Str->Option Value)(x:Str)(st:Stmt)(ps:List Str):Prop where
 ex:∃(f:Addr)(fd:FuncData),Fun K x x st f fd/\mg x=some (.ref f)/\Binds K fd ps []
theorem DefT.fn{P:Program}{w:World}{K:Frag}{mg:Str->Option Value}{base:Heap}{x:Str}{st:Stmt}{N ps:List Str}{k:Nat}{sp:Sp}(D:DefT K mg x st ps)(S:g2 N ps (d7 st))(len:∀vs H Q E,sp vs H Q E->vs.length=ps.length)(hbody:∀(f:Addr) (cdv:Value) (A:Around) (outer:List Env) (s:Shared) (H:Hp) (vs:List V) (Q:VK) (E:XK),Room k (A.deeper (envOfC x (d7 st) s.heap.objs.size f cdv))->sp vs H Q E ->
   ∃t,PSs (c7j (CXK P w) P w K mg base N x (d7 st) f cdv A outer s H E) (a0d st) t/\t { nx:=λ_ H'=>Q .non H',rt:=Q } (start N vs) H):↑901 x (k+1) ps sp:=by
 obtain⟨f,fd,F,hm,hb⟩:=D.ex;exact⟨f,fd,F.okX S len (hbody f),hm,F.kp,hb⟩
theorem DefT.mk'{K:Frag}{h:Heap}{mg:Str->Option Value}{x:Str}{st:Stmt}{ps:List Str}{f:Addr}{oc:Value}{od an:Option Addr}{osl:Array (Option Value)}{kV doc pm cdv ct:Value}(X:K.In h)(G:h.Ns mainGlobals mg)(a:nsIn K mainGlobals x=some (some (.ref f)))(l:K.lookup f=some ⟨oc,od,.func (PySem.W.fnOf x x (a1j st) (a0d st) (d7 st) .none kV doc pm an cdv ct),osl⟩)(c:codeIn K cdv x=true)(k:keepIn K (.ref f)=true)(hb:∀(kV doc pm:Value) (an:Option Addr) (cdv ct:Value) (us:List Value),us.length=ps.length->bindArgs (PySem.W.fnOf x x (a1j st) (a0d st) (d7 st) .none kV doc pm an cdv ct) ⟨us,[]⟩=pure (ps.zip us)):DefT K mg x st ps :=
 have F:=c8o (st:=st) (x:=x) (qual:=x) l c k
 ⟨_,_,F,mg_of X G a,F.binds hb⟩
noncomputable def tFn(sp:Sp)(E:XK)(t:TA):TE:=λσ H Q=>t σ H λvs H1=>sp vs H1 Q E
section
variable{X:Cx}{k j:Nat}{ps:List Str}{sp:Sp}{E:XK}{J:St->XK}{x:Str}{p pos:Pos}{e:Expr}{es:List Expr}{t:TA}
theorem i5(G:FnT X.prog X.w X.K X.mg X.base x k ps sp)(hr:Room j X.A)(hj:k<=j)(hg:Gl X x)(hx:a2s (CXK X.prog X.w) X E)(ha:PA X (e::es) t)(hdb:↑33=false:=by decide)(he:starEach (e::es) X.env=(false,eval e X.env)::starEach es X.env:=by rfl)(hpl:(backTo pos (starEach es X.env)).any (·.1)=false:=by rfl):PE X (.Call (.Name x p) (e::es) [] pos) (tFn sp E t):=by
 obtain⟨f,fd,F,hm,hk,hb⟩:=G.ex;fail "i";refine d8r F (hr.mono hj) hg hm hk hb .nil hx ha hdb he hpl pins s σ H Q I ?_;show t σ H λvs H1=>sp (vs++[]) H1 Q E;simp only[List.append_nil];exact h
theorem d5g{N:List Str}{scope:Scope}{cl:List (Str×Addr)}{C:Addr}{s:Shared}{H:Hp}{ex:List Addr}{pn':List ↑24}:a2s (CXK X.prog X.w) ↑30 E0:=by
 intro pins σ H' s' e s'' I h;obtain⟨_,_,_,_,_,q⟩:=h;exact q.elim
end
section
variable{X:Cx}
theorem v9{x:Str}{n:Int}{pos:Pos}(hm:∃t,X.mg x=some (.int n t))(hg:Gl X x)(hd:↑33=false:=by decide):PE X (.Name x pos) (tC (.int n)):=by
 obtain⟨t,h⟩:=hm;exact c6g hg h ⟨t,rfl⟩ hd
theorem e1o{x:Str}{n:String}{pos:Pos}(hm:X.mg x=none)(hv:bootBuiltins x=some (.type n))(hg:Gl X x)(hn:x≠"__name__":=by decide)(hd:↑33=false:=by decide):PE X (.Name x pos) (tC (.ty n)):=d8s hg hm hv rfl hn hd
theorem d1y{o e:Expr}{to:TE}{t:TA}{apos cpos:Pos}(ho:PE X o to)(ha:PA X [e] t)(hbase:attributeBase o "append" X.env (eval o X.env)=eval o X.env:=by rfl)(hfew:((backTo cpos (starEach [e] X.env)).all (λx=>!x.1) && (backToKw cpos (keywordEach [] X.env)).all (λx=>x.1.isSome) && decide ([e].length+([]:List Keyword).length+(if ([]:List Keyword).isEmpty then 0 else 1)<30))=true:=by rfl)(hline:(apos.endLine == cpos.line)=true:=by rfl)(hs:starEach [e] X.env=(false,eval e X.env)::starEach [] X.env:=by rfl)(hplain:(backTo cpos (starEach [] X.env)).any (·.1)=false:=by rfl):
  PE X (.Call (.Attribute o "append" apos) [e] [] cpos) (tBM X.K "list" c1d to t) :=
 d5f PySem.F.plainAttrs_list PySem.F.slot_list_append PySem.F.type_list_append (λpins s σ H x xs v us Q I rx rs q=>c4p pins s σ H x xs v us Q I rx rs q) ho ha hbase hfew hline hs hplain
def e5s(_ j:Int):Prop:=0<j/\j.natAbs.log2<9000
theorem a2n:OpR X (binaryOp .FloorDiv) (rI e5s λi j=>.int (i / j)):=opI λi j _ _ _ _ _ hc q=>by
 have e:i / j=i.fdiv j:=(Int.fdiv_eq_ediv_of_nonneg i (Int.le_of_lt hc.1)).symm;rw[e] at q;exact floordiv_int (by have:=hc.1;lia) q (.inl (PyProof.noPylong_of_log2 hc.2))
theorem d5w{K:Frag}(h:X.K=K:=by rfl):IxR X (e4h K):=h ▸ d9f
theorem d2t{K:Frag}(h:X.K=K:=by rfl):IxR X (e4g K):=h ▸ e2f
theorem c7t{K:Frag}(h:X.K=K:=by rfl):SlR X (e6a K):=h ▸ d8g
theorem c3q{K:Frag}(h:X.K=K:=by rfl):OpR X (compareOp .In) (rIn K false):=h ▸ d2b
theorem c3p{K:Frag}(h:X.K=K:=by rfl):OpR X (compareOp .NotIn) (rIn K true):=h ▸ c3o
noncomputable def e4j(K:↑28)(n:Nat):R2:=λx y H Q=>∃p q b,x=.ref p/\y=.ref q/\EqD K H (n+1) x y b/\Q (.bl b) H
noncomputable def e6b(K:↑28)(n:Nat):R2:=λx y H Q=>∃p q b,x=.ref p/\y=.ref q/\EqD K H (n+1) x y b/\Q (.bl (!b)) H
theorem b9k{K:Frag}{n:Nat}(hu:X.A.units+(n+1)<cLine)(h:X.K=K:=by rfl):OpR X (compareOp .Eq) (e4j K n):=h ▸ e1t hu
theorem e1r{K:Frag}{n:Nat}(hu:X.A.units+(n+1)<cLine)(h:X.K=K:=by rfl):OpR X (compareOp .NotEq) (e6b K n):=h ▸ e1s hu
def e6d(K:↑28):List V->Hp->VK->Prop:=λxs H Q=>∃x c t cv b,xs=[x,c]/\TyX K H x t/\e3t c=some cv/\kitOne K t cv=some b/\Q (.bl b) H
def e6c(K:↑28):List V->Hp->VK->Prop:=λxs H Q=>∃p ys,xs=[.ref p]/\(SqL K H p ys\/SqT K H p ys)/\Q (.int ys.length) H
def d1h(K:↑28):List V->Hp->VK->Prop:=λxs H Q=>∃p ys,xs=[.ref p]/\(SqL K H p ys\/SqT K H p ys)/\∀l,H l=none->Q (.ref l) (upd H l (.lst ys))
theorem d3v{K:Frag}(h:X.K=K:=by rfl):b8h X (.builtin "isinstance") (e6d K):=h ▸ d6t
theorem d3u{K:Frag}(h:X.K=K:=by rfl):b8h X (.builtin "len") (e6c K):=h ▸ c5d
theorem a0e{K:Frag}(h:X.K=K:=by rfl):b8h X (.type "list") (d1h K):=h ▸ c5c
theorem a0r{K:Frag}{tg l:Expr}{tl:TE}(hl:PE X l tl)(h:X.K=K:=by rfl):PI X tg l (d9g K tl):=h ▸ d8o hl
theorem n9{K:Frag}{o e:Expr}{to:TE}{t:TA}{apos cpos:Pos}(ho:PE X o to)(ha:PA X [e] t)(hK:X.K=K:=by rfl)(hbase:attributeBase o "append" X.env (eval o X.env)=eval o X.env:=by rfl)(hfew:((backTo cpos (starEach [e] X.env)).all (λx=>!x.1) && (backToKw cpos (keywordEach [] X.env)).all (λx=>x.1.isSome) && decide ([e].length+([]:List Keyword).length+(if ([]:List Keyword).isEmpty then 0 else 1)<30))=true:=by rfl)(hline:(apos.endLine == cpos.line)=true:=by rfl)(hs:starEach [e] X.env=(false,eval e X.env)::starEach [] X.env:=by rfl)(hplain:(backTo cpos (starEach [] X.env)).any (·.1)=false:=by rfl):
  PE X (.Call (.Attribute o "append" apos) [e] [] cpos) (tBM K "list" c1d to t):=hK ▸ d1y ho ha hbase hfew hline hs hplain
theorem a9v{N:List Str}{scope:Scope}{nt:Nat}(clos:closureFor scope X.env=pure [])(kind:scope.kind=.function)(cell:∀y∈scope.names,y.2≠.cell)(names:∀y∈scope.names,y.2=.local->scope.names.lookup y.1=some .local)(has:((relabel scope X.env).names.all λy=>!(y.2 == .cell || y.2 == .free) || (([]:List (Str×Addr)).lookup y.1).isSome)=true)(len:N.length=nt):CompOk X N scope [] nt [] :=
 ⟨clos,kind,cell,names,λp hp=>(nomatch hp),has,len,λj i h=>by simp at h⟩
end
theorem huN{k:Nat}{A:Around}(hr:Room k A)(n:Nat)(h:n<=100:=by decide):A.units+n<cLine:=by
 have:=hr.un;lia
theorem c5a{K:Frag}{a:Addr}{xs:List V}{f:V->V}{nt:Nat}{fr:List Nat}{g:TG}{te:TE}{σ:St}{H:Hp}{Q:Addr->Hp->Prop}(hs:SqL K H a xs)(hz:xs.length<sizeLine)(ha:∃o,H a=some o)(he:∀(i:Nat) (x:V) (H':Hp) (k:VK),xs[i]?=some x->Same H H'->k (f x) H'->g x (a1x nt fr σ) H' λσ2 H2=>te σ2 H2 k)(hq:∀D,H D=none->Q D (upd H D (.lst (xs.map f)))):
  ∀D,H D=none->∃(n:Nat)(W:Nat->List V->Hp->Prop),W 0 [] (upd H D (.lst []))/\∀i acc H',W i acc H'->H' D=some (.lst acc)/\acc.length<sizeLine /\
   (((Itl K a).stop i H'/\Q D H')\/(i<n/\(Itl K a).go i H'/\∀x H2,(Itl K a).yld i H' x H2->g x (a1x nt fr σ) H2 λσ2 H3=>te σ2 H3 λy H4=>H4 D=some (.lst acc)/\W (i+1) ↑41 (upd H4 D (.lst ↑41)))):=by
 intro D hD;have sm:∀o,Same H (upd H D o):=λo b u e=>by rw[c9 (i4 e hD)];exact e
 refine⟨xs.length,λi acc H'=>i<=xs.length/\acc=(xs.take i).map f/\H'=upd H D (.lst acc),⟨Nat.zero_le _,rfl,rfl⟩,?_⟩;rintro i acc H' ⟨hi,rfl,rfl⟩;have hl:((xs.take i).map f).length=i:=by rw[List.length_map,List.length_take];lia
 refine⟨d6,by lia,?_⟩
 by_cases h:i<xs.length
 ·refine .inr ⟨h,⟨xs,xs[i],(sm _).seq hs,List.getElem?_eq_getElem h⟩,?_⟩
  rintro x H2 ⟨rfl,hy⟩;have hx:=hy xs ((sm _).seq hs);refine he i x _ _ hx (sm _) ⟨d6,by lia,?_,by rw[c5n]⟩
  have e:xs.take (i+1)=xs.take i++[x]:=by
   rw[List.take_succ,hx];rfl
  rw[e,List.map_append]
  rfl
 ·have e:i=xs.length:=by lia
  subst e;refine .inl ⟨⟨xs,(sm _).seq hs,Nat.le_refl _⟩,?_⟩;rw[List.take_length];exact hq D hD
section
variable{X:Cx}{pins:List ↑24}{σ:St}{H:Hp}{s:Shared}{N:List Str}{scope:Scope}{cl:List (Str×Addr)}{nt:Nat}{fr:List Nat}
theorem c6c{elt iter tg:Expr}{ifs:List Expr}{pos py spos:Pos}{y:Str}{ix:Nat}{wi:TI}{g:TG}{te:TE}{tt:TT}(hc:X.calm=true)(k:CompOk X N scope cl nt fr)(hi:PI X tg iter wi)(gk:b9y nt g)(hg:∀C s H ex pn',PG ↑30 tg g)(ht:∀C s H ex pn',PTs ↑30 ifs tt)(he:∀C s H ex pn',PE ↑30 elt te)(hN:X.N.Nodup)(hi2:X.N[ix]?=some y)(hy:X.env.scope.names.lookup y=some .local)(hsw:swapsWith (.ListComp elt [⟨tg,iter,ifs,0⟩] scope pos) (some (.Name y py)) spos.line X.env=pure true)(hs:∀x,foldedSetIterable iter X.env x=pure x):
  PS X (.Assign [.Name y py] (.ListComp elt [⟨tg,iter,ifs,0⟩] scope pos) spos) (e0y (c5q wi nt fr g tt te) (b8z ix)):=by
 intro pins s σ H DD I h;rw[exec_Assign_Name_used _ _ _ _ hsw];refine wpAny_bind (wpAny_standAt (wpAny_bind ?_));show wpAny _ X.A (do let _ <- comprehension (.ListComp elt [⟨tg,iter,ifs,0⟩] scope pos) scope X.env _ (newList []) false (eval iter X.env) (some (assign (.Name y py) X.env))) _ _ s
 refine wpAny_bind (wpAny_mono (c5b (PQ:=λ_ s'=>SP X pins DD .next s') hc k hi gk hg ht he hs I h λ{H3 s3 C D fp H6 s7} I3 f3 hC3 I7 qn=>?_) (λ_ s' hq=>wpAny_pure (wpAny_pure hq)) λ_ _ e=>e);obtain⟨m7,hn7,_⟩:=id I7.loc;have I7x:Inv X pins σ H6 s7:=I3.blockEnd (h'':=s7.heap) f3 I7 hC3 (.refl ..);show wpAny _ X.A (assign (.Name y py) X.env (.ref D)) _ _ _;refine wpAny_assign_Name (c2r (v:=.ref D) I7x hN hi2 (Or.inl hy) rfl (λs8 I8 z0_=>?_) (Or.inr hy));obtain⟨a8,sb8,or8⟩:=z0_;have no:∀{a:Addr},a<s3.heap.objs.size->a≠C:=λh z=>absurd (Nat.lt_of_lt_of_le (z ▸ h) hC3) (Nat.lt_irrefl _);have ne8:C≠a8:=λz=>by
  rcases or8 with q|q
  ·exact no I3.lt (q.symm.trans z.symm)
  ·obtain⟨v8,q8⟩:=I3.cell _ _ q
   exact no q8.lt z.symm
 refine⟨m7,hn7.sameBut sb8 ne8,λh9 hs9=>⟨_,H6,?_,qn⟩⟩;refine I8.turned (it:=C) (t':=s8.toks) (λb o hb e=>(hs9.2 b hb).trans e) I7.free (Nat.ne_of_gt (Nat.lt_of_lt_of_le I3.lt hC3)) (.inr (Nat.le_trans I3.sz hC3)) (λx c e z=>?_) (λp hp z=>no (Heap.lt_size (I3.pin p hp).1) z);obtain⟨v8,q8⟩:=I3.cell x c e;exact no q8.lt z
theorem a6i{elt iter tg:Expr}{pos py spos:Pos}{y:Str}{ix:Nat}{wi:TI}{g:TG}{te:TE}(hc:X.calm=true)(k:CompOk X N scope cl nt fr)(hi:PI X tg iter wi)(gk:b9y nt g)(hg:∀C s H ex pn',PG ↑30 tg g)(he:∀C s H ex pn',PE ↑30 elt te)(hN:X.N.Nodup)(hi2:X.N[ix]?=some y)(hy:X.env.scope.names.lookup y=some .local)(hsw:swapsWith (.ListComp elt [⟨tg,iter,[],0⟩] scope pos) (some (.Name y py)) spos.line X.env=pure true:=by rfl)(hs:∀x,foldedSetIterable iter X.env x=pure x:=by intro _;rfl):
  PS X (.Assign [.Name y py] (.ListComp elt [⟨tg,iter,[],0⟩] scope pos) spos) (e0y (d8d wi nt fr g te) (b8z ix)):=c6c hc k hi gk hg (λ_ _ _ _ _=>d1l) he hN hi2 hy hsw hs
end
theorem d0n{n:Nat}{nt:Nat}{fr:List Nat}{g:TG}{te:TE}{σ:St}{H:Hp}{Q:Addr->Hp->Prop}(hz:n<sizeLine)(Pv:Addr->Nat->List V->Hp->Prop)(h0:∀D,H D=none->Pv D 0 [] (upd H D (.lst [])))(hk:∀D i acc H',Pv D i acc H'->H' D=some (.lst acc)/\acc.length=i)(hs:∀D i acc H',H D=none->i<n->Pv D i acc H'->g (.int (0+(i:Int))) (a1x nt fr σ) H' λσ2 H2=>te σ2 H2 λy H3=>H3 D=some (.lst acc)/\Pv D (i+1) ↑41 (upd H3 D (.lst ↑41)))(hd:∀D acc H',H D=none->Pv D n acc H'->Q D H'):
  ∀D,H D=none->∃(m:Nat)(W:Nat->List V->Hp->Prop),W 0 [] (upd H D (.lst []))/\∀i acc H',W i acc H'->H' D=some (.lst acc)/\acc.length<sizeLine /\
   (((Itr 0 n).stop i H'/\Q D H')\/(i<m/\(Itr 0 n).go i H'/\∀x H2,(Itr 0 n).yld i H' x H2->g x (a1x nt fr σ) H2 λσ2 H3=>te σ2 H3 λy H4=>H4 D=some (.lst acc)/\W (i+1) ↑41 (upd H4 D (.lst ↑41)))):=by
 intro D hD;refine⟨n,λi acc H'=>i<=n/\Pv D i acc H',⟨Nat.zero_le _,h0 D hD⟩,?_⟩;rintro i acc H' ⟨hi,p⟩;obtain⟨k1,k2⟩:=hk D i acc H' p;refine⟨k1,by lia,?_⟩
 by_cases h:i<n
 ·refine .inr ⟨h,h,?_⟩
  rintro x H2 ⟨rfl,rfl⟩;have key:=hs D i acc _ hD h p;have e:(λ(σ2:St) (H2:Hp)=>te σ2 H2 λy H3=>H3 D=some (.lst acc)/\Pv D (i+1) ↑41 (upd H3 D (.lst ↑41)))=(λ(σ2:St) (H3:Hp)=>te σ2 H3 λy H4=>H4 D=some (.lst acc)/\i+1<=n/\Pv D (i+1) ↑41 (upd H4 D (.lst ↑41))):=by
   funext σ2 H3;have:(λ(y:V) (H3:Hp)=>H3 D=some (.lst acc)/\Pv D (i+1) ↑41 (upd H3 D (.lst ↑41)))=(λ(y:V) (H4:Hp)=>H4 D=some (.lst acc)/\i+1<=n/\Pv D (i+1) ↑41 (upd H4 D (.lst ↑41))):=by
    funext y H4;have h1:i+1<=n:=h;simp[h1]
   rw[this]
  rw[e] at key;exact key
 ·have e:i=n:=by lia
  subst e;exact .inl ⟨Nat.le_refl _,hd D acc H' hD p⟩
theorem c8x{X:Cx}{N:List Str}{scope:Scope}{x:Str}{c:Addr}{nt i:Nat}(clos:closureFor scope X.env=pure [(x,c)])(kind:scope.kind=.function)(cell:∀y∈scope.names,y.2≠.cell)(names:∀y∈scope.names,y.2=.local->scope.names.lookup y.1=some .local)(sub:X.env.cells.lookup x=some c)(has:((relabel scope X.env).names.all λy=>!(y.2 == .cell || y.2 == .free) || ([(x,c)].lookup y.1).isSome)=true)(len:N.length=nt+1)(hN:N[nt]?=some x)(hX:X.N[i]?=some x)(hk:X.env.kindOf x=some .cell)(hr:(relabel scope X.env).names.lookup x=some .cell):CompOk X N scope [(x,c)] nt [i] :=
 ⟨clos,kind,cell,names,λp hp=>(by
  rw[List.mem_singleton] at hp;subst hp;exact sub),has,len,λj i' h=>(by
  cases j with
  | zero=>cases h;exact⟨x,hN,hX,.inl hk,.inl hr⟩
  | succ j=>cases h)⟩
section
variable{X:Cx}
theorem c6e{K:Frag}{es:List Expr}{k:Nat}{t:TGs}{n:Nat}{pos:Pos}(hc:X.calm=true)(h:PGs X es t)(hK:X.K=K:=by rfl)(hn:(assignEach es X.env).length=n:=by rfl)(hst:(assignEach es X.env).findIdx? (·.1)=none:=by rfl):PG X (.Tuple es k pos) (e5k K n t):=hK ▸ e1m hc h hn hst
theorem d6r{N:List Str}{scope:Scope}{x y:Str}{c d:Addr}{nt i j:Nat}(clos:closureFor scope X.env=pure [(x,c),(y,d)])(kind:scope.kind=.function)(cell:∀y∈scope.names,y.2≠.cell)(names:∀y∈scope.names,y.2=.local->scope.names.lookup y.1=some .local)(sub:X.env.cells.lookup x=some c)(sub2:X.env.cells.lookup y=some d)(has:((relabel scope X.env).names.all λz=>!(z.2 == .cell || z.2 == .free) || ([(x,c),(y,d)].lookup z.1).isSome)=true)(len:N.length=nt+2)(hN:N[nt]?=some x)(hN2:N[nt+1]?=some y)(hX:X.N[i]?=some x)(hX2:X.N[j]?=some y)(hk:X.env.kindOf x=some .cell)(hk2:X.env.kindOf y=some .cell)(hr:(relabel scope X.env).names.lookup x=some .cell)(hr2:(relabel scope X.env).names.lookup y=some .cell):CompOk X N scope [(x,c),(y,d)] nt [i,j] :=
 ⟨clos,kind,cell,names,λp hp=>(by
  simp only[List.mem_cons,List.not_mem_nil,or_false] at hp;rcases hp with rfl|rfl
  ·exact sub
  ·exact sub2),has,len,λm i' h=>(by
  match m,h with
  | 0,h=>cases h;exact⟨x,hN,hX,.inl hk,.inl hr⟩
  | 1,h=>cases h;exact⟨y,hN2,hX2,.inl hk2,.inl hr2⟩
  | m+2,h=>cases h)⟩
theorem d2a:OpR X (compareOp .IsNot) (λx y H Q=>∃a b,x=.bl a/\y=.bl b/\Q (.bl (a != b)) H):=by
 intro pins s σ H x y v u Q I rx ry h;obtain⟨a,b,rfl,rfl,q⟩:=h;cases rx;cases ry;exact PyProof.Rows.isnot_bool (a9f I q rfl)
end
structure ExM(mg:Str->Option Value)(x:Str)(C:Addr):Prop where
 m:mg x=some (.ref C)
open SeqAt
noncomputable def d9x(s:Stmt):List Stmt:=match s with
 | .ClassDef _ _ _ b ..=>b
 | _=>[]
noncomputable def m8(s:Stmt)(j:Nat):Stmt:=(d9x s).getD j (.Pass ⟨0,0,0,0⟩)
structure MethT(P:Program)(w:World)(K:↑28)(mg:Str->Option Value)(base:Heap)(C:Addr)(m:Str)(k:Nat)(ps:List Str)(sp:Sp):Prop where
 ex:∃(f:Addr)(fd:FuncData),FnOk P w K mg base (CXK P w) k f fd ps sp/\e3l K C m f/\Binds K fd ps []
structure DefM(K:↑28)(C:Addr)(m qual:Str)(st:Stmt)(ps:List Str):Prop where
 ex:∃(f:Addr)(fd:FuncData),Fun K m qual st f fd/\e3l K C m f/\Binds K fd ps []
theorem DefM.fn{P:Program}{w:World}{K:Frag}{mg:Str->Option Value}{base:Heap}{C:Addr}{m qual:Str}{st:Stmt}{N ps:List Str}{k:Nat}{sp:Sp}(D:DefM K C m qual st ps)(S:g2 N ps (d7 st))(len:∀vs H Q E,sp vs H Q E->vs.length=ps.length)(hbody:∀(f:Addr) (cdv:Value) (A:Around) (outer:List Env) (s:Shared) (H:Hp) (vs:List V) (Q:VK) (E:XK),Room k (A.deeper (envOfC qual (d7 st) s.heap.objs.size f cdv))->sp vs H Q E ->
   ∃t,PSs (c7j (CXK P w) P w K mg base N qual (d7 st) f cdv A outer s H E) (a0d st) t/\t { nx:=λ_ H'=>Q .non H',rt:=Q } (start N vs) H):↑904 C m (k+1) ps sp:=by
 obtain⟨f,fd,F,hm,hb⟩:=D.ex;exact⟨f,fd,F.okX S len (hbody f),hm,hb⟩
theorem DefM.mk'{K:Frag}{C:Addr}{m qual:Str}{st:Stmt}{ps:List Str}{f:Addr}{oc:Value}{od an:Option Addr}{osl:Array (Option Value)}{kV doc pm cdv ct:Value}(a:findIn K (.ref C) m=some (some (.ref f)))(i:isFn K (.ref f)=true)(l:K.lookup f=some ⟨oc,od,.func (PySem.W.fnOf m qual (a1j st) (a0d st) (d7 st) .none kV doc pm an cdv ct),osl⟩)(c:codeIn K cdv qual=true)(k:keepIn K (.ref f)=true)(hb:∀(kV doc pm:Value) (an:Option Addr) (cdv ct:Value) (us:List Value),us.length=ps.length->bindArgs (PySem.W.fnOf m qual (a1j st) (a0d st) (d7 st) .none kV doc pm an cdv ct) ⟨us,[]⟩=pure (ps.zip us)):DefM K C m qual st ps :=
 have F:=c8o (st:=st) (x:=m) (qual:=qual) l c k
 ⟨_,_,F,⟨a,i,k⟩,F.binds hb⟩
structure MakeT(P:Program)(w:World)(K:↑28)(mg:Str->Option Value)(base:Heap)(x:Str)(C:Addr)(k:Nat)(ps:List Str)(sp:Sp):Prop where
 ex:∃(f:Addr)(fd:FuncData),FnOk P w K mg base (CXK P w) k f fd ps sp/\Mk K C f/\mg x=some (.ref C)/\Binds K fd ps []
theorem MethT.make{P:Program}{w:World}{K:Frag}{mg:Str->Option Value}{base:Heap}{x:Str}{C:Addr}{k:Nat}{ps:List Str}{sp:Sp}(M:↑904 C "__init__" k ps sp)(mk:makesIn K C=true)(kp:keepIn K (.ref C)=true)(hm:mg x=some (.ref C)):
  MakeT P w K mg base x C k ps sp:=by
 obtain⟨f,fd,F,hM,hb⟩:=M.ex;exact⟨f,fd,F,⟨mk,hM.at_,hM.fn,kp⟩,hm,hb⟩
noncomputable def tMt(C:Addr)(m:Str)(sp:Sp)(E:XK)(ta:TE)(t:TA):TE:=λσ H Q=>ta σ H λx H1=>∃a dx fs,x=.ref a/\H1 a=some ↑40/\fs.lookup m=none/\t σ H1 λvs H2=>sp (x::vs) H2 Q E
noncomputable def tMk(C:Addr)(sp:Sp)(E:XK)(t:TA):TE:=λσ H Q=>t σ H λvs H1=>∀x dx,H1 x=none->H1 dx=none->dx≠x ->
 sp (.ref x::vs) (upd (upd H1 dx (.own x)) x (.ins C dx [])) (λv H2=>v=.non/\Q (.ref x) H2) E
section
variable{X:Cx}{k j:Nat}{C:Addr}{ps:List Str}{sp:Sp}{E:XK}{J:St->XK}{x m:Str}{p pos apos:Pos}{e o:Expr}{es:List Expr}{ta:TE}{t:TA}{pl:Sem Bool}
theorem a3m(he:PE X o ta)(c:Cls X.K C)(G:MethT X.prog X.w X.K X.mg X.base C m k ps sp)(hr:Room j X.A)(hj:k<=j)(hx:a2s (CXK X.prog X.w) X E)(ha:PA X (e::es) t)(hst:starEach (e::es) X.env=(false,eval e X.env)::starEach es X.env:=by rfl)(hpl:(backTo pos (starEach es X.env)).any (·.1)=false:=by rfl)(ht:eval (.Call (.Attribute o m apos) (e::es) [] pos) X.env=(do
   let ov <- eval o X.env
   standAt apos.atName
   let (f,first) <- holding [ov] (getMethod ov m pl)
   callWith pos f first (backTo pos (starEach (e::es) X.env)) (backToKw pos (keywordEach [] X.env))):=by rfl):
  PE X (.Call (.Attribute o m apos) (e::es) [] pos) (tMt C m sp E ta t):=by
 obtain⟨f,fd,F,hm,hb⟩:=G.ex;fail "i";refine d8p (ds:=[]) (dvs:=[]) he c hm F (hr.mono hj) hb .nil hx ha hst hpl ht pins s σ H Q I ?_;show ta σ H λx H1=>∃a dx fs,x=.ref a/\H1 a=some ↑40/\fs.lookup m=none/\t σ H1 λvs H2=>sp (x::(vs++[])) H2 Q E;simp only[List.append_nil];exact h
theorem c8a(he:PE X o ta)(c:Cls X.K C)(G:MethT X.prog X.w X.K X.mg X.base C m k ps sp)(hr:Room j X.A)(hj:k<=j)(hx:a2s (CXK X.prog X.w) X E)(ht:eval (.Call (.Attribute o m apos) [] [] pos) X.env=(do
   let ov <- eval o X.env
   standAt apos.atName
   let (f,first) <- holding [ov] (getMethod ov m pl)
   callWith pos f first (backTo pos (starEach [] X.env)) (backToKw pos (keywordEach [] X.env))):=by rfl):
  PE X (.Call (.Attribute o m apos) [] [] pos) (tMt C m sp E ta d6v):=by
 obtain⟨f,fd,F,hm,hb⟩:=G.ex;exact d5c (ds:=[]) (dvs:=[]) he c hm F (hr.mono hj) hb .nil hx ht
theorem d1u(G:MakeT X.prog X.w X.K X.mg X.base x C k ps sp)(hr:Room j X.A)(hj:k+1<=j)(hg:Gl X x)(hx:a2s (CXK X.prog X.w) X E)(ha:PA X (e::es) t)(hdb:↑33=false:=by decide)(he:starEach (e::es) X.env=(false,eval e X.env)::starEach es X.env:=by rfl)(hpl:(backTo pos (starEach es X.env)).any (·.1)=false:=by rfl):PE X (.Call (.Name x p) (e::es) [] pos) (tMk C sp E t):=by
 obtain⟨f,fd,F,M,hm,hb⟩:=G.ex;fail "i";refine d8q (ds:=[]) (dvs:=[]) M F (hr.mono hj) hg hm hb .nil hx ha hdb he hpl pins s σ H Q I ?_;show t σ H λvs H1=>∀x dx,H1 x=none->H1 dx=none->dx≠x->sp (.ref x::(vs++[])) (upd (upd H1 dx (.own x)) x (.ins C dx [])) (λv H2=>v=.non/\Q (.ref x) H2) E;simp only[List.append_nil];exact h
end
section
variable{X:Cx}{o e value:Expr}{f:Str}{pos pos' tpos:Pos}{ta tv:TE}
theorem z9{K:Frag}(he:PE X e ta)(hK:X.K=K:=by rfl)(hb:attributeBase e f X.env (eval e X.env)=eval e X.env:=by rfl):PE X (.Attribute e f pos) (e4b K ta f):=hK ▸ e1p he hb
theorem j3{K:Frag}(ha:PE X o ta)(hv:PE X value tv)(hK:X.K=K:=by rfl)(hs:swapsWith value (some (.Attribute o f pos')) pos.line X.env=pure false:=by rfl):PS X (.Assign [.Attribute o f pos'] value pos) (e4d K ta tv f):=hK ▸ e1j ha hv hs
theorem c9q{K:Frag}{op:Operator}{rd:V->V->Hp->VK->Prop}(ha:PE X o ta)(hv:PE X value tv)(hop:e5q X op rd)(hK:X.K=K:=by rfl):PS X (.AugAssign (.Attribute o f tpos) op value pos) (c6a K ta tv rd f):=hK ▸ d1m ha hv hop
end
def KTup(K:↑28)(p:Addr)(xs:List V):Prop:=∃(its:Array Value)(n:Nat)(sl:Array (Option Value)),K.lookup p=some ⟨.type "tuple",none,.seq its n,sl⟩/\its.size<=sizeLine/\Vals xs its.toList
theorem KTup.sq{K:Frag}{p:Addr}{xs:List V}{H:Hp}(h:KTup K p xs):SqT K H p xs:=by obtain⟨its,n,sl,a,b,c⟩:=h;exact .inr ⟨_,its,n,a,rfl,rfl,b,c⟩
theorem KTup.ty{K:Frag}{p:Addr}{xs:List V}{H:Hp}(h:KTup K p xs):tyV K "tuple" (.ref p) H:=by obtain⟨_,_,_,a,_,_⟩:=h;exact .inr (.inl ⟨rfl,_,a,rfl,rfl⟩)
theorem a7h{X:Cx}{x:Str}{a:Addr}{pos:Pos}(hm:X.mg x=some (.ref a))(hg:Gl X x)(hd:↑33=false:=by decide):PE X (.Name x pos) (tC (.ref a)):=c6g hg hm rfl hd
theorem c2q(l:Addr)(a b:Value)(n:Nat)(dd:Option Addr)(sl:Array (Option Value))(x:Value)(e:Value->Bool)(j:Nat)(hj:j=if e a then 0 else 1)(hit:e a=true\/e b=true):
  Meets (Builtin.«tuple.index» ⟨[.ref l,x],[]⟩)
   (λA R s=>s.heap.get? l=some { cls:=.type "tuple",dict:=dd,data:=.seq #[a,b] n,slots:=sl }/\(∀y,y ∈ #[a,b]->EqAt A.in1 s y x (e y))/\R (.ok (.ret (.int j s.toks))) { s with toks:=s.toks+1 }):=by
 intro prog w A R s h;obtain⟨hp,g,d,tk,os⟩:=s;obtain⟨hl,he,h⟩:=h;unfold Builtin.«tuple.index»;simp only[Std.Legacy.Range.forIn_eq_forIn_range']
 wp_walk using wpAny_loadPart' hl
 have e0:[:min #[a,b].size #[a,b].size].size=2:=by simp[Std.Legacy.Range.size]
 generalize hL:[:min #[a,b].size #[a,b].size].size=N at e0 ⊢;subst e0;change wpAny ↑38 A.in1 (List.forIn'.loop [0,1] _ [0,1] (none,()) _) _ _ _;change wpAny ↑38 A.in1 ((eqBool a x >>= _) >>= _) _ _ _;refine wpAny_bind ?_;refine wpAny_bind (he a (by simp) prog w _ _ ?_)
 cases ea:e a with
 | true=>
  rw[ea] at hj;subst hj
  wp_walk
  exact h
 | false=>
  rw[ea] at hj;subst hj;refine wpAny_pure ?_;change wpAny ↑38 A.in1 ((eqBool b x >>= _) >>= _) _ _ _;refine wpAny_bind ?_;refine wpAny_bind (he b (by simp) prog w _ _ ?_)
  rw[hit.resolve_left (by rw[ea];exact Bool.false_ne_true)]
  wp_walk
  exact h
def d1i(K:↑28):V->List V->Hp->VK->Prop:=λx vs H Q=>∃p y z1 z2,x=.ref p/\vs=[y]/\KTup K p [z1,z2]/\a6l z1=true/\a6l z2=true/\a6l y=true/\(eqV z1 y=true\/eqV z2 y=true)/\Q (.int (if eqV z1 y then 0 else 1)) H
section
variable{X:Cx}
theorem d2k:MtM X "tuple.index" (d1i X.K):=by
 intro pins s σ H x vs v us Q I rx rv h;obtain⟨p,y,z1,z2,rfl,rfl,⟨its,n,sl,lk,hz,r⟩,f1,f2,fy,hit,q⟩:=h;cases rx;obtain⟨u,rfl,ru⟩:=rv.one;obtain⟨u1,u2,eu,r1,r2⟩:=r.two;have hi:its=#[u1,u2]:=by apply Array.toList_inj.mp;rw[eu]
 subst hi;have e:=I.kIn _ _ lk;have fx:([z1,z2]:List V).all a6l=true:=by simp[f1,f2]
 have h1:eqU y u1=eqV z1 y:=c8w r1 f1;have h2:eqU y u2=eqV z2 y:=c8w r2 f2;refine call_meets F.slot_tuple_index ⟨_,e,rfl⟩ F.entry_tuple_index (F.args_tuple_index_2 _ _) (c2q p u1 u2 n none sl u (eqU y) (if eqU y u1 then 0 else 1) rfl (by rw[h1,h2];exact hit)) ⟨e,λw hw=>a9q ru fy r fx w (by simpa using hw),?_⟩
 rw[h1];refine⟨.int (if eqV z1 y then 0 else 1),H,I.tok _,?_,q⟩;by_cases c:eqV z1 y=true
 ·rw[if_pos c,if_pos c];exact⟨_,rfl⟩
 ·rw[if_neg c,if_neg c];exact⟨_,rfl⟩
theorem c9r{K:Frag}{o e:Expr}{to:TE}{t:TA}{apos cpos:Pos}(ho:PE X o to)(ha:PA X [e] t)(hK:X.K=K:=by rfl)(hbase:attributeBase o "index" X.env (eval o X.env)=eval o X.env:=by rfl)(hfew:((backTo cpos (starEach [e] X.env)).all (λx=>!x.1) && (backToKw cpos (keywordEach [] X.env)).all (λx=>x.1.isSome) && decide ([e].length+([]:List Keyword).length+(if ([]:List Keyword).isEmpty then 0 else 1)<30))=true:=by rfl)(hline:(apos.endLine == cpos.line)=true:=by rfl)(hs:starEach [e] X.env=(false,eval e X.env)::starEach [] X.env:=by rfl)(hplain:(backTo cpos (starEach [] X.env)).any (·.1)=false:=by rfl):
  PE X (.Call (.Attribute o "index" apos) [e] [] cpos) (tBM K "tuple" (d1i K) to t) :=
 hK ▸ d5f PySem.F.plainAttrs_tuple PySem.F.slot_tuple_index PySem.F.type_tuple_index (λpins s σ H x xs v us Q I rx rs q=>d2k pins s σ H x xs v us Q I rx rs q) ho ha hbase hfew hline hs hplain
noncomputable def e6u(K:↑28)(n:Nat):R2:=λx y H Q=>rEq x y H Q\/e4j K n x y H Q
theorem d8v{K:Frag}{n:Nat}(hu:X.A.units+(n+1)<cLine)(h:X.K=K:=by rfl):OpR X (compareOp .Eq) (e6u K n):=by
 intro pins s σ H x y v u Q I rx ry hq;rcases hq with hq|hq
 ·exact v3 pins s σ H x y v u Q I rx ry hq
 ·exact b9k hu h pins s σ H x y v u Q I rx ry hq
end
section
variable{K:Frag}{σ:St}{H:Hp}{Q:VK}{i:Nat}{v x y:V}{r:R2}{ta tb:TE}{nx bk ct:St->Hp->Prop}{rt:VK}{E:XK}{C:Addr}{m:Str}{sp:Sp}{t:TA}{J:St->XK}
theorem e4o(h:σ[i]?=some (some v))(q:Q v H):e3m i σ H Q:=⟨v,h,q⟩
theorem g_c(q:Q v H):tC v σ H Q:=q
theorem e7a(q:ta σ H λx H1=>tb σ H1 λy H2=>r x y H2 Q):tOp r ta tb σ H Q:=q
theorem e6w{r:V->Hp->VK->Prop}(q:ta σ H λx H1=>r x H1 Q):tUn r ta σ H Q:=q
theorem e7k{g:Int->Int->V}{a b:Int}(q:Q (g a b) H):rI0 g (.int a) (.int b) H Q:=⟨a,b,rfl,rfl,q⟩
theorem g_I{c:Int->Int->Prop}{g:Int->Int->V}{a b:Int}(h:c a b)(q:Q (g a b) H):rI c g (.int a) (.int b) H Q:=⟨a,b,rfl,rfl,h,q⟩
theorem g_U{g:Int->V}{a:Int}(q:Q (g a) H):rU g (.int a) H Q:=⟨a,rfl,q⟩
theorem e6h(h:e3n x y=true)(q:Q (.bl (decide (x=y))) H):rEq x y H Q:=⟨h,q⟩
theorem e7b(h:e3n x y=true)(q:Q (.bl (!decide (x=y))) H):rNe x y H Q:=⟨h,q⟩
theorem d3i{n:Nat}{p q:Addr}{b:Bool}(h:EqD K H (n+1) (.ref p) (.ref q) b)(z:Q (.bl b) H):e4j K n (.ref p) (.ref q) H Q:=⟨p,q,b,rfl,rfl,h,z⟩
theorem e4y{n:Nat}{p q:Addr}{b:Bool}(h:EqD K H (n+1) (.ref p) (.ref q) b)(z:Q (.bl (!b)) H):e6b K n (.ref p) (.ref q) H Q:=⟨p,q,b,rfl,rfl,h,z⟩
theorem w9{p:Addr}{xs:List V}{j:Int}(h:H p=some (.lst xs))(e:atI xs j=some v)(q:Q v H):e4h K (.ref p) (.int j) H Q:=⟨p,xs,j,v,rfl,rfl,SqL.of h,e,q⟩
theorem e5c{p:Addr}{xs:List V}{j:Int}(h:H p=some (.tup xs))(e:atI xs j=some v)(q:Q v H):e4g K (.ref p) (.int j) H Q:=⟨p,xs,j,v,rfl,rfl,SqT.of h,e,q⟩
theorem e5b{p:Addr}{xs:List V}(h:H p=some (.lst xs))(q:Q (.int xs.length) H):e6c K [.ref p] H Q:=⟨p,xs,rfl,.inl (SqL.of h),q⟩
theorem e2y{p:Addr}{xs:List V}(h:H p=some (.lst xs))(q:∀l,H l=none->Q (.ref l) (upd H l (.lst xs))):d1h K [.ref p] H Q:=⟨p,xs,rfl,.inl (SqL.of h),q⟩
theorem e7h{r:List V->Hp->VK->Prop}(q:t σ H λvs H1=>r vs H1 Q):tCB r t σ H Q:=q
theorem e4x{Q:List V->Hp->Prop}(q:Q [] H):d6v σ H Q:=q
theorem e3e{Q:List V->Hp->Prop}(q:ta σ H λx H1=>t σ H1 λxs H2=>Q (x::xs) H2):d4u ta t σ H Q:=q
theorem e4q(q:t σ H λxs H1=>xs.length<=sizeLine/\∀p,H1 p=none->Q (.ref p) (upd H1 p (.tup xs))):e5t t σ H Q:=q
theorem e5a(q:t σ H λxs H1=>xs.length<=sizeLine/\∀p,H1 p=none->Q (.ref p) (upd H1 p (.lst xs))):e5x t σ H Q:=q
theorem e7f(q:t σ H λvs H1=>sp vs H1 Q E):tFn sp E t σ H Q:=q
theorem e5g{f:Str}(q:ta σ H λx H1=>∃a C dx fs v,x=.ref a/\H1 a=some ↑40/\Cls K C/\NoAttr K C f/\fs.lookup f=some v/\Q v H1):e4b K ta f σ H Q:=q
theorem e3b{f:Str}{a dx:Addr}{fs:List (Str×V)}{R:V->Prop}(h:H a=some ↑40)(c:Cls K C)(n:NoAttr K C f)(l:fs.lookup f=some v)(q:R v):
  ∃a' C dx fs v,V.ref a=.ref a'/\H a'=some ↑40/\Cls K C/\NoAttr K C f/\fs.lookup f=some v/\R v:=⟨a,C,dx,fs,v,rfl,h,c,n,l,q⟩
theorem e7c(q:ta σ H λx H1=>∃a dx fs,x=.ref a/\H1 a=some ↑40/\fs.lookup m=none/\t σ H1 λvs H2=>sp (x::vs) H2 Q E):tMt C m sp E ta t σ H Q:=q
theorem e4z{a dx:Addr}{fs:List (Str×V)}{R:Prop}(h:H a=some ↑40)(l:fs.lookup m=none)(q:R):∃a' dx fs,V.ref a=.ref a'/\H a'=some ↑40/\fs.lookup m=none/\R:=⟨a,dx,fs,rfl,h,l,q⟩
theorem e7d(q:t σ H λvs H1=>∀x dx,H1 x=none->H1 dx=none->dx≠x->sp (.ref x::vs) (upd (upd H1 dx (.own x)) x (.ins C dx [])) (λv H2=>v=.non/\Q (.ref x) H2) E):tMk C sp E t σ H Q:=q
theorem e2o{Q:Bool->Hp->Prop}(q:ta σ H λx H'=>∃k,x=.bl k/\Q k H'):d8b ta σ H Q:=q
theorem e6x{Q:Bool->Hp->Prop}(q:ta σ H λx H'=>∃k,x=.bl k/\Q k H'):tB ta σ H Q:=q
theorem e7j{Q:Bool->Prop}{b:Bool}(q:Q b):∃k,V.bl b=.bl k/\Q k:=⟨b,rfl,q⟩
theorem e5j{u w:TT}{Q:Bool->Hp->Prop}(q:u σ H λc H1=>if c=true then w σ H1 Q else Q false H1):e5z u w σ H Q:=q
theorem e6z{u w:TT}{Q:Bool->Hp->Prop}(q:u σ H λc H1=>if c=true then Q true H1 else w σ H1 Q):tOr u w σ H Q:=q
theorem e4w{u:TT}{Q:Bool->Hp->Prop}(q:u σ H λc H1=>Q (!c) H1):e5w u σ H Q:=q
theorem e3i(q:ta σ H λx H1=>∃c,x=.bl c/\if c=true then tb σ H1 Q else Q (.bl false) H1):e0z ta tb σ H Q:=q
theorem e4v(q:ta σ H λx H1=>∃c,x=.bl c/\if c=true then Q (.bl true) H1 else tb σ H1 Q):e5v ta tb σ H Q:=q
theorem e2u(q:ta σ H λx H1=>∃c,x=.bl c/\Q (.bl (!c)) H1):e0q ta σ H Q:=q
theorem e5e{u:TT}(q:u σ H λc H1=>if c=true then ta σ H1 Q else tb σ H1 Q):tIf u ta tb σ H Q:=q
theorem e2v(q:nx σ H):d8c ⟨nx,rt,bk,ct⟩ σ H:=q
theorem e3c(q:ta σ H λ_ H1=>nx σ H1):e0t ta ⟨nx,rt,bk,ct⟩ σ H:=q
theorem e4s(q:ta σ H rt):e5u ta ⟨nx,rt,bk,ct⟩ σ H:=q
theorem e7e{c:TT}{s u:TS}{D:d7m}(q:c σ H λb H1=>if b=true then s D σ H1 else u D σ H1):e4a c s u D σ H:=q
theorem e5i{g:TG}(q:ta σ H λx H1=>g x σ H1 nx):e0y ta g ⟨nx,rt,bk,ct⟩ σ H:=q
theorem d3f{k:St->Hp->Prop}(q:k (σ.set i (some v)) H):b8z i v σ H k:=q
theorem e4r{ts:e3u}{k:St->Hp->Prop}(q:ta σ H λo H1=>tb σ H1 λj H2=>ts o j v H2 λH3=>k σ H3):e6i ta tb ts v σ H k:=q
theorem b9t{p:Addr}{xs:List V}{z:Int}{j:Nat}{k:Hp->Prop}(h:H p=some (.lst xs))(e:ixN xs.length z=some j)(q:k (upd H p (.lst (xs.set j v)))):e1h (.ref p) (.int z) v H k:=⟨p,xs,z,j,rfl,rfl,h,e,q⟩
theorem e2p{f:Str}(q:tb σ H λy H1=>ta σ H1 λx H2=>∃a C dx fs,x=.ref a/\H2 a=some ↑40/\Cls K C/\NoAttr K C f/\fs.length<1000/\nx σ (upd H2 a (.ins C dx (b8p f y fs)))):e4d K ta tb f ⟨nx,rt,bk,ct⟩ σ H:=q
theorem d9r{f:Str}{a dx:Addr}{fs:List (Str×V)}{R:Addr->Addr->Addr->List (Str×V)->Prop}(h:H a=some ↑40)(c:Cls K C)(n:NoAttr K C f)(l:fs.length<1000)(q:R a C dx fs):
  ∃a' C dx fs,V.ref a=.ref a'/\H a'=some ↑40/\Cls K C/\NoAttr K C f/\fs.length<1000/\R a' C dx fs:=⟨a,C,dx,fs,rfl,h,c,n,l,q⟩
theorem e5h{f:Str}{rd:V->V->Hp->VK->Prop}(q:ta σ H λx H1=>∃a C dx fs v,x=.ref a/\H1 a=some ↑40/\Cls K C/\NoAttr K C f/\fs.lookup f=some v /\
  tb σ H1 λy H2=>rd v y H2 λz H3=>∃dx' fs',H3 a=some (.ins C dx' fs')/\fs'.length<1000/\nx σ (upd H3 a (.ins C dx' (b8p f z fs')))):c6a K ta tb rd f ⟨nx,rt,bk,ct⟩ σ H:=q
theorem e3h{f:Str}{a dx:Addr}{fs:List (Str×V)}{R:Addr->Addr->V->Prop}(h:H a=some ↑40)(c:Cls K C)(n:NoAttr K C f)(l:fs.lookup f=some v)(q:R a C v):
  ∃a' C dx fs v,V.ref a=.ref a'/\H a'=some ↑40/\Cls K C/\NoAttr K C f/\fs.lookup f=some v/\R a' C v:=⟨a,C,dx,fs,v,rfl,h,c,n,l,q⟩
theorem e3g{a dx:Addr}{fs:List (Str×V)}{R:Addr->List (Str×V)->Prop}(h:H a=some ↑40)(l:fs.length<1000)(q:R dx fs):
  ∃dx' fs',H a=some (.ins C dx' fs')/\fs'.length<1000/\R dx' fs':=⟨dx,fs,h,l,q⟩
theorem e2s{a b:Int}(q:Q (.int (a+b)) H):e6f (.int a) (.int b) H Q:=⟨a,b,rfl,rfl,q⟩
theorem e5d{t cv:Value}{c:V}{b:Bool}(ty:TyX K H x t)(hc:e3t c=some cv)(hk:kitOne K t cv=some b)(q:Q (.bl b) H):e6d K [x,c] H Q:=⟨x,c,t,cv,b,rfl,ty,hc,hk,q⟩
theorem e7i{T:String}{r:V->List V->Hp->VK->Prop}(q:ta σ H λx H1=>tyV K T x H1/\t σ H1 λxs H2=>r x xs H2 Q):tBM K T r ta t σ H Q:=q
theorem d6m{p:Addr}{xs:List V}(h:H p=some (.lst xs))(l:xs.length<sizeLine)(q:Q .non (upd H p (.lst (xs++[y])))):c1d (.ref p) [y] H Q:=⟨p,xs,y,rfl,rfl,h,l,q⟩
theorem e4p{p:Addr}{xs:List V}{R:Prop}(h:H p=some (.lst xs))(q:R):tyV K "list" (.ref p) H/\R:=⟨.inl ⟨rfl,xs,SqL.of h⟩,q⟩
theorem d6l{p q:Addr}{xs ys:List V}(h:H p=some (.lst xs))(h':H q=some (.lst ys))(l:xs.length+ys.length<=sizeLine)(k:∀z,H z=none->Q (.ref z) (upd H z (.lst (xs++ys)))):e6e (.ref p) (.ref q) H Q:=⟨p,q,xs,ys,rfl,rfl,h,h',l,k⟩
end
theorem a1y{c:Prop}[Decidable c]{A B:Prop}(h1:c->A)(h2:¬ c->B):if decide c=true then A else B:=by
 by_cases h:c
 ·rw[decide_eq_true h];exact e3r (h1 h)
 ·rw[decide_eq_false h];exact e2g (h2 h)
theorem d7e{c:Prop}[Decidable c]{A B:Prop}(h1:¬ c->A)(h2:c->B):if (!decide c)=true then A else B:=by
 by_cases h:c
 ·rw[decide_eq_true h];exact e2g (h2 h)
 ·rw[decide_eq_false h];exact e3r (h1 h)
theorem d3g{b:Bool}{A B:Prop}(h1:b=true->A)(h2:b=false->B):if b=true then A else B:=by
 cases b
 ·exact e2g (h2 rfl)
 ·exact e3r (h1 rfl)
section
variable{K:Frag}{σ:St}{H:Hp}{ta:TE}{t:TA}
theorem e5f{wi:TI}{g:TG}{tb:TS}{D:d7m}(q:wi σ H λJ H1=>∃W:Nat->Nat->St->Hp->Prop,(∃m,W 0 m σ H1)/\∀i m σ H,W i m σ H ->
  (J.stop i H/\D.nx σ H)\/(J.go i H/\∃N:St->Hp->Prop,(∀σ' H',N σ' H'->∃m',m'<m/\W (i+1) m' σ' H')/\∀x H',J.yld i H x H'->g x σ H' λσ2 H2=>tb { D with nx:=N,ct:=N,bk:=D.nx } σ2 H2)):e5y wi g tb D σ H:=q
theorem e2r{R:It->Hp->Prop}(q:t σ H λvs H1=>∃j:Int,vs=[.int j]/\-(2 ^ 62)<=j/\j<2 ^ 62/\R (Itr 0 j.toNat) H1):e2j t σ H R:=q
theorem d7d{N:Int}{R:Int->Prop}(h1:-(2 ^ 62)<=N)(h2:N<2 ^ 62)(q:R N):∃j,[V.int N]=[.int j]/\-(2 ^ 62)<=j/\j<2 ^ 62/\R j:=⟨N,rfl,h1,h2,q⟩
theorem e2w{R:It->Hp->Prop}(q:ta σ H λx H1=>∃a,x=.ref a/\(∃xs,SqL K H1 a xs)/\R (Itl K a) H1):d9g K ta σ H R:=q
theorem e2x{a:Addr}{xs:List V}{R:Addr->Prop}(h:SqL K H a xs)(q:R a):∃a',V.ref a=.ref a'/\(∃xs,SqL K H a' xs)/\R a':=⟨a,rfl,⟨xs,h⟩,q⟩
theorem e3f{wi:TI}{nt:Nat}{fr:List Nat}{g:TG}{te:TE}{Q:VK}(q:wi σ H λJ H1=>∀D,H1 D=none->∃(n:Nat) (W:Nat->List V->Hp->Prop),W 0 [] (upd H1 D (.lst [])) /\
 ∀i acc H,W i acc H->H D=some (.lst acc)/\acc.length<sizeLine /\
  ((J.stop i H/\Q (.ref D) H)\/(i<n/\J.go i H/\∀x H',J.yld i H x H'->g x (a1x nt fr σ) H' λσ2 H2=>te σ2 H2 λy H3=>H3 D=some (.lst acc)/\W (i+1) ↑41 (upd H3 D (.lst ↑41))))):d8d wi nt fr g te σ H Q:=q
theorem e4m{A B:Prop}(h:B):if (!true)=true then A else B:=h
theorem e4n{A B:Prop}(h:A):if (!false)=true then A else B:=h
theorem a4e{a:Addr}{xs:List V}{nt:Nat}{fr:List Nat}{g:TG}{te:TE}{Q:Addr->Hp->Prop}(hz:xs.length<sizeLine)(Pv:Addr->Nat->List V->Hp->Prop)(h0:∀D,H D=none->Pv D 0 [] (upd H D (.lst [])))(hk:∀D i acc H',Pv D i acc H'->H' D=some (.lst acc)/\acc.length=i/\SqL K H' a xs)(hs:∀D i x acc H',H D=none->xs[i]?=some x->Pv D i acc H'->g x (a1x nt fr σ) H' λσ2 H2=>te σ2 H2 λy H3=>H3 D=some (.lst acc)/\Pv D (i+1) ↑41 (upd H3 D (.lst ↑41)))(hd:∀D acc H',H D=none->Pv D xs.length acc H'->Q D H'):
  ∀D,H D=none->∃(m:Nat)(W:Nat->List V->Hp->Prop),W 0 [] (upd H D (.lst []))/\∀i acc H',W i acc H'->H' D=some (.lst acc)/\acc.length<sizeLine /\
   (((Itl K a).stop i H'/\Q D H')\/(i<m/\(Itl K a).go i H'/\∀x H2,(Itl K a).yld i H' x H2->g x (a1x nt fr σ) H2 λσ2 H3=>te σ2 H3 λy H4=>H4 D=some (.lst acc)/\W (i+1) ↑41 (upd H4 D (.lst ↑41)))):=by
 intro D hD;refine⟨xs.length,λi acc H'=>i<=xs.length/\(i<xs.length->Pv D i acc H')/\(i=xs.length->Pv D i acc H'),⟨Nat.zero_le _,λ_=>h0 D hD,λ_=>h0 D hD⟩,?_⟩;rintro i acc H' ⟨hi,p1,p2⟩;have p:Pv D i acc H':=by
  by_cases h:i<xs.length
  ·exact p1 h
  ·exact p2 ↑2
 obtain⟨k1,k2,k3⟩:=hk D i acc H' p;refine⟨k1,by lia,?_⟩
 by_cases h:i<xs.length
 ·refine .inr ⟨h,⟨xs,xs[i],k3,List.getElem?_eq_getElem h⟩,?_⟩
  rintro x H2 ⟨rfl,hy⟩;have ex:xs[i]?=some x:=hy xs k3;have key:=hs D i x acc _ hD ex p;have e:(λ(σ2:St) (H2:Hp)=>te σ2 H2 λy H3=>H3 D=some (.lst acc)/\Pv D (i+1) ↑41 (upd H3 D (.lst ↑41)))=(λ(σ2:St) (H3:Hp)=>te σ2 H3 λy H4=>H4 D=some (.lst acc)/\i+1<=xs.length/\(i+1<xs.length->Pv D (i+1) ↑41 (upd H4 D (.lst ↑41)))/\(i+1=xs.length->Pv D (i+1) ↑41 (upd H4 D (.lst ↑41)))):=by
   funext σ2 H3;have:(λ(y:V) (H3:Hp)=>H3 D=some (.lst acc)/\Pv D (i+1) ↑41 (upd H3 D (.lst ↑41)))=(λ(y:V) (H4:Hp)=>H4 D=some (.lst acc)/\i+1<=xs.length/\(i+1<xs.length->Pv D (i+1) ↑41 (upd H4 D (.lst ↑41)))/\(i+1=xs.length->Pv D (i+1) ↑41 (upd H4 D (.lst ↑41)))):=by
    funext y H4;apply propext;constructor
    ·rintro⟨z1,z2⟩
     exact⟨z1,h,λ_=>z2,λ_=>z2⟩
    ·rintro⟨z1,z2,z3,z4⟩
     refine⟨z1,?_⟩;by_cases hh:i+1<xs.length
     ·exact z3 hh
     ·exact z4 ↑2
   rw[this]
  rw[e] at key;exact key
 ·have hi':i=xs.length:=by lia
  subst hi';exact .inl ⟨⟨xs,k3,Nat.le_refl _⟩,hd D acc H' hD p⟩
end
noncomputable def KDict(P:Program)(w:World)(K:↑28)(d:Addr)(kvs:List (Str×Value)):Prop :=
 (d == sysModules)=false/\∃(es:Array DictEntry)(ep:Nat),K.lookup d=some ⟨.type "dict",none,.dict es ep,#[]⟩/\KeysOf (strKind P w) es/\Pairs (strKind P w) es.toList kvs/\(kvs.map (·.1)).Nodup
theorem KDict.at{P:Program}{w:World}{K:Frag}{d:Addr}{kvs:List (Str×Value)}{h:Heap}(x:KDict P w K d kvs)(k:K.In h):h.DictOf (strKind P w) d kvs:=by
 obtain⟨_,es,ep,lk,a,b,c⟩:=x;exact⟨_,es,ep,k _ _ lk,⟨rfl,rfl,rfl⟩,rfl,a,b,c⟩
noncomputable def e0e(w:World)(ps:List (Str×Tok×Value)):List DictEntry:=ps.map λp=>⟨hashStr w p.1,.str p.1 p.2.1,p.2.2⟩
theorem KDict.mk'{P:Program}{w:World}{K:Frag}{d:Addr}{ps:List (Str×Tok×Value)}{ep:Nat}(hd:(d == sysModules)=false)(l:K.lookup d=some ⟨.type "dict",none,.dict (e0e w ps).toArray ep,#[]⟩)(n:(ps.map (·.1)).Nodup):
  KDict P w K d (ps.map λp=>(p.1,p.2.2)):=by
 refine⟨hd,_,ep,l,?_,?_,?_⟩
 ·intro e he
  simp only[List.mem_toArray] at he;obtain⟨p,_,rfl⟩:=List.mem_map.mp he;exact⟨p.1,strKind_is P w p.1 p.2.1,rfl⟩
 ·show Pairs _ (e0e w ps) _
  clear l n
  induction ps with
  | nil=>exact .nil
  | cons p ps ih=>exact .cons (strKind_is P w p.1 p.2.1) rfl ih
 ·rw[List.map_map]
  exact n
section
variable{X:Cx}
noncomputable def e6t(P:Program)(w:World)(K:↑28):R2:=λx y H Q=>∃(d:Addr)(z:Str)(kvs:List (Str×Value)),x=.str z/\y=.ref d/\KDict P w K d kvs/\Q (.bl (valueAt kvs z).isSome) H
theorem d2c{K:Frag}(h:X.K=K:=by rfl):OpR X (compareOp .In) (e6t X.prog X.w K):=by
 subst h;intro pins s σ H x y v u Q I rx ry hq;obtain⟨d,z,kvs,rfl,rfl,kd,q⟩:=hq;obtain⟨t,rfl⟩:=rx;cases ry;exact wpAny_in_of (strKind_is X.prog X.w z t) kd.1 (kd.at I.kIn).mapOf ⟨.bl _,H,I.tok _,rfl,q⟩
noncomputable def e4f(P:Program)(w:World)(K:↑28):R2:=λx y H Q=>∃(d:Addr)(z:Str)(kvs:List (Str×Value))(u:Value)(v:V),x=.ref d/\y=.str z/\KDict P w K d kvs/\valueAt kvs z=some u/\RelV v u/\Q v H
theorem d5x{K:Frag}(h:X.K=K:=by rfl):IxR X (e4f X.prog X.w K):=by
 subst h;intro value slice pins s σ H x y v u Q I rx ry hq hs;obtain⟨d,z,kvs,u',v',rfl,rfl,kd,hv,rv,q⟩:=hq;cases rx;obtain⟨t,rfl⟩:=ry;have dd:=kd.at (P:=X.prog) (w:=X.w) I.kIn;exact subscriptTail_builtinR (x:=u') dd.typeIs PySem.F.slot_dict_getitem.lookup (wpAny_getItem_of (strKind_is X.prog X.w z t) dd.mapOf hv ⟨rfl,v',H,I.tok _,rv,q⟩) hs
structure FnV(P:Program)(w:World)(K:↑28)(mg:Str->Option Value)(base:Heap)(f:Addr)(k:Nat)(ps:List Str)(sp:Sp):Prop where
 ex:∃fd:FuncData,FnOk P w K mg base (CXK P w) k f fd ps sp/\keepIn K (.ref f)=true/\Binds K fd ps []
theorem FnV.mono{P:Program}{w:World}{K:Frag}{mg:Str->Option Value}{base:Heap}{f:Addr}{j k:Nat}{ps:List Str}{sp:Sp}(F:FnV P w K mg base f j ps sp)(h:j<=k):FnV P w K mg base f k ps sp:=by
 obtain⟨fd,F,a,b⟩:=F.ex;exact⟨fd,F.mono h,a,b⟩
noncomputable def e0w(P:Program)(w:World)(K:↑28)(mg:Str->Option Value)(base:Heap)(k i:Nat)(E:XK)(t:TA):TE:=λσ H Q=>∃f ps sp,σ[i]?=some (some (.ref f))/\FnV P w K mg base f k ps sp/\t σ H λvs H1=>sp vs H1 Q E
variable{k j i:Nat}{E:XK}{x:Str}{p pos:Pos}{e:Expr}{es:List Expr}{t:TA}
theorem b6g(hi:X.N[i]?=some x)(hv:Vis X.env.scope x)(hr:Room j X.A)(hj:k<=j)(hx:a2s (CXK X.prog X.w) X E)(ha:PA X (e::es) t)(hd:↑33=false:=by decide)(hcd:(x == ("__classdict__":Str))=false:=by decide)(he:starEach (e::es) X.env=(false,eval e X.env)::starEach es X.env:=by rfl)(hpl:(backTo pos (starEach es X.env)).any (·.1)=false:=by rfl):
  PE X (.Call (.Name x p) (e::es) [] pos) (e0w X.prog X.w X.K X.mg X.base k i E t):=by
 fail "i";obtain⟨f,ps,sp,ef,F,q⟩:=h;obtain⟨fd,F,hk,hb⟩:=F.ex;have hp:=d6y hi hv hd hcd (pos:=p) pins s σ H (λv H'=>v=.ref f/\H'=H) I ⟨.ref f,ef,rfl,rfl⟩;refine wpAny_Call_Name_kw (thn hp λu s1 z0_=>?_);obtain⟨v,H',I1,rv,ev,eH⟩:=z0_;subst ev;subst eH;cases rv;refine callWith_K (h₀:=X.base) I.ok.mod.kin hk (thn (ha pos pins s1 σ H' _ I1 q) λus s2 z0_=>?_) he hpl;obtain⟨vs,H1,I2,r,q2⟩:=z0_;refine⟨I2.kIn,?_⟩;refine b5o (ds:=[]) (dvs:=[]) F (hr.mono hj) hb .nil hx I2 r ?_;simp only[List.append_nil];exact q2
structure e6o(K:↑28)(C:Addr)(m:Str)(f:Addr):Prop where
 ga:specialIn K (.ref C) "__getattribute__" = some (some (.builtin "type.__getattribute__"))
 mc:∃mc,PySem.W.readsIn K C mc=true/\PySem.W.findCls K (.ref C) mc m=some (.val (.ref f))
 kp:keepIn K (.ref f)=true
structure d4g(P:Program)(w:World)(K:↑28)(mg:Str->Option Value)(base:Heap)(x:Str)(m:Str)(k:Nat)(ps:List Str)(sp:Sp):Prop where
 ex:∃(C f:Addr)(fd:FuncData),FnOk P w K mg base (CXK P w) k f fd ps sp/\e6o K C m f/\mg x=some (.ref C)/\Binds K fd ps []
variable{m:Str}{apos:Pos}{ps:List Str}{sp:Sp}{pl:Sem Bool}
theorem d1x(G:d4g X.prog X.w X.K X.mg X.base x m k ps sp)(hr:Room j X.A)(hj:k<=j)(hg:Gl X x)(hx:a2s (CXK X.prog X.w) X E)(ha:PA X (e::es) t)(hdb:↑33=false:=by decide)(hst:starEach (e::es) X.env=(false,eval e X.env)::starEach es X.env:=by rfl)(hpl:(backTo pos (starEach es X.env)).any (·.1)=false:=by rfl)(ht:eval (.Call (.Attribute (.Name x p) m apos) (e::es) [] pos) X.env=(do
   let ov <- eval (.Name x p) X.env
   standAt apos.atName
   let (f,first) <- holding [ov] (getMethod ov m pl)
   callWith pos f first (backTo pos (starEach (e::es) X.env)) (backToKw pos (keywordEach [] X.env))):=by rfl):
  PE X (.Call (.Attribute (.Name x p) m apos) (e::es) [] pos) (tFn sp E t):=by
 obtain⟨C,f,fd,F,M,hm,hb⟩:=G.ex;fail "i";have hp:=c6g (X:=X) (x:=x) (v:=.ref C) (pos:=p) hg hm rfl hdb pins s σ H (λv H'=>v=.ref C/\H'=H) I ⟨rfl,rfl⟩;refine PySem.W.methodCall_KW (pl:=pl) (thn hp λu s1 z0_=>?_) ht;obtain⟨v,H',I1,rv,ev,eH⟩:=z0_;subst ev;subst eH;cases rv;obtain⟨mc,hrd,hfc⟩:=M.mc;refine PySem.W.method_cls I1.kIn M.ga (PySem.W.cls_value I1.kIn hrd hfc rfl ?_);have I2:=I1.tok (s1.toks+1);refine callWith_K (h₀:=X.base) I.ok.mod.kin M.kp (thn (ha pos pins _ σ H' _ I2 h) λus s2 z0_=>?_) hst hpl;obtain⟨vs,H2,I3,r,q2⟩:=z0_;refine⟨I3.kIn,?_⟩;refine b5o (ds:=[]) (dvs:=[]) F (hr.mono hj) hb .nil hx I3 r ?_;simp only[List.append_nil];exact q2
end
noncomputable def e3y(P:Program)(w:World)(K:↑28)(mg:Str->Option Value)(base:Heap)(k:Nat)(m:Str)(E:XK)(ta:TE)(t:TA):TE:=λσ H Q=>ta σ H λx H1=>∃a C dx fs ps sp,x=.ref a/\H1 a=some ↑40/\fs.lookup m=none/\Cls K C/\MethT P w K mg base C m k ps sp/\t σ H1 λvs H2=>sp (x::vs) H2 Q E
section
variable{X:Cx}{k j:Nat}{E:XK}{m:Str}{pos apos:Pos}{e o:Expr}{es:List Expr}{ta:TE}{t:TA}{pl:Sem Bool}
theorem c7z(he:PE X o ta)(hr:Room j X.A)(hj:k<=j)(hx:a2s (CXK X.prog X.w) X E)(ha:PA X (e::es) t)(hst:starEach (e::es) X.env=(false,eval e X.env)::starEach es X.env:=by rfl)(hpl:(backTo pos (starEach es X.env)).any (·.1)=false:=by rfl)(ht:eval (.Call (.Attribute o m apos) (e::es) [] pos) X.env=(do
   let ov <- eval o X.env
   standAt apos.atName
   let (f,first) <- holding [ov] (getMethod ov m pl)
   callWith pos f first (backTo pos (starEach (e::es) X.env)) (backToKw pos (keywordEach [] X.env))):=by rfl):
  PE X (.Call (.Attribute o m apos) (e::es) [] pos) (e3y X.prog X.w X.K X.mg X.base k m E ta t):=by
 fail "i";refine PySem.W.methodCall_KW (pl:=pl) (thn (he pins s σ H _ I h) λu s1 z0_=>?_) ht;obtain⟨x,H1,I1,rx,a,C,dx,fs,ps,sp,ex,ea,l,c,G,q⟩:=z0_;obtain⟨f,fd,F,hm,hb⟩:=G.ex;subst ex;obtain rfl:u=Value.ref a:=rx;refine a9s I1 ea c hm l ?_;refine callWith_K (first:=[.ref a]) (h₀:=X.base) I.ok.mod.kin hm.kp (thn (ha pos pins s1 σ H1 _ I1 q) λus s2 z0_=>?_) hst hpl
 obtain⟨vs,H2,I2,r,q2⟩:=z0_;refine⟨I2.kIn,?_⟩;refine b5o (us:=.ref a::us) (vs:=.ref a::vs) (ds:=[]) (dvs:=[]) F (hr.mono hj) hb .nil hx I2 (.cons rfl r) ?_;simp only[List.append_nil];exact q2
theorem a0h(he:PE X o ta)(hr:Room j X.A)(hj:k<=j)(hx:a2s (CXK X.prog X.w) X E)(ht:eval (.Call (.Attribute o m apos) [] [] pos) X.env=(do
   let ov <- eval o X.env
   standAt apos.atName
   let (f,first) <- holding [ov] (getMethod ov m pl)
   callWith pos f first (backTo pos (starEach [] X.env)) (backToKw pos (keywordEach [] X.env))):=by rfl):
  PE X (.Call (.Attribute o m apos) [] [] pos) (e3y X.prog X.w X.K X.mg X.base k m E ta d6v):=by
 fail "i";refine PySem.W.methodCall_KW (pl:=pl) (thn (he pins s σ H _ I h) λu s1 z0_=>?_) ht;obtain⟨x,H1,I1,rx,a,C,dx,fs,ps,sp,ex,ea,l,c,G,q⟩:=z0_;obtain⟨f,fd,F,hm,hb⟩:=G.ex;subst ex;obtain rfl:u=Value.ref a:=rx;refine a9s I1 ea c hm l ?_;refine PySem.W.callWith_K0 (first:=[.ref a]) I1.kIn hm.kp (b5o (us:=[.ref a]) (vs:=[.ref a]) (ds:=[]) (dvs:=[]) F (hr.mono hj) hb .nil hx I1 (.cons rfl .nil) ?_)
 exact q
end
theorem d6k{P:Program}{w:World}{K:Frag}{mg:Str->Option Value}{base:Heap}{k:Nat}{m:Str}{E:XK}{ta:TE}{t:TA}{σ:St}{H:Hp}{Q:VK}(q:ta σ H λx H1=>∃a C dx fs ps sp,x=.ref a/\H1 a=some ↑40/\fs.lookup m=none/\Cls K C/\MethT P w K mg base C m k ps sp/\t σ H1 λvs H2=>sp (x::vs) H2 Q E):e3y P w K mg base k m E ta t σ H Q:=q
noncomputable def e6k(K:↑28)(ta:TE)(f:Str):TG:=λv σ H Q=>ta σ H λx H1=>∃a C dx fs,x=.ref a/\H1 a=some ↑40/\Cls K C/\NoAttr K C f/\fs.length<1000/\Q σ (upd H1 a (.ins C dx (b8p f v fs)))
theorem d1t{X:Cx}{K:Frag}{o:Expr}{f:Str}{pos:Pos}{ta:TE}(ha:PE X o ta)(hK:X.K=K:=by rfl):PG X (.Attribute o f pos) (e6k K ta f):=by
 subst hK;intro pins s σ H v u Q I r h;rw[assign_Attribute];refine wpAny_bind (wpAny_holding (thn (ha pins s σ H _ I h) λov s1 z0_=>?_));obtain⟨x,H1,I1,rx,a,C,dx,fs,ex,ea,c,n,l,q⟩:=z0_;subst ex;obtain rfl:ov=Value.ref a:=rx;refine wpAny_bind (wpAny_standAt (wpAny_bind (wpAny_holding (b3s I1 ea c n l r λs2 I2=>?_))));exact wpAny_release ⟨σ,_,I2,q⟩
theorem b8o(r:Addr)(a b c i:Int)(t u v ti:Tok):
  Meets (Builtin.«range.__contains__» ⟨[.ref r,.int i ti],[]⟩) (λ_ R s=>s.heap.get? r=some { cls:=.type "range",dict:=none,data:=.fields #[.int a t,.int b u,.int c v],slots:=#[] }/\R (.ok (.ret (.bool (Builtin.Range.rangePlace? a b c i).isSome))) s) :=
 .of_wp λprog w A R s h=>by obtain⟨hp,g,d,tk,os⟩:=s;obtain⟨hl,h⟩:=h;wp_walk;exact⟨_,rfl,h⟩
theorem b8j{prog:Program}{w:World}{A:Around}{E:Value->Shared->Prop}{s:Shared}{r:Addr}{a b c i:Int}{t u v ti:Tok}{Q:Value->Shared->Prop}(hr:IsRange s.heap r a b c t u v)(h:Q (.bool (Builtin.Range.rangePlace? a b c i).isSome) s):wpAny ↑38 A (compareOp .In (.int i ti) (.ref r)) Q E s:=by
 have hT:s.TypeIs (.ref r) "range":=⟨_,hr,rfl⟩;show wpAny _ _ (do return .bool (<- contains (.ref r) (.int i ti))) Q E s
 refine wpAny_bind ?_;unfold contains
 try with_reducible refine wpAny_holding ?_
 refine wpAny_bind (wpAny_specialOf hT F.slot_range_contains.lookup ?_);show wpAny _ _ (if (some (Value.builtin "range.__contains__") == some Value.none)=true then _ else _) _ E s;rw[if_neg (by rw[beq_builtin_none];exact Bool.false_ne_true)]
 refine wpAny_bind (wpAny_callSpecialUnlessNone?_slot (name:=Str.ofString "__contains__") hT F.slot_range_contains
  (call_meets F.slot_range_contains hT F.entry_range_contains (F.args_range_contains_2 _ _) (b8o r a b c i t u v ti) ⟨hr,?_⟩))
 exact wpAny_truthy_bool (wpAny_pure h)
noncomputable def d6w(ta:TE)(tn:TA):TE:=λσ H Q=>ta σ H λx H1=>tn σ H1 λvs H2=>∃i n:Int,x=.int i/\vs=[.int n]/\Q (.bl (decide (0<=i/\i<n))) H2
theorem d1s(i n:Int):(Builtin.Range.rangePlace? 0 n 1 i).isSome=decide (0<=i/\i<n):=by
 unfold Builtin.Range.rangePlace?;by_cases h:0<=i/\i<n
 ·simp[h]
 ·simp[h]
theorem c8b{X:Cx}{a e:Expr}{ta:TE}{tn:TA}{p cp pos:Pos}(hg:Gl X "range")(hm:X.mg "range" = none)(ha:PE X a ta)(he:PA X [e] tn)(hb:behindInMarks .In (.Call (.Name "range" p) [e] [] cp)=false:=by rfl)(hs:starEach [e] X.env=[(false,eval e X.env)]:=by rfl):
  PE X (.Compare a [.In] [.Call (.Name "range" p) [e] [] cp] pos) (d6w ta tn):=by
 fail "i";refine wpAny_Compare1 (thn (ha pins s σ H _ I h) λiv s1 z0_=>?_) hb;obtain⟨x,H1,I1,rx,q1⟩:=z0_;refine Call_ (c4t I1 hg hm boot_range (PyProof.Rows.callWith_type1 (thn (he cp pins s1 σ H1 _ I1 q1) λus s2 z0_=>?_) hs rfl));obtain⟨vs,H2,I2,r2,q2⟩:=z0_;obtain⟨i,n,ex,ev,q⟩:=q2;subst ex;subst ev;obtain⟨ti,rfl⟩:=rx;cases r2 with
 | cons r rr=>
  cases rr;obtain⟨t,rfl⟩:=r;refine call_range_1 (b8j (IsRange.new ..) ?_);rw[d1s];exact⟨.bl _,H2,I2.kept (λb o e=>Heap.get?_push_of_some _ e),rfl,q⟩
section
variable{κ:Type}[DecidableEq κ]
noncomputable def c9e(kvs:List (κ×V))(k:κ):Option V:=(kvs.find? λkv=>decide (kv.1=k)).map (·.2)
noncomputable def b5q(kvs:List (κ×V))(k:κ)(v:V):List (κ×V) :=
 if (kvs.any λkv=>decide (kv.1=k))=true then kvs.map (λkv=>if kv.1=k then (kv.1,v) else kv) else kvs++[(k,v)]
theorem b9z{p:κ×V}{r:List (κ×V)}{k:κ}(e:p.1=k):c9e (p::r) k=some p.2:=by simp[c9e,List.find?_cons,e]
theorem c0a{p:κ×V}{r:List (κ×V)}{k:κ}(e:¬ p.1=k):c9e (p::r) k=c9e r k:=by simp[c9e,List.find?_cons,e]
theorem c7n(k:κ):∀kvs:List (κ×V),(kvs.any λkv=>decide (kv.1=k))=(c9e kvs k).isSome
 | []=>rfl
 | p::r=>by
  rw[List.any_cons];by_cases e:p.1=k
  ·simp only[b9z e,decide_eq_true e,Bool.true_or,Option.isSome_some]
  ·rw[c0a e,decide_eq_false e,Bool.false_or];exact c7n k r
theorem b2g(kvs:List (κ×V))(k:κ)(v:V):(b5q kvs k v).length<=kvs.length+1:=by
 unfold b5q;split
 ·rw[List.length_map];lia
 ·rw[List.length_append,List.length_cons,List.length_nil];lia
theorem RelO.isSome_eq{o:Option V}{u:Option Value}(r:RelO o u):o.isSome=u.isSome:=by
 cases o with
 | none=>cases u with
  | none=>rfl
  | some _=>exact(show False from r).elim
 | some _=>cases u with
  | none=>exact(show False from r).elim
  | some _=>rfl
theorem KV.val{kvs:List (κ×V)}{vs:List (κ×Value)}(r:KV kvs vs)(k:κ):RelO (c9e kvs k) (valueAt vs k):=by
 unfold KV at r
 induction r with
 | nil=>exact True.intro
 | @cons p q ps qs h t ih=>
  obtain⟨h1,h2⟩:=h;by_cases e:p.1=k
  ·have e':q.1=k:=h1.symm.trans e
   have b:valueAt (q::qs) k=some q.2:=by simp[valueAt,List.find?_cons,e']
   rw[b9z e,b];exact h2
  ·have e':¬ q.1=k:=λz=>e (h1.trans z)
   have b:valueAt (q::qs) k=valueAt qs k:=by simp[valueAt,List.find?_cons,e']
   rw[c0a e,b];exact ih
theorem KV.any{kvs:List (κ×V)}{vs:List (κ×Value)}(r:KV kvs vs)(k:κ):(kvs.any λkv=>decide (kv.1=k))=vs.any λkv=>decide (kv.1=k):=by
 unfold KV at r
 induction r with
 | nil=>rfl
 | cons h t ih=>rw[List.any_cons,List.any_cons,ih,h.1]
theorem KV.repl{kvs:List (κ×V)}{vs:List (κ×Value)}(r:KV kvs vs)(k:κ){y:V}{u:Value}(ry:RelV y u):
  KV (kvs.map λkv=>if kv.1=k then (kv.1,y) else kv) (vs.map λkv=>if kv.1=k then (kv.1,u) else kv):=by
 unfold KV at r ⊢
 induction r with
 | nil=>exact .nil
 | @cons p q ps qs h t ih=>
  rw[List.map_cons,List.map_cons];refine .cons ?_ ih;obtain⟨h1,h2⟩:=h;by_cases e:p.1=k
  ·rw[if_pos e,if_pos (h1.symm.trans e)];exact⟨h1,ry⟩
  ·rw[if_neg e,if_neg (λz=>e (h1.trans z))];exact⟨h1,h2⟩
theorem KV.put{kvs:List (κ×V)}{vs:List (κ×Value)}(r:KV kvs vs)(k:κ){y:V}{u:Value}(ry:RelV y u):KV (b5q kvs k y) (stored vs k u):=by
 unfold b5q stored;rw[r.any k];by_cases e:(vs.any λkv=>decide (kv.1=k))=true
 ·rw[if_pos e,if_pos e];exact r.repl k ry
 ·rw[if_neg e,if_neg e];exact Paired.snoc r ⟨rfl,ry⟩
theorem KV.length{kvs:List (κ×V)}{vs:List (κ×Value)}(r:KV kvs vs):kvs.length=vs.length:=Paired.length r
end
theorem d5v{P:Program}{w:World}{k:Key}{u:Value}(r:RelV (kV k) u):(a1u P w).is k u=true:=by
 cases k with
 | inl i=>obtain⟨t,e⟩:=(show ∃t,u=Value.int i t from r);subst e;exact c7c P w i t
 | inr x=>obtain⟨t,e⟩:=(show ∃t,u=Value.str x t from r);subst e;exact c7b P w x t
theorem c4u{P:Program}{w:World}:∀{ks:List Key}{us:List Value},Vals (ks.map kV) us->ItemsAre (a1u P w) ks us
 | [],_,r=>by rw[List.map_nil] at r;cases r;exact .nil
 | k::ks,_,r=>by
  rw[List.map_cons] at r;cases r with
  | cons h t=>exact .cons (d5v h) (c4u t)
abbrev KT(H:Hp):List (List Key×V)->List (List Key×Addr×Value)->Prop:=Paired λp q=>p.1=q.1/\H q.2.1=some (.tup (p.1.map kV))/\RelV p.2 q.2.2
theorem KT.val{H:Hp}{kvs:List (List Key×V)}{xs:List (List Key×Addr×Value)}(r:KT H kvs xs)(k:List Key):RelO (c9e kvs k) ((atKey xs k).map (·.2)):=by
 induction r with
 | nil=>exact True.intro
 | @cons p q ps qs h t ih=>
  obtain⟨h1,_,h2⟩:=h;by_cases e:p.1=k
  ·have e':q.1=k:=h1.symm.trans e
   have b:atKey (q::qs) k=some q.2:=by simp[atKey,List.find?_cons,e']
   rw[b9z e,b];exact h2
  ·have e':¬ q.1=k:=λz=>e (h1.trans z)
   have b:atKey (q::qs) k=atKey qs k:=by simp[atKey,List.find?_cons,e']
   rw[c0a e,b];exact ih
theorem KT.repl{H:Hp}{kvs:List (List Key×V)}{xs:List (List Key×Addr×Value)}(r:KT H kvs xs)(k:List Key){y:V}{u:Value}(ry:RelV y u):
  KT H (kvs.map λkv=>if kv.1=k then (kv.1,y) else kv) (xs.map (putAt k u)):=by
 induction r with
 | nil=>exact .nil
 | @cons p q ps qs h t ih=>
  rw[List.map_cons,List.map_cons];refine .cons ?_ ih;obtain⟨h1,h2,h3⟩:=h;unfold putAt;by_cases e:p.1=k
  ·rw[if_pos e,if_pos (h1.symm.trans e)];exact⟨h1,h2,ry⟩
  ·rw[if_neg e,if_neg (λz=>e (h1.trans z))];exact⟨h1,h2,h3⟩
theorem KT.put{H:Hp}{kvs:List (List Key×V)}{xs:List (List Key×Addr×Value)}(r:KT H kvs xs)(k:List Key){b:Addr}{y:V}{u:Value}(hb:H b=some (.tup (k.map kV)))(ry:RelV y u):
  KT H (b5q kvs k y) (storedH xs k b u):=by
 have e:(kvs.any λkv=>decide (kv.1=k))=(atKey xs k).isSome:=by
  rw[c7n,(r.val k).isSome_eq,Option.isSome_map]
 unfold b5q storedH;rw[e];by_cases q:(atKey xs k).isSome=true
 ·rw[if_pos q,if_pos q];exact r.repl k ry
 ·rw[if_neg q,if_neg q];exact Paired.snoc r ⟨rfl,hb,ry⟩
theorem KT.keeps{H H':Hp}{kvs:List (List Key×V)}{xs:List (List Key×Addr×Value)}(r:KT H kvs xs)(ht:∀b ys,H b=some (.tup ys)->H' b=some (.tup ys)):KT H' kvs xs :=
 Paired.mapP r λ_ _ z=>⟨z.1,ht _ _ z.2.1,z.2.2⟩
section
variable{P:Program}{w:World}{H:Hp}{h:Heap}{a:Addr}
theorem e1g{u:HO}(ok:HOk P w H h)(e:Rd H a u):ObjOk P w H h a u:=e.ok ok
theorem d9v{kvs:List (Key×V)}(ok:HOk P w H h)(e:Rd H a (.dK kvs)):kvs.length<=sizeLine/\(a == sysModules)=false/\∃vs,KV kvs vs/\h.DictOf (a1u P w) a vs :=
 show ObjOk P w H h a (.dK kvs) from e1g ok e
theorem e3j{kvs:List (Key×V)}(ok:HOk P w H h)(e:H a=some (.dK kvs)):kvs.length<=sizeLine/\(a == sysModules)=false/\∃vs,KV kvs vs/\h.DictOf (a1u P w) a vs:=d9v ok (.inl e)
theorem d2q{ks:List Key}(ok:HOk P w H h)(e:H a=some (.tup (ks.map kV))):(tupleKind (a1u P w)).is h ks a:=by
 obtain⟨_,its,r,o,h1,h2,n,h3⟩:=(show ObjOk P w H h a (.tup (ks.map kV)) from ok a _ e);exact⟨o,its.toArray,n,h1,h2,h3,by simpa using c4u r⟩
theorem d9u{kvs:List (List Key×V)}(ok:HOk P w H h)(e:Rd H a (.dT kvs)):kvs.length<=sizeLine/\(a == sysModules)=false /\
  ∃xs,KT H kvs xs/\h.DictOfH (tupleKind (a1u P w)) a xs:=by
 obtain⟨z,y,xs,r,o,es,ep,h1,h2,h3,h4,h5⟩:=(show ObjOk P w H h a (.dT kvs) from e1g ok e);refine⟨z,y,xs,r,o,es,ep,h1,h2,h3,h4,λx hx=>?_,h5⟩;have all:∀{l:List (List Key×V)}{m:List (List Key×Addr×Value)},KT H l m->∀x∈m,(tupleKind (a1u P w)).is h x.1 x.2.1:=by
  intro l m q
  induction q with
  | nil=>intro x hx;exact nomatch hx
  | @cons p q ps qs hq t ih=>
   intro x hx;rcases List.mem_cons.mp hx with e|hx
   ·subst e
    exact d2q ok (by rw[<- hq.1];exact hq.2.1)
   ·exact ih x hx
 exact all r x hx
theorem e5m{kvs:List (List Key×V)}(ok:HOk P w H h)(e:H a=some (.dT kvs)):kvs.length<=sizeLine/\(a == sysModules)=false /\
  ∃xs,KT H kvs xs/\h.DictOfH (tupleKind (a1u P w)) a xs:=d9u ok (.inl e)
end
noncomputable def DGet(H:Hp)(a:Addr)(y:V)(r:Option V):Prop :=
 (∃kvs k,Rd H a (.dK kvs)/\y=kV k/\r=c9e kvs k) \/ ∃kvs k b,Rd H a (.dT kvs)/\y=.ref b/\H b=some (.tup (k.map kV))/\r=c9e kvs k
noncomputable def DPut(H:Hp)(a:Addr)(y v:V)(H':Hp):Prop :=
 (∃kvs k,H a=some (.dK kvs)/\y=kV k/\kvs.length<sizeLine/\H'=upd H a (.dK (b5q kvs k v))) \/
 ∃kvs k b,H a=some (.dT kvs)/\y=.ref b/\H b=some (.tup (k.map kV))/\kvs.length<sizeLine/\H'=upd H a (.dT (b5q kvs k v))
theorem DGet.k{H:Hp}{a:Addr}{kvs:List (Key×V)}{k:Key}(e:H a=some (.dK kvs)):DGet H a (kV k) (c9e kvs k):=.inl ⟨kvs,k,.inl e,rfl,rfl⟩
theorem DPut.k{H:Hp}{a:Addr}{kvs:List (Key×V)}{k:Key}{v:V}(e:H a=some (.dK kvs))(hl:kvs.length<sizeLine):DPut H a (kV k) v (upd H a (.dK (b5q kvs k v))):=.inl ⟨kvs,k,e,rfl,hl,rfl⟩
section
variable{X:Cx}{pins:List ↑24}{σ:St}{H:Hp}{s:Shared}{a:Addr}{y v:V}{u r:Value}{o:Option V}{A:Around}{E:Value->Shared->Prop}
theorem Inv.big(I:↑13):sysModules<s.heap.objs.size:=by
 have h:mainGlobals<s.heap.objs.size:=(I.mod.glob.keeps I.bk).lt;exact Nat.lt_trans ↑4 h
theorem d3r{Q:Value->Shared->Prop}(hu:A.units+1<cLine)(I:↑13)(g:DGet H a y (some v))(ry:RelV y u)(h:∀w' s',Inv X pins σ H s'->RelV v w'->Q w' s'):
  wpAny ↑20 A (getItem (.ref a) u) Q E s:=by
 rcases g with ⟨kvs,k,e,ey,l⟩|⟨kvs,k,b,e,ey,eb,l⟩
 ·subst ey
  obtain⟨z,hd,vs,rel,dd⟩:=d9v I.hok e;obtain⟨w',hw,rw'⟩:=RelO.some_of (v:=v) (o:=valueAt vs k) (by rw[l];exact rel.val k)
  exact wpAny_getItem_of (d5v ry) dd.mapOf hw (h w' _ (I.tok _) rw')
 ·subst ey
  cases (show u=Value.ref b from ry);obtain⟨z,hd,xs,rel,dd⟩:=d9u I.hok e;obtain⟨w',hw,rw'⟩:=RelO.some_of (v:=v) (o:=(atKey xs k).map (·.2)) (by rw[l];exact rel.val k)
  obtain⟨p,hp,hp2⟩:=Option.map_eq_some_iff.mp hw;refine wpAny_getItem_heap (tupleKind_room_in1 hu) (d2q I.hok eb) dd hp ?_;rw[hp2];exact h w' _ (I.tok _) rw'
theorem c7i{h':Heap}{t':Nat}{ob:HO}(I:↑13)(mu:Mut (H a))(hs:Heap.SameBut a s.heap h')(he:∃q,h'.get? a=some q)(new:ObjOk X.prog X.w (upd H a ob) h' a ob):
  Inv X pins σ (upd H a ob) { s with heap:=h',toks:=t' } :=
 I.write (x:=a) (e:=a) mu ↑23 (λb q hb z=>(hs.2 b hb).trans z) he new
theorem d7j{P:Program}{w:World}{H':Hp}{h':Heap}{kvs:List (Key×V)}{vs:List (Key×Value)}(z:kvs.length<=sizeLine)(hd:(a == sysModules)=false)(rel:KV kvs vs)(dd:h'.DictOf (a1u P w) a vs):
  ObjOk P w H' h' a (.dK kvs):=⟨z,hd,vs,rel,dd⟩
theorem d3q{H':Hp}{Q:Unit->Shared->Prop}(hu:A.units+1<cLine)(I:↑13)(g:DPut H a y v H')(ry:RelV y u)(rv:RelV v r)(h:∀s',Inv X pins σ H' s'->Q () s'):
  wpAny ↑20 A (setItem (.ref a) u r) Q E s:=by
 rcases g with ⟨kvs,k,e,ey,l,eH⟩|⟨kvs,k,b,e,ey,eb,l,eH⟩
 ·subst ey eH
  obtain⟨z,hd,vs,rel,dd⟩:=e3j I.hok e;have hz:vs.length<=sizeLine:=by rw[<- rel.length];exact z
  have hl:(b5q kvs k v).length<=sizeLine:=by have:=b2g kvs k v;lia
  refine wpAny_setItem_pairs (hsz:=hz) (d5v ry) dd λh' dd' hs=>h _ ?_;have he:∃q,h'.get? a=some q:=let ⟨q,_,_,hq,_⟩:=dd';⟨q,hq⟩
  exact c7i I (by rw[e];exact True.intro) hs he (d7j hl hd (rel.put k rv) dd')
 ·subst ey eH
  cases (show u=Value.ref b from ry);obtain⟨z,hd,xs,rel,dd⟩:=e5m I.hok e;have hz:xs.length<=sizeLine:=by rw[<- Paired.length rel];exact z
  have hl:(b5q kvs k v).length<=sizeLine:=by have:=b2g kvs k v;lia
  refine wpAny_setItem_heap (hsz:=hz) (tupleKind_room_in1 hu) (d2q I.hok eb) dd λh' dd' hs=>h _ ?_;obtain⟨q,es,ep,hq,h2,h3,h4,_,h5⟩:=dd';refine c7i I (by rw[e];exact True.intro) hs ⟨q,hq⟩ ⟨hl,hd,_,(rel.put k eb rv).keeps λc ys ec=>?_,q,es,ep,hq,h2,h3,h4,h5⟩
  rw[c9 (d9c ec e (λz=>nomatch z))];exact ec
end
def e6n(i:Expr):Prop:=∀ov iv,subscripted i false ov iv=operate [ov,iv] (getItem ov iv)
theorem d8e{prog:Program}{w:World}{A:Around}{E:Value->Shared->Prop}{s:Shared}{env:Env}{value slice:Expr}{pos:Pos}{T id:String}{Q:Value->Shared->Prop}(hl:typeLookup (.type T) "__getitem__" = pure (some (.builtin id)))(hs:e6n slice)(h:wpAny ↑38 A (eval value env) (λo s₁=>wpAny ↑38 A (eval slice env) (λi s₂=>s₂.TypeIs o T/\wpAny ↑38 A (getItem o i) Q E s₂) E s₁) E s):
  wpAny ↑38 A (eval (.Subscript value slice pos) env) Q E s:=by
 refine Subscript_ (wpAny_mono h (λo s₁ h₁=>wpAny_mono h₁ (λi s₂ h₂=>?_) λ_ _ x=>x) λ_ _ x=>x);obtain⟨hT,h₂⟩:=h₂;unfold subscriptTail;refine wpAny_bind ?_;rw[getitemInPython_of_ne hT.not_modules];refine wpAny_bind (wpAny_specialOf hT hl ?_);have fin:wpAny ↑38 A (subscripted slice false o i) (λr s₃=>wpAny ↑38 A (letTemporaryGo value o r >>= λ_=>pure r) Q E s₃) E s₂:=by
  rw[hs o i];exact wpAny_operating (wpAny_mono h₂ (λr s₃ h₃=>wpAny_bind (wpAny_letTemporaryGo (wpAny_pure h₃))) λ_ _ x=>x)
 first
  | exact wpAny_pure (wpAny_bind fin)
  | exact wpAny_bind (wpAny_pure (wpAny_bind fin))
  | exact wpAny_bind fin
theorem c7h{X:Cx}{pins:List ↑24}{σ:St}{H:Hp}{s:Shared}{a:Addr}{y:V}{o:Option V}(I:↑13)(g:DGet H a y o):s.TypeIs (.ref a) "dict":=by
 rcases g with ⟨kvs,k,e,_,_⟩|⟨kvs,k,b,e,_,_,_⟩
 ·obtain⟨_,_,vs,_,dd⟩:=d9v I.hok e
  exact dd.typeIs
 ·obtain⟨_,_,xs,_,dd⟩:=d9u I.hok e
  exact dd.typeIs
noncomputable def e0v(td ty:TE):TE:=λσ H Q=>td σ H λx H1=>ty σ H1 λy H2=>∃a v,x=.ref a/\DGet H2 a y (some v)/\Q v H2
noncomputable def e1b(td ty tv:TE):TS:=λD σ H=>tv σ H λv H1=>td σ H1 λx H2=>ty σ H2 λy H3=>∃a H4,x=.ref a/\DPut H3 a y v H4/\D.nx σ H4
section
variable{X:Cx}{o i e value:Expr}{pos pos' tpos:Pos}{td ty tv:TE}
theorem a2l(hu:X.A.units+1<cLine)(ho:PE X o td)(hi:PE X i ty)(hs:e6n i):PE X (.Subscript o i pos) (e0v td ty):=by
 fail "i";refine d8e PySem.F.slot_dict_getitem.lookup hs (thn (ho pins s σ H _ I h) λu s1 z0_=>?_);obtain⟨x,H1,I1,rx,q1⟩:=z0_;refine thn (hi pins s1 σ H1 _ I1 q1) λiv s2 z1_=>?_;obtain⟨y,H2,I2,ry,a,v,ex,g,q2⟩:=z1_;subst ex;obtain rfl:u=Value.ref a:=rx;exact⟨c7h I2 g,d3r hu I2 g ry λw' s3 I3 rw'=>⟨v,H2,I3,rw',q2⟩⟩
theorem n6(hu:X.A.units+1<cLine)(ho:PE X o td)(hi:PE X i ty)(hv:PE X value tv)(hs:swapsWith value (some (.Subscript o i pos')) pos.line X.env=pure false):
  PS X (.Assign [.Subscript o i pos'] value pos) (e1b td ty tv):=by
 intro pins s σ H D I h;refine wpAny_Assign_Subscript (thn (hv pins s σ H _ I h) λr s1 z0_=>?_) hs;obtain⟨v,H1,I1,rv,q1⟩:=z0_;refine thn (ho pins s1 σ H1 _ I1 q1) λu s2 z1_=>?_;obtain⟨x,H2,I2,rx,q2⟩:=z1_;refine thn (hi pins s2 σ H2 _ I2 q2) λiv s3 z2_=>?_;obtain⟨y,H3,I3,ry,a,H4,ex,g,q3⟩:=z2_;subst ex;obtain rfl:u=Value.ref a:=rx;exact d3q hu I3 g ry rv λs4 I4=>⟨σ,H4,I4,q3⟩
end
theorem d6p{P:Program}{w:World}{H:Hp}(h:Heap)(hb:sysModules<h.objs.size):ObjOk P w H (h.push { cls:=.type "dict",data:=.dict #[] }) h.objs.size (.dK []) :=
 ⟨Nat.zero_le _,beq_eq_false_iff_ne.mpr (Ne.symm (Nat.ne_of_lt hb)),[],.nil,Heap.DictOf.new h⟩
noncomputable def b6m:List (TE×TE)->St->Hp->(List (V×V)->Hp->Prop)->Prop
 | [],_,H,Q=>Q [] H
 | (tk,tv)::r,σ,H,Q=>tk σ H λx H1=>tv σ H1 λy H2=>b6m r σ H2 λps H3=>Q ((x,y)::ps) H3
abbrev VV:List (V×V)->List (Value×Value)->Prop:=Paired λp q=>RelV p.1 q.1/\RelV p.2 q.2
noncomputable def PPs(X:Cx)(pos:Pos)(keys:List (Option Expr))(values:List Expr)(trs:List (TE×TE)):Prop :=
 ∀(pins:List ↑24)(s:Shared)(σ:St)(H:Hp)(Q:List (V×V)->Hp->Prop),Inv X pins σ H s->b6m trs σ H Q ->
  wpAny ↑20 X.A (evalPairs (pairTrees keys values X.env pos)) (λvs s'=>∃ps H',Inv X pins σ H' s'/\VV ps vs/\Q ps H') X.xe s
theorem d1o{X:Cx}{pos:Pos}:PPs X pos [] [] []:=λpins s σ H Q I h=>pairTrees_nil_walk ⟨[],H,I,.nil,h⟩
theorem a0q{X:Cx}{pos:Pos}{k v:Expr}{ks:List (Option Expr)}{vs:List Expr}{tk tv:TE}{trs:List (TE×TE)}(hk:PE X k tk)(hv:PE X v tv)(hr:PPs X pos ks vs trs):
  PPs X pos (some k::ks) (v::vs) ((tk,tv)::trs):=λpins s σ H Q I h=>
 pairTrees_cons_walk (thn (hk pins s σ H _ I h) λu s1 ⟨x,H1,I1,rx,q1⟩=>thn (hv pins s1 σ H1 _ I1 q1) λw2 s2 ⟨y,H2,I2,ry,q2⟩=>
  thn (hr pins s2 σ H2 _ I2 q2) λws s3 z0_=>by obtain⟨ps,H3,I3,rel,q3⟩:=z0_;exact⟨(x,y)::ps,H3,I3,.cons ⟨rx,ry⟩ rel,q3⟩)
noncomputable def b9o(kvs more:List (Key×V)):List (Key×V):=more.foldl (λacc kv=>b5q acc kv.1 kv.2) kvs
theorem KV.merge:∀{more:List (Key×V)}{rs:List (Key×Value)}{kvs:List (Key×V)}{vs:List (Key×Value)},KV more rs->KV kvs vs->KV (b9o kvs more) (merged vs rs):=by
 intro more rs kvs vs r;unfold KV at r
 induction r generalizing kvs vs with
 | nil=>intro q;exact q
 | @cons p q ps qs h t ih=>
  intro r0;have e:KV (b5q kvs p.1 p.2) (stored vs q.1 q.2):=by
   have:=r0.put p.1 h.2;rw[<- h.1];exact this
  exact ih e
theorem b3n:∀(more kvs:List (Key×V)),(b9o kvs more).length<=kvs.length+more.length
 | [],kvs=>by show kvs.length<=kvs.length+0;lia
 | p::r,kvs=>by
  have h1:=b3n r (b5q kvs p.1 p.2);have h2:=b2g kvs p.1 p.2;show(b9o (b5q kvs p.1 p.2) r).length<=_;rw[List.length_cons];lia
theorem b9w{P:Program}{w:World}:∀{kvs:List (Key×V)}{ws:List (Value×Value)},VV (kvs.map λkv=>(kV kv.1,kv.2)) ws->∃rs,Carries (a1u P w) ws rs/\KV kvs rs
 | [],_,r=>by rw[List.map_nil] at r;cases r;exact⟨[],True.intro,.nil⟩
 | p::kvs,_,r=>by
  rw[List.map_cons] at r;cases r with
  | @cons a b as bs h t=>
   obtain⟨rs,c,q⟩:=b9w (P:=P) (w:=w) t;obtain⟨b1,b2⟩:=b;exact⟨(p.1,b2)::rs,⟨d5v h.1,rfl,c⟩,.cons ⟨rfl,h.2⟩ q⟩
noncomputable def e0u(trs:List (TE×TE)):TE:=λσ H Q=>∀p,H p=none->b6m trs σ (upd H p (.dK [])) λps H2=>H2 p=some (.dK [])/\∃kvs:List (Key×V),ps=kvs.map (λkv=>(kV kv.1,kv.2))/\kvs.length<=15/\Q (.ref p) (upd H2 p (.dK (b9o [] kvs)))
theorem d1w{X:Cx}{pos:Pos}{keys:List (Option Expr)}{values:List Expr}{trs:List (TE×TE)}(h:PPs X pos keys values trs)(hall:keys.all (·.isSome)=true)(hl:keys.length=values.length)(h0:keys≠[])(h15:keys.length<=15):PE X (.Dict keys values pos) (e0u trs):=by
 intro pins s σ H Q I q;have hn:=I.hok.fresh (Nat.le_refl s.heap.objs.size);have I1:=I.laid (a:=s.heap.objs.size) (o:=.dK []) (h':=s.heap.push { cls:=.type "dict",data:=.dict #[] }) (t':=s.toks) (λ_ _ q=>Heap.get?_push_of_some _ q) ↑31 (d6p s.heap I.big);refine wpAny_Dict_walk (knd:=a1u X.prog X.w) hall hl h0 h15 (thn (h pins _ σ _ _ I1 (q _ hn)) λws s2 z0_=>?_);obtain⟨ps,H2,I2,rel,e,kvs,ep,lk,q2⟩:=z0_;subst ep;obtain⟨rs,c,rk⟩:=b9w (P:=X.prog) (w:=X.w) rel;obtain⟨z,hd,vs0,r0,dd⟩:=e3j I2.hok e;cases r0;refine⟨rs,c,dd,λh' dd' hs=>⟨.ref s.heap.objs.size,_,?_,rfl,q2⟩⟩;have hz:(b9o [] kvs).length<=sizeLine:=by
  have h1:=b3n kvs [];rw[List.length_nil] at h1;rw[sizeLine_eq];lia
 have he:∃q,h'.get? s.heap.objs.size=some q:=let ⟨q,_,_,hq,_⟩:=dd';⟨q,hq⟩
 exact c7i I2 (by rw[e];exact True.intro) hs he (d7j hz hd (rk.merge .nil) dd')
section
variable{X:Cx}{k j:Nat}{ps:List Str}{sp:Sp}{E:XK}{x:Str}{p pos:Pos}
theorem d6z(G:FnT X.prog X.w X.K X.mg X.base x k ps sp)(hr:Room j X.A)(hj:k<=j)(hg:Gl X x)(hx:a2s (CXK X.prog X.w) X E)(hdb:↑33=false:=by decide):PE X (.Call (.Name x p) [] [] pos) (tFn sp E d6v):=by
 obtain⟨f,fd,F,hm,hk,hb⟩:=G.ex;exact d5e (ds:=[]) (dvs:=[]) F (hr.mono hj) hg hm hk hb .nil hx hdb
end
section
variable{K:Frag}{σ:St}{H:Hp}{Q:VK}{td ty tv:TE}{nx bk ct:St->Hp->Prop}{rt:VK}
theorem a9d(q:td σ H λx H1=>ty σ H1 λy H2=>∃a v,x=.ref a/\DGet H2 a y (some v)/\Q v H2):e0v td ty σ H Q:=q
theorem a9c(q:tv σ H λv H1=>td σ H1 λx H2=>ty σ H2 λy H3=>∃a H4,x=.ref a/\DPut H3 a y v H4/\nx σ H4):e1b td ty tv ⟨nx,rt,bk,ct⟩ σ H:=q
theorem d7g{trs:List (TE×TE)}(q:∀p,H p=none->b6m trs σ (upd H p (.dK [])) λps H2=>H2 p=some (.dK [])/\∃kvs:List (Key×V),ps=kvs.map (λkv=>(kV kv.1,kv.2))/\kvs.length<=15/\Q (.ref p) (upd H2 p (.dK (b9o [] kvs)))):e0u trs σ H Q:=q
end
section
variable{K:Frag}{σ:St}{H:Hp}{ta:TE}{t:TA}
theorem d3h{tn:TA}{Q:VK}(q:ta σ H λx H1=>tn σ H1 λvs H2=>∃i n:Int,x=.int i/\vs=[.int n]/\Q (.bl (decide (0<=i/\i<n))) H2):d6w ta tn σ H Q:=q
end
theorem c8n{i n:Int}{R:Int->Int->Prop}(q:R i n):∃i' n':Int,V.int i=.int i'/\[V.int n]=[.int n']/\R i' n':=⟨i,n,rfl,rfl,q⟩
section
variable{K:Frag}{σ:St}{H:Hp}
theorem e6y{r:V->Option Int->Option Int->Hp->VK->Prop}{te:TE}{tl th:TO}{Q:VK}(q:te σ H λx H1=>tl σ H1 λl H2=>th σ H2 λu H3=>r x l u H3 Q):tSl r te tl th σ H Q:=q
theorem d6j{Q:Option Int->Hp->Prop}(q:Q none H):d0y σ H Q:=q
theorem e2t{te:TE}{Q:Option Int->Hp->Prop}(q:te σ H λx H1=>∃i,x=.int i/\Q (some i) H1):e0p te σ H Q:=q
end
def Hid(n m:St->Hp->Prop):Prop:=n=m
def e5r(m:St->Hp->Prop)(F:(St->Hp->Prop)->Prop):Prop:=∀N,Hid N m->F N
section
variable{nx bk ct:St->Hp->Prop}{rt:VK}{σ:St}{H:Hp}
theorem e2q{s u:TS}(q:∀n',Hid n' (u ⟨nx,rt,bk,ct⟩)->s ⟨n',rt,bk,ct⟩ σ H):e3x s u ⟨nx,rt,bk,ct⟩ σ H:=q _ rfl
theorem c4w{n' m:St->Hp->Prop}(h:Hid n' m)(q:m σ H):n' σ H:=by
 unfold Hid at h;rw[h];exact q
theorem e3a{m:St->Hp->Prop}{F:(St->Hp->Prop)->Prop}(q:∀N,Hid N m->F N):e5r m F:=q
theorem a9u{lo:Int}{n:Nat}{g:TG}{tb:TS}(Pv:Nat->St->Hp->Prop)(h0:Pv 0 σ H)(hs:∀i σ H,i<n->Pv i σ H->e5r (Pv (i+1)) λN=>g (.int (lo+i)) σ H λσ2 H2=>tb ⟨N,rt,nx,N⟩ σ2 H2)(hd:∀σ H,Pv n σ H->nx σ H):
  ∃W:Nat->Nat->St->Hp->Prop,(∃m,W 0 m σ H)/\∀i m σ H,W i m σ H->((Itr lo n).stop i H/\nx σ H)\/((Itr lo n).go i H/\∃N:St->Hp->Prop,(∀σ' H',N σ' H'->∃m',m'<m/\W (i+1) m' σ' H')/\∀x H',(Itr lo n).yld i H x H'->g x σ H' λσ2 H2=>tb ⟨N,rt,nx,N⟩ σ2 H2) :=
 d3l (D:=⟨nx,rt,λ_ _=>False,λ_ _=>False⟩) Pv h0 (λi σ H hi p=>hs i σ H hi p _ rfl) hd
end
theorem d7c{K:Frag}{σ:St}{H:Hp}{k:St->Hp->Prop}{p:Addr}{x y z u:V}{i j m l n:Nat}(h:H p=some (.tup [x,y,z,u]))(hn:4=n)(q:k ((((σ.set i (some x)).set j (some y)).set m (some z)).set l (some u)) H):e5k K n (d3j (b8z i) (d3j (b8z j) (d3j (b8z m) (d3j (b8z l) e6j)))) (.ref p) σ H k :=
 ⟨p,_,rfl,SqT.of h,hn,_,_,rfl,_,_,rfl,_,_,rfl,_,_,rfl,rfl,q⟩
end L2
namespace L2
open PySem
noncomputable def e0f:HO->Option Addr
 | .ins _ dx _=>some dx
 | .frz _ u=>e0f u
 | _=>none
structure Sub(H1 H:Hp):Prop where
 le:∀a o,H1 a=some o->H a=some o
 own:∀a o b,H a=some o->e0f o=some b->H b=some (.own a)->(H1 a=none ↔ H1 b=none)
 tup:∀b xs,H b=some (.tup xs)->H1 b=some (.tup xs)
 frz:∀b o u,H b=some (.frz o u)->H1 b=some (.frz o u)
 tbl:∀b ps,H b=some (.tbl ps)->H1 b=some (.tbl ps)
noncomputable def jn(H1' H1 H:Hp):Hp:=λa=>match H1 a,H1' a with
 | none,none=>H a
 | _,o=>o
structure Out(H1' H1 H:Hp):Prop where
 fr:∀b o,H b=some o->H1 b=none->H1' b=none
 tup:∀b xs,H b=some (.tup xs)->H1' b=some (.tup xs)
 frz:∀b o u,H b=some (.frz o u)->H1' b=some (.frz o u)
def frS(sp:Sp):Sp:=λvs H Q _=>∃H1,Sub H1 H/\sp vs H1 (λv H1'=>Out H1' H1 H->Q v (jn H1' H1 H)) (λ_ _ _=>False)
section
variable{P:Program}{w:World}{K:Frag}{mg:Str->Option Value}{base:Heap}{H H1 H1':Hp}{h h':Heap}
theorem a3d{a:Addr}{o:HO}(e:H1' a=some o):jn H1' H1 H a=some o:=by
 unfold jn;rw[e];cases H1 a <;> rfl
theorem c2d{a:Addr}(e:H1 a=none)(e':H1' a=none):jn H1' H1 H a=H a:=by
 unfold jn;rw[e,e']
theorem d9e{a:Addr}{o:HO}(e:H1 a=some o)(e':H1' a=none):jn H1' H1 H a=none:=by
 unfold jn;rw[e,e']
theorem ObjOk.at_{a:Addr}{o:HO}(x:ObjOk P w H h a o):∃ob,h.get? a=some ob:=by
 cases o with
 | lst xs=>obtain⟨_,_,_,_,e⟩:=x;exact⟨_,e⟩
 | tup xs=>obtain⟨_,_,_,_,e,_⟩:=x;exact⟨_,e⟩
 | dK kvs=>obtain⟨_,_,_,_,o,_,_,e,_⟩:=x;exact⟨_,e⟩
 | dT kvs=>obtain⟨_,_,_,_,o,_,_,e,_⟩:=x;exact⟨_,e⟩
 | set S n=>obtain⟨o,_,_,_,e,_⟩:=x;exact⟨_,e⟩
 | ins C dx fs=>obtain⟨_,_,_,e,_⟩:=x;exact⟨_,e⟩
 | own y=>obtain⟨_,e⟩:=x;exact⟨_,e⟩
 | xd fs=>obtain⟨_,⟨_,_,_,e,_⟩,_⟩:=x;exact⟨_,e⟩
 | rng lo hi=>obtain⟨_,_,_,e⟩:=x;exact⟨_,e⟩
 | frz ob u=>obtain⟨e,_⟩:=x;exact⟨_,e⟩
 | tbl ps=>exact⟨_,(show h.get? a=some _ from x)⟩
 | met f y=>exact⟨_,(show h.get? a=some _ from x)⟩
 | ext φ=>obtain⟨_,⟨_,e⟩,_⟩:=x;exact⟨_,e⟩
theorem ObjOk.stay2{H':Hp}{a:Addr}{o:HO}(x:ObjOk P w H h a o)(k:∀b u,(b=a\/(e0f o=some b/\H b=some (.own a)))->h.get? b=some u->h'.get? b=some u)(ho:∀b,e0f o=some b->H b=some (.own a)->H' b=some (.own a))(ht:∀b xs,H b=some (.tup xs)->H' b=some (.tup xs)):ObjOk P w H' h' a o:=by
 have kk:(e0f o=none)->ObjOk P w H' h' a o:=λdn=>by
  let G:Hp:=λb=>match H b with
   | some (.own _)=>none
   | z=>z
  have gt:∀b xs,H b=some (.tup xs)->G b=some (.tup xs):=λb xs e=>by show(match H b with|some (.own _)=>none|z=>z)=_;rw[e]
  have gn:∀b,G b≠some (.own a):=λb e=>by
   have e:(match H b with|some (.own _)=>none|z=>z)=some (HO.own a):=e
   split at e
   ·cases e
   ·rename_i n;exact n a e
  have xg:ObjOk P w G h a o:=by
   clear k ho ht
   induction o with
   | ins C dx fs=>cases dn
   | dT kvs=>
    obtain⟨z,y,xs,r,c⟩:=x;exact⟨z,y,xs,Paired.mapP r λp q z=>⟨z.1,gt _ _ z.2.1,z.2.2⟩,c⟩
   | frz ob u ih=>exact⟨x.1,ih x.2 dn⟩
   | _=>exact x
  refine (xg.stay (H':=G) (h':=h') (λb u hb e=>k b u (hb.elim .inl λz=>absurd z (gn b)) e) (λb z=>absurd z (gn b)) λb xs e=>e).stay (λ_ _ _ e=>e) (λb z=>absurd z (gn b)) λb xs e=>ht b xs ?_;have e:(match H b with|some (.own _)=>none|z=>z)=some (HO.tup xs):=e
  split at e
  ·cases e
  ·exact e
 induction o with
 | ins C dx fs=>
  obtain⟨d,z,ne,e,mA,⟨od,es,ep,e2,c⟩,r⟩:=x;exact⟨ho dx rfl d,z,ne,k _ _ ↑23 e,mA,⟨od,es,ep,k dx _ (.inr ⟨rfl,d⟩) e2,c⟩,r⟩
 | frz ob u ih=>
  cases q:e0f u with
  | none=>exact kk q
  | some b=>exact⟨k _ _ ↑23 x.1,ih x.2 k ho λdn=>by rw[q] at dn;cases dn⟩
 | _=>exact kk rfl
theorem Sub.no(S:Sub H1 H){b:Addr}(e:H b=none):H1 b=none:=by
 cases q:H1 b with
 | none=>rfl
 | some o=>rw[S.le b o q] at e;cases e
theorem Sub.hok(S:Sub H1 H)(k:HOk P w H h):HOk P w H1 h:=λa o e=>(k a o (S.le a o e)).stay2 (λ_ _ _ q=>q)
 (λb d q=>by
  cases r:H1 b with
  | none=>have:=(S.own a o b (S.le a o e) d q).2 r;rw[this] at e;cases e
  | some u=>have:=S.le b u r;rw[q] at this;cases this;rfl) S.tup
theorem Sub.un{fs:List Addr}(S:Sub H1 H)(k:HOk P w H h)(u:Un fs [] H1 H1' h h'):Out H1' H1 H/\Un fs [] H (jn H1' H1 H) h h':=by
 have nx:∀b:Addr,b ∉ ([]:List Addr):=λ_ z=>by cases z
 have fr:∀b o,H b=some o->H1 b=none->H1' b=none:=λb o e n=>by
  obtain⟨ob,eo⟩:=(k b o e).at_;exact u.free b ob eo n (nx b)
 have ot:Out H1' H1 H:=⟨fr,λb xs e=>u.tups b xs (S.tup b xs e),λb o v e=>u.frzs b o v (S.frz b o v e)⟩;refine⟨ot,⟨λb o q n hb hx=>u.keep b o q (S.no n) hb hx,λb o q n hb hx=>u.slot b o q (S.no n) hb hx,λb o q n hx=>?_,u.there,λb xs e=>a3d (u.tups b xs (S.tup b xs e)),λb o v e=>a3d (u.frzs b o v (S.frz b o v e)),λb ps e=>?_⟩⟩
 ·rw[c2d (S.no n) (u.free b o q (S.no n) hx)];exact n
 ·obtain⟨more,z⟩:=u.tbls b ps (S.tbl b ps e)
  exact⟨more,a3d z⟩
theorem Sub.back{fs:List Addr}(S:Sub H1 H)(k:HOk P w H h)(hf:∀b∈fs,H b=none)(u:Un fs [] H1 H1' h h')(k':HOk P w H1' h'):HOk P w (jn H1' H1 H) h':=by
 have nx:∀b:Addr,b ∉ ([]:List Addr):=λ_ z=>by cases z
 obtain⟨ot,_⟩:=S.un k u;have tp:∀b xs,H b=some (.tup xs)->jn H1' H1 H b=some (.tup xs):=λb xs e=>a3d (ot.tup b xs e);intro a o e;cases q:H1' a with
 | some v=>
  rw[a3d q] at e;cases e;exact(k' a _ q).stay (λ_ _ _ z=>z) (λb z=>a3d z) λb xs z=>a3d z
 | none=>
  cases r:H1 a with
  | some v=>rw[d9e r q] at e;cases e
  | none=>
   rw[c2d r q] at e;refine (k a o e).stay2 (λb v hb z=>?_) (λb d z=>?_) tp
   ·have hn:H1 b=none:=by
     rcases hb with rfl|hb
     ·exact r
     ·exact(S.own a o b e hb.1 hb.2).1 r
    refine u.keep b v z hn (λhm=>?_) (nx b);rcases hb with rfl|hb
    ·rw[hf b hm] at e;cases e
    ·rw[hf b hm] at hb;cases hb.2
   ·have hn:=(S.own a o b e d z).1 r
    rw[c2d hn (ot.fr b _ z hn)];exact z
theorem FnOk.frame{k:Nat}{f:Addr}{fd:FuncData}{ps:List Str}{sp:Sp}(F:FnOk P w K mg base (CXK P w) k f fd ps sp):FnOk P w K mg base (CXK P w) k f fd ps (frS sp):=by
 refine⟨λvs H Q E h=>?_,λA outer s H args us vs Q E hr he hb hv hs=>?_⟩
 ·obtain⟨H1,_,z⟩:=h
  exact F.len _ _ _ _ z
 ·obtain⟨H1,S,z⟩:=hs
  have e1:Env0 P w K mg base A outer s H1:=⟨he.frames,he.mod,λb o q=>⟨(he.bs b o q).1,S.no (he.bs b o q).2⟩,he.bsz,he.funs,λb hb=>S.no (he.frf b hb),S.hok he.hok,he.bare⟩;refine codeAny_mono (F.run A outer s H1 args us vs _ _ hr e1 hb hv z) λr s' q=>?_
  match r,q with
  | .ok (.ret u),q=>
   obtain⟨v,H1',a1,a2,a3,a4,a5,a6⟩:=q;obtain⟨ot,un⟩:=S.un he.hok a3;exact⟨v,_,a1,a2,un,S.back he.hok he.frf a3 a4,a5,a6 ot⟩
  | .ok .next,q=>exact q
  | .error e,q=>
   obtain⟨_,_,_,_,_,z⟩:=q;exact z.elim
theorem MethT.frame{C:Addr}{m:Str}{k:Nat}{ps:List Str}{sp:Sp}(M:↑904 C m k ps sp):↑904 C m k ps (frS sp):=by
 obtain⟨f,fd,F,a,b⟩:=M.ex;exact⟨f,fd,F.frame,a,b⟩
theorem FnT.frame{x:Str}{k:Nat}{ps:List Str}{sp:Sp}(M:↑901 x k ps sp):↑901 x k ps (frS sp):=by
 obtain⟨f,fd,F,a,b⟩:=M.ex;exact⟨f,fd,F.frame,a,b⟩
noncomputable def b8i:Option HO->Bool
 | some (.tup _)=>true
 | some (.frz _ _)=>true
 | some (.tbl _)=>true
 | _=>false
open Classical in
noncomputable def rs(F:Addr->Prop)(H:Hp):Hp:=λb=>match H b with
 | some (.own a)=>if F a\/b8i (H a)=true then some (.own a) else none
 | z=>if F b\/b8i (H b)=true then z else none
theorem b5x{F:Addr->Prop}{b:Addr}{o:HO}(e:H b=some o)(n:∀a,o≠.own a)(hb:F b\/b8i (H b)=true):rs F H b=some o:=by
 unfold rs;rw[e];cases o with
 | own a=>exact absurd rfl (n a)
 | _=>exact if_pos (e ▸ hb)
theorem c9p{F:Addr->Prop}{b:Addr}{o:HO}(e:rs F H b=some o):H b=some o:=by
 unfold rs at e;split at e
 ·rename_i a q
  split at e
  ·rw[q];exact e
  ·cases e
 ·split at e
  ·exact e
  ·cases e
theorem c3k{F:Addr->Prop}{b:Addr}{o:HO}(e:H b=some o)(n:∀a,o≠.own a)(hb:¬ (F b\/b8i (H b)=true)):rs F H b=none:=by
 unfold rs;rw[e];cases o with
 | own a=>exact absurd rfl (n a)
 | _=>exact if_neg (e ▸ hb)
theorem e1c{F:Addr->Prop}{b a:Addr}(e:H b=some (.own a))(hb:¬ (F a\/b8i (H a)=true)):rs F H b=none:=by
 unfold rs;rw[e];exact if_neg hb
theorem d8i{F:Addr->Prop}{b a:Addr}(e:H b=some (.own a))(hb:F a\/b8i (H a)=true):rs F H b=some (.own a):=by
 unfold rs;rw[e];exact if_pos hb
theorem c7u(F:Addr->Prop)(H:Hp):Sub (rs F H) H where
 le:=λa o e=>c9p e
 own:=λa o b e d q=>by
  have n:∀c,o≠.own c:=λc z=>by rw[z] at d;cases d
  by_cases hc:F a\/b8i (H a)=true
  ·rw[b5x e n hc,d8i q hc];exact⟨λz=>(by cases z),λz=>(by cases z)⟩
  ·rw[c3k e n hc,e1c q hc]
 tup:=λb xs e=>b5x e (λ_ z=>by cases z) (.inr (by rw[e];rfl))
 frz:=λb o u e=>b5x e (λ_ z=>by cases z) (.inr (by rw[e];rfl))
 tbl:=λb ps e=>b5x e (λ_ z=>by cases z) (.inr (by rw[e];rfl))
end
open PySem.Spec PyProof.Rows
section
variable{X:Cx}
noncomputable def e3s(xs:List V)(k:Nat)(y:V):List V:=xs.take k++y::xs.drop k
def e4i:V->List V->Hp->VK->Prop:=λx vs H Q=>∃l xs i y,x=.ref l/\vs=[.int i,y]/\H l=some (.lst xs)/\0<=i/\i<=xs.length/\xs.length<sizeLine/\Q .non (upd H l (.lst (e3s xs i.toNat y)))
theorem Vals.two'{x y:V}{us:List Value}(r:Vals [x,y] us):∃u v,us=[u,v]/\RelV x u/\RelV y v:=by
 cases r with
 | cons a r=>
  cases r with
  | cons b r=>
   cases r;exact⟨_,_,rfl,a,b⟩
theorem Vals.take'{xs:List V}{us:List Value}(r:Vals xs us)(k:Nat):Vals (xs.take k) (us.take k):=by
 induction k generalizing xs us with
 | zero=>rw[List.take_zero,List.take_zero];exact .nil
 | succ k ih=>
  cases r with
  | nil=>exact .nil
  | cons a r=>exact .cons a (ih r)
theorem Vals.drop'{xs:List V}{us:List Value}(r:Vals xs us)(k:Nat):Vals (xs.drop k) (us.drop k):=by
 induction k generalizing xs us with
 | zero=>exact r
 | succ k ih=>
  cases r with
  | nil=>exact .nil
  | cons a r=>exact ih r
theorem e1x:MtM X "list.insert" e4i:=by
 intro pins s σ H x vs v us Q I rx rv h;obtain⟨l,xs,i,y,rfl,rfl,hH,h1,h2,hz,q⟩:=h;cases rx;obtain⟨u,u',rfl,⟨t,rfl⟩,ru⟩:=rv.two';obtain⟨z,its,n,r,hl,e⟩:=I.lstM hH;have hi:i.toNat<=its.length:=by lia
 have hs3:sizeLine<2 ^ 63:=by decide
 have hi3:i<2 ^ 63:=by lia
 refine call_meets F.slot_list_insert ⟨_,e,rfl⟩ F.entry_list_insert (F.args_list_insert_3 _ _ _)
  (AutoListH.list_insert_list_int_val_1 l its.toArray n i t u' (by rw[fitsIndex_both ↑2 hi3];decide) (by rw[List.size_toArray];lia)) ⟨e,?_⟩
 refine⟨.non,_,I.lset (its':=its.take i.toNat++u'::its.drop i.toNat) hH e ?_ ((r.take' _).append (.cons ru (r.drop' _))) ?_,rfl,q⟩
 ·show _=_
  dsimp only;rw[if_neg ↑2,Nat.min_eq_left (by rw[List.size_toArray];lia)]
  apply Array.toList_inj.mp;simp;exact List.take_of_length_le (by rw[List.length_drop];lia)
 ·rw[List.length_append,List.length_cons,List.length_take,List.length_drop]
  lia
theorem b7m{K:Frag}{o e:Expr}{to:TE}{t:TA}{apos cpos:Pos}(ho:PE X o to)(ha:PA X [e] t)(hK:X.K=K:=by rfl)(hbase:attributeBase o "pop" X.env (eval o X.env)=eval o X.env:=by rfl)(hfew:((backTo cpos (starEach [e] X.env)).all (λx=>!x.1) && (backToKw cpos (keywordEach [] X.env)).all (λx=>x.1.isSome) && decide ([e].length+([]:List Keyword).length+(if ([]:List Keyword).isEmpty then 0 else 1)<30))=true:=by rfl)(hline:(apos.endLine == cpos.line)=true:=by rfl)(hs:starEach [e] X.env=(false,eval e X.env)::starEach [] X.env:=by rfl)(hplain:(backTo cpos (starEach [] X.env)).any (·.1)=false:=by rfl):
  PE X (.Call (.Attribute o "pop" apos) [e] [] cpos) (tBM K "list" d1g to t) :=
 hK ▸ d5f PySem.F.plainAttrs_list PySem.F.slot_list_pop PySem.F.type_list_pop (λpins s σ H x xs v us Q I rx rs q=>d5n pins s σ H x xs v us Q I rx rs q) ho ha hbase hfew hline hs hplain
theorem d1v{K:Frag}{o e f:Expr}{to:TE}{t:TA}{apos cpos:Pos}(ho:PE X o to)(ha:PA X [e,f] t)(hK:X.K=K:=by rfl)(hbase:attributeBase o "insert" X.env (eval o X.env)=eval o X.env:=by rfl)(hfew:((backTo cpos (starEach [e,f] X.env)).all (λx=>!x.1) && (backToKw cpos (keywordEach [] X.env)).all (λx=>x.1.isSome) && decide ([e,f].length+([]:List Keyword).length+(if ([]:List Keyword).isEmpty then 0 else 1)<30))=true:=by rfl)(hline:(apos.endLine == cpos.line)=true:=by rfl)(hs:starEach [e,f] X.env=(false,eval e X.env)::starEach [f] X.env:=by rfl)(hplain:(backTo cpos (starEach [f] X.env)).any (·.1)=false:=by rfl):
  PE X (.Call (.Attribute o "insert" apos) [e,f] [] cpos) (tBM K "list" e4i to t) :=
 hK ▸ d5f PySem.F.plainAttrs_list PySem.F.slot_list_insert PySem.F.type_list_insert (λpins s σ H x xs v us Q I rx rs q=>e1x pins s σ H x xs v us Q I rx rs q) ho ha hbase hfew hline hs hplain
variable{K:Frag}{H:Hp}{Q:VK}{σ:St}{y:V}
theorem e2z{p:Addr}{xs:List V}{i:Int}(h:H p=some (.lst xs))(h0:0<=i)(h1:i<=xs.length)(l:xs.length<sizeLine)(q:Q .non (upd H p (.lst (e3s xs i.toNat y)))):e4i (.ref p) [.int i,y] H Q:=⟨p,xs,i,y,rfl,rfl,h,h0,h1,l,q⟩
theorem b8b{p:Addr}{xs:List V}{i:Int}(h:H p=some (.lst xs))(h0:0<=i)(h1:i<xs.length)(l:xs.length<=sizeLine)(q:∀y,Q y (upd H p (.lst (xs.eraseIdx i.toNat)))):d1g (.ref p) [.int i] H Q:=by
 have hi:i.toNat<xs.length:=by lia
 have hs3:sizeLine<2 ^ 63:=by decide
 refine⟨p,xs,i,i.toNat,xs[i.toNat],rfl,rfl,h,by lia,by lia,?_,List.getElem?_eq_getElem hi,q _⟩
 show(if (decide (0<=(if i<0 then i+(xs.length:Int) else i)) && decide ((if i<0 then i+(xs.length:Int) else i)<xs.length))=true then some (if i<0 then i+(xs.length:Int) else i).toNat else none)=_;rw[if_neg (show ¬ i<0 by lia),decide_eq_true h0,decide_eq_true h1]
 rfl
end
end L2
namespace Pr
theorem c2a{n i j:Nat}(e:i % n=j % n)(h1:i<j+n)(h2:j<i+n):i=j:=by
 have a:=Nat.sub_mod_eq_zero_of_mod_eq e;have b:=Nat.sub_mod_eq_zero_of_mod_eq e.symm;have c:i-j=0:=by
  have:i-j<n:=by lia
  rwa [Nat.mod_eq_of_lt this] at a
 have d:j-i=0:=by
  have:j-i<n:=by lia
  rwa [Nat.mod_eq_of_lt this] at b
 lia
def lap(n i:Nat):Nat:=(i / n) % 2
theorem b5s(n i:Nat):lap n i<2:=Nat.mod_lt _ ↑2
theorem c7f{n i:Nat}(h:0<n):lap n (i+n)=1-lap n i:=by
 unfold lap;rw[Nat.add_div_right _ h];lia
theorem b9b(n i:Nat):(i % (2*n)) % n=i % n:=Nat.mod_mod_of_dvd _ ⟨2,by lia⟩
theorem c7o(n i:Nat):(i % (2*n)) / n=lap n i:=by
 unfold lap;rw[Nat.mul_comm 2 n,Nat.mod_mul_right_div_self]
theorem b6j{n i:Nat}(h:0<n):i % (2*n)<2*n:=Nat.mod_lt _ ↑2
theorem c0b{n i j:Nat}(e:i % (2*n)=j % (2*n))(h1:i<=j+n)(h2:j<=i+n)(h:0<n):i=j:=c2a e ↑2 ↑2
noncomputable def b6d(n i q:Nat):Nat:=if q<i % n then lap n i else 1-lap n i
abbrev Cells:=Nat->Int
noncomputable def put(c:Cells)(i:Nat)(v:Int):Cells:=λj=>if j=i then v else c j
theorem put_same(c:Cells)(i:Nat)(v:Int):put c i v i=v:=if_pos rfl
theorem put_ne(c:Cells){i j:Nat}(v:Int)(h:j≠i):put c i v j=c j:=if_neg h
noncomputable def mkv(n f i:Nat):Int:=2*(lap n i:Int)+(if f<=i then 1 else 0)
structure Marks(n f g:Nat)(c:Cells):Prop where
 old:∀i,i<g->g<=i+n->c (4*(i % n))=mkv n f i
 new:∀q,q<n->g<=q->c (4*q)=2
section
variable{n f g t:Nat}{c:Cells}
theorem Marks.give(h:Marks n f g c)(hn:0<n)(fg:f<=g)(gf:g<f+n):Marks n f (g+1) (put c (4*(g % n)) (2*(lap n g:Int)+1)) where
 old:=λi h1 h2=>by
  by_cases e:i=g
  ·subst e
   rw[put_same];unfold mkv;rw[if_pos fg]
  ·have ne:i % n≠g % n:=λz=>e (c2a z ↑2 ↑2)
   rw[put_ne _ _ ↑2];exact h.old i ↑2 ↑2
 new:=λq h1 h2=>by
  have ne:q≠g % n:=by
   rw[Nat.mod_eq_of_lt ↑2];lia
  rw[put_ne _ _ ↑2];exact h.new q h1 ↑2
theorem Marks.free(h:Marks n f g c)(hn:0<n)(fg:f<g)(gf:g<=f+n):Marks n (f+1) g (put c (4*(f % n)) (2*(lap n f:Int))) where
 old:=λi h1 h2=>by
  by_cases e:i=f
  ·subst e
   rw[put_same];unfold mkv;rw[if_neg ↑2];lia
  ·have ne:i % n≠f % n:=λz=>e (c2a z ↑2 ↑2)
   rw[put_ne _ _ ↑2,h.old i h1 h2];unfold mkv;by_cases z:f<=i
   ·rw[if_pos z,if_pos ↑2]
   ·rw[if_neg z,if_neg ↑2]
 new:=λq h1 h2=>by
  have ne:q≠f % n:=by
   rw[Nat.mod_eq_of_lt ↑2];lia
  rw[put_ne _ _ ↑2];exact h.new q h1 h2
theorem Marks.other(h:Marks n f g c){i:Nat}{v:Int}(hn:0<n)(ne:∀q,q<n->i≠4*q):Marks n f g (put c i v) where
 old:=λj h1 h2=>by rw[put_ne _ _ (Ne.symm (ne _ (Nat.mod_lt _ hn)))];exact h.old j h1 h2
 new:=λq h1 h2=>by rw[put_ne _ _ (Ne.symm (ne _ h1))];exact h.new q h1 h2
theorem Marks.mayGive(h:Marks n f g c)(hn:0<n)(fg:f<=g)(gf:g<=f+n):c (4*(g % n))=2*(1-(lap n g:Int)) ↔ g<f+n:=by
 by_cases z:g<n
 ·have e:g % n=g:=Nat.mod_eq_of_lt z
  have l0:lap n g=0:=by unfold lap;rw[Nat.div_eq_of_lt z]
  rw[e,h.new g z ↑31,l0];lia
 ·obtain⟨i,rfl⟩:∃i,g=i+n:=⟨g-n,by lia⟩
  have l:=c7f (i:=i) hn;have l2:=b5s n i;rw[Nat.add_mod_right,h.old i ↑2 ↑2,l];unfold mkv;by_cases y:f<=i
  ·rw[if_pos y];lia
  ·rw[if_neg y];lia
theorem Marks.mayTake(h:Marks n f g c)(hn:0<n)(ft:f<=t)(tg:t<=g)(gf:g<=f+n):c (4*(t % n))=2*(lap n t:Int)+1 ↔ t<g:=by
 by_cases z:t<g
 ·rw[h.old t z ↑2]
  unfold mkv;rw[if_pos ft];lia
 ·have e:t=g:=by lia
  subst e;by_cases y:t<n
  ·have e:t % n=t:=Nat.mod_eq_of_lt y
   have l0:lap n t=0:=by unfold lap;rw[Nat.div_eq_of_lt y]
   rw[e,h.new t y ↑31,l0];lia
  ·obtain⟨i,rfl⟩:∃i,t=i+n:=⟨t-n,by lia⟩
   have l:=c7f (i:=i) hn;have l2:=b5s n i;rw[Nat.add_mod_right,h.old i ↑2 ↑2,l];unfold mkv;by_cases y:f<=i
   ·rw[if_pos y];lia
   ·rw[if_neg y];lia
theorem a5n{n i q:Nat}(hq:q<n)(k:Nat)(e:i=n*k+q):i % n=q/\i / n=k:=by
 subst e;constructor
 ·rw[Nat.mul_add_mod,Nat.mod_eq_of_lt hq]
 ·rw[Nat.mul_add_div ↑2,Nat.div_eq_of_lt hq];lia
theorem c7e{n g q:Nat}(hn:0<n)(hq:q<n):(g<=q/\¬ q<g % n/\lap n g=0) \/ ∃i,i<g/\g<=i+n/\i % n=q/\(lap n i=if q<g % n then lap n g else 1-lap n g):=by
 have hg:=Nat.div_add_mod g n;have hr:=Nat.mod_lt g hn;by_cases z:q<g % n
 ·refine .inr ⟨n*(g / n)+q,by lia,by lia,(a5n hq _ rfl).1,?_⟩
  rw[if_pos z];unfold lap;rw[(a5n hq _ rfl).2]
 ·by_cases y:g<n
  ·refine .inl ⟨?_,z,?_⟩
   ·rw[Nat.mod_eq_of_lt y] at z;lia
   ·unfold lap;rw[Nat.div_eq_of_lt y]
  ·have h1:1<=g / n:=(Nat.one_le_div_iff hn).mpr ↑2
   obtain⟨k,hk⟩:∃k,g / n=k+1:=⟨g / n-1,by lia⟩
   have e2:n*(g / n)=n*k+n:=by rw[hk,Nat.mul_succ]
   refine .inr ⟨n*k+q,by lia,by lia,(a5n hq _ rfl).1,?_⟩
   rw[if_neg z];unfold lap;rw[(a5n hq _ rfl).2,hk];lia
theorem Marks.laps(h:Marks n f g c)(hn:0<n){q:Nat}(hq:q<n):c (4*q) / 2=(b6d n g q:Int):=by
 unfold b6d;rcases c7e (g:=g) hn hq with ⟨a,b,l⟩|⟨i,h1,h2,e,l⟩
 ·rw[h.new q hq a,if_neg b,l];rfl
 ·have:=h.old i h1 h2
  rw[e] at this;rw[this,<- l];unfold mkv;have:=b5s n i;split <;> lia
theorem Marks.sides(h:Marks n f g c)(hn:0<n)(fg:f<=g)(gf:g<=f+n){q:Nat}(hq:q<n):(if c (4*q) / 2≠c (4*q) % 2 then (1:Int) else 0)=(b6d n f q:Int):=by
 unfold b6d;have lf:=b5s n f;rcases c7e (g:=f) hn hq with ⟨a,b,l⟩|⟨i,h1,h2,e,l⟩
 ·rw[if_neg b,l]
  by_cases z:g<=q
  ·rw[h.new q hq z];rfl
  ·have e:q % n=q:=Nat.mod_eq_of_lt hq
   have:=h.old q ↑2 ↑2;rw[e] at this;have l0:lap n q=0:=by unfold lap;rw[Nat.div_eq_of_lt hq]
   have e1:mkv n f q=1:=by unfold mkv;rw[l0,if_pos a];rfl
   rw[this,e1]
   rfl
 ·rw[<- l]
  have li:=b5s n i;by_cases z:g<=i+n
  ·have:=h.old i ↑2 z
   rw[e] at this;have e1:mkv n f i=2*(lap n i:Int):=by unfold mkv;rw[if_neg ↑2];lia
   rw[this,e1];split <;> lia
  ·have:=h.old (i+n) ↑2 ↑2
   rw[Nat.add_mod_right,e] at this;have e1:mkv n f (i+n)=2*((1-lap n i:Nat):Int)+1:=by unfold mkv;rw[c7f hn,if_pos ↑2]
   rw[this,e1];split <;> lia
theorem Marks.range(h:Marks n f g c)(hn:0<n){q:Nat}(hq:q<n):0<=c (4*q)/\c (4*q)<=3:=by
 rcases c7e (g:=g) hn hq with ⟨a,b,l⟩|⟨i,h1,h2,e,l⟩
 ·rw[h.new q hq a];lia
 ·have:=h.old i h1 h2
  rw[e] at this;rw[this];unfold mkv;have:=b5s n i;split <;> lia
end
end Pr
namespace Pr
def tot(os:List ↑26):Nat:=os.flatten.length
noncomputable def i8:List ↑26->Nat->Nat
 | [],_=>0
 | o::os,i=>if i<o.length then 0 else i8 os (i-o.length)+1
noncomputable def j2:List ↑26->Nat->Nat
 | [],_=>0
 | o::os,i=>if i<o.length then o.length-1-i else j2 os (i-o.length)
def x9(os:List ↑26)(i:Nat):Int:=os.flatten.getD i 0
def beg(os:List ↑26)(j:Nat):Nat:=tot (os.take j)
theorem a4w(o:List Int)(os:List ↑26):tot (o::os)=o.length+tot os:=by simp[tot]
theorem c9g(os ps:List ↑26):tot (os++ps)=tot os+tot ps:=by simp[tot]
theorem a0c(o:List Int)(os:List ↑26)(j:Nat):beg (o::os) (j+1)=o.length+beg os j:=by simp[beg,a4w]
theorem a0s(os:List ↑26):beg os 0=0:=by simp[beg,tot]
def Good(n:Nat)(os:List ↑26):Prop:=∀o∈os,1<=o.length/\o.length<=n
theorem Good.tail{n:Nat}{o:List Int}{os:List ↑26}(h:Good n (o::os)):Good n os:=λp hp=>h p (List.mem_cons_of_mem _ hp)
theorem Good.head{n:Nat}{o:List Int}{os:List ↑26}(h:Good n (o::os)):1<=o.length/\o.length<=n:=h o List.mem_cons_self
theorem a3p:∀{os:List ↑26}{i:Nat},i<tot os->i8 os i<os.length
 | [],i,h=>by simp[tot] at h
 | o::os,i,h=>by
  rw[a4w] at h;unfold i8;split
  ·simp
  ·have:=a3p (os:=os) (i:=i-o.length) ↑2
   simp;lia
theorem y7{n:Nat}:∀{os:List ↑26}{i:Nat},i<tot os->beg os (i8 os i)<=i/\i+j2 os i+1=beg os (i8 os i+1)
 | [],i,h=>by simp[tot] at h
 | o::os,i,h=>by
  rw[a4w] at h;unfold i8 j2;split
  ·rename_i hi
   rw[a0s,a0c,a0s];lia
  ·have:=y7 (n:=n) (os:=os) (i:=i-o.length) ↑2
   rw[a0c,a0c];lia
theorem c9b:∀(os:List ↑26){j k:Nat},j<=k->beg os j<=beg os k
 | [],j,k,h=>by simp[beg,tot]
 | o::os,0,k,h=>by rw[a0s];lia
 | o::os,j+1,0,h=>by lia
 | o::os,j+1,k+1,h=>by
  rw[a0c,a0c];have:=c9b os (j:=j) (k:=k) ↑2;lia
theorem a9w:∀(os:List ↑26)(j:Nat),beg os j<=tot os
 | [],j=>by simp[beg,tot]
 | o::os,0=>by rw[a0s];lia
 | o::os,j+1=>by rw[a0c,a4w];have:=a9w os j;lia
theorem d4a(os:List ↑26){j:Nat}(h:os.length<=j):beg os j=tot os:=by unfold beg;rw[List.take_of_length_le h]
theorem a3o:∀{os:List ↑26}{i j:Nat},beg os j<=i->i<beg os (j+1)->i8 os i=j
 | [],i,j,h1,h2=>by simp[beg,tot] at h2
 | o::os,i,0,h1,h2=>by
  rw[a0c,a0s] at h2;unfold i8;rw[if_pos ↑2]
 | o::os,i,j+1,h1,h2=>by
  rw[a0c] at h1 h2;unfold i8;rw[if_neg ↑2,a3o (os:=os) (i:=i-o.length) (j:=j) ↑2 ↑2]
theorem next_part{os:List ↑26}{i:Nat}(hi:i<tot os)(hl:0<j2 os i):i+1<tot os/\i8 os (i+1)=i8 os i/\j2 os (i+1)+1=j2 os i:=by
 obtain⟨a,b⟩:=y7 (n:=0) hi;have c:=a9w os (i8 os i+1);have d:i8 os (i+1)=i8 os i:=a3o ↑2 ↑2;obtain⟨e,e2⟩:=y7 (n:=0) (os:=os) (i:=i+1) ↑2;rw[d] at e2;exact⟨by lia,d,by lia⟩
theorem c9c{n:Nat}:∀{os:List ↑26}{j:Nat},Good n os->j<os.length->beg os j<beg os (j+1)/\beg os (j+1)<=beg os j+n
 | [],j,h,hj=>by simp at hj
 | o::os,0,h,hj=>by
  rw[a0c,a0s,a0s];have:=h.head;lia
 | o::os,j+1,h,hj=>by
  rw[a0c,a0c];have:=c9c (os:=os) (j:=j) h.tail (by simp at hj;lia)
  lia
theorem next_order{n:Nat}{os:List ↑26}{i:Nat}(g:Good n os)(hi:i+1<tot os)(hl:j2 os i=0):i8 os (i+1)=i8 os i+1/\beg os (i8 os i+1)=i+1:=by
 obtain⟨a,b⟩:=y7 (n:=0) (os:=os) (i:=i) ↑2;rw[hl] at b;have nl:=a3p (os:=os) (i:=i) ↑2;have c:i8 os i+1<os.length:=by
  by_cases z:i8 os i+1<os.length
  ·exact z
  ·have:=d4a os (j:=i8 os i+1) ↑2
   lia
 have d:=c9c g c;exact⟨a3o ↑2 ↑2,by lia⟩
theorem d2j{n:Nat}{os:List ↑26}(g:Good n os)(h:0<tot os):i8 os 0=0:=by
 cases os with
 | nil=>simp[tot] at h
 | cons o os=>
  unfold i8;rw[if_pos (by have:=g.head;lia)]
theorem b6k{os:List ↑26}{j:Nat}{o:List Int}(h:os[j]?=some o):∀m,m<o.length->x9 os (beg os j+m)=o.getD m 0:=by
 induction os generalizing j with
 | nil=>simp at h
 | cons p os ih=>
  intro m hm;cases j with
  | zero=>
   simp at h;subst h;rw[a0s,Nat.zero_add];unfold x9;rw[List.flatten_cons,List.getD_eq_getElem?_getD,List.getElem?_append_left hm,List.getD_eq_getElem?_getD]
  | succ j=>
   have h':os[j]?=some o:=by simpa using h
   rw[a0c,<- ih h' m hm];unfold x9;rw[List.flatten_cons,List.getD_eq_getElem?_getD,List.getD_eq_getElem?_getD,List.getElem?_append_right ↑2]
   congr 2
   lia
theorem c9a{os:List ↑26}{j:Nat}{o:List Int}(h:os[j]?=some o):beg os (j+1)=beg os j+o.length:=by
 induction os generalizing j with
 | nil=>simp at h
 | cons p os ih=>
  cases j with
  | zero=>
   simp at h;subst h;rw[a0c,a0s,a0s];lia
  | succ j=>
   have h':os[j]?=some o:=by simpa using h
   rw[a0c,a0c,ih h'];lia
theorem a1b:∀{os ps:List ↑26}{i:Nat},i<tot os->i8 (os++ps) i=i8 os i/\j2 (os++ps) i=j2 os i
 | [],ps,i,h=>by simp[tot] at h
 | o::os,ps,i,h=>by
  rw[a4w] at h;rw[List.cons_append];unfold i8 j2;by_cases z:i<o.length
  ·simp only[if_pos z];exact⟨trivial,trivial⟩
  ·simp only[if_neg z]
   have:=a1b (os:=os) (ps:=ps) (i:=i-o.length) ↑2;rw[this.1,this.2];exact⟨rfl,rfl⟩
theorem a9o{os ps:List ↑26}{i:Nat}(h:i<tot os):x9 (os++ps) i=x9 os i:=by
 unfold x9;rw[List.flatten_append,List.getD_eq_getElem?_getD,List.getElem?_append_left h,List.getD_eq_getElem?_getD]
theorem c8i{os ps:List ↑26}{j:Nat}(h:j<=os.length):beg (os++ps) j=beg os j:=by
 unfold beg;rw[List.take_append_of_le_length h]
end Pr
namespace Pr
inductive Stg where
 | rouse|clear|mute|marks|told|lacks|look|wish|again|sleep|hush|unwish|number|left|thing|mark|card|ring|free
 deriving DecidableEq
structure Ln where
 n:Nat
 c:Cells
 os:List ↑26
 bk:List ↑26
 gs:Stg
 gseen:List Int
 ts:Stg
 tseen:List Int
 f:Nat
 g:Nat
 t:Nat
noncomputable abbrev Ln.put(s:Ln)(i:Nat)(v:Int):Ln:={ s with c:=Pr.put s.c i v }
noncomputable def v4(os:List ↑26)(a k:Nat):List Int:=(List.range k).map λm=>x9 os (a+m)
noncomputable def gstep(s:Ln):Ln :=
 match s.gs with
 | .rouse=>{ s.put (4*s.n+3) 1 with gs:=.clear }
 | .clear=>{ s.put (4*s.n) (-1) with gs:=.mute }
 | .mute=>{ s.put (4*s.n+2) 0 with gs:=.marks }
 | .marks=>if s.gseen.length+1<s.n then { s with gseen:=s.gseen++[s.c (4*s.gseen.length)] } else { s with gseen:=[],gs:=.told }
 | .told=>{ s with gs:=.lacks }
 | .lacks=>{ s with gs:=.look }
 | .look=>if s.g<tot s.os then (if s.c (4*(s.g % s.n))=2*(1-(lap s.n s.g:Int)) then { s with gs:=.number } else { s with gs:=.wish }) else s
 | .wish=>{ s.put (4*s.n) ((s.g % (2*s.n):Nat):Int) with gs:=.again }
 | .again=>if s.c (4*(s.g % s.n))=2*(1-(lap s.n s.g:Int)) then { s with gs:=.unwish } else { s with gs:=.sleep }
 | .sleep=>if s.c (4*s.n+2)=0 then s else { s with gs:=.hush }
 | .hush=>{ s.put (4*s.n+2) 0 with gs:=.unwish }
 | .unwish=>{ s.put (4*s.n) (-1) with gs:=.look }
 | .number=>{ s.put (4*(s.g % s.n)+1) (i8 s.os s.g) with gs:=.left }
 | .left=>{ s.put (4*(s.g % s.n)+2) (j2 s.os s.g) with gs:=.thing }
 | .thing=>{ s.put (4*(s.g % s.n)+3) (x9 s.os s.g) with gs:=.mark }
 | .mark=>{ s.put (4*(s.g % s.n)) (2*(lap s.n s.g:Int)+1) with gs:=.card,g:=s.g+1 }
 | .card=>if s.c (4*s.n+1)=(((s.g-1) % (2*s.n):Nat):Int) then { s with gs:=.ring } else { s with gs:=.look }
 | .ring=>{ s.put (4*s.n+3) 1 with gs:=.look }
 | .free=>s
noncomputable def a2q(s:Ln):Ln:=if s.f=s.t+1 then { s with ts:=.look,t:=s.f } else { s with ts:=.free }
noncomputable def tstep(s:Ln):Ln :=
 match s.ts with
 | .rouse=>{ s.put (4*s.n+2) 1 with ts:=.clear }
 | .clear=>{ s.put (4*s.n+1) (-1) with ts:=.mute }
 | .mute=>{ s.put (4*s.n+3) 0 with ts:=.marks }
 | .marks=>if s.tseen.length+1<s.n then { s with tseen:=s.tseen++[s.c (4*s.tseen.length)] } else { s with tseen:=[],ts:=.look }
 | .look=>if s.c (4*(s.t % s.n))=2*(lap s.n s.t:Int)+1 then { s with ts:=.number } else { s with ts:=.wish }
 | .wish=>{ s.put (4*s.n+1) ((s.t % (2*s.n):Nat):Int) with ts:=.again }
 | .again=>if s.c (4*(s.t % s.n))=2*(lap s.n s.t:Int)+1 then { s with ts:=.unwish } else { s with ts:=.sleep }
 | .sleep=>if s.c (4*s.n+3)=0 then s else { s with ts:=.hush }
 | .hush=>{ s.put (4*s.n+3) 0 with ts:=.unwish }
 | .unwish=>{ s.put (4*s.n+1) (-1) with ts:=.look }
 | .number=>{ s with ts:=.left }
 | .left=>{ s with ts:=.thing }
 | .thing=>if 0<j2 s.os s.t then { s with ts:=.look,t:=s.t+1 } else { s with ts:=.free,bk:=if i8 s.os s.t=s.bk.length then s.bk++[v4 s.os s.f (s.t+1-s.f)] else s.bk }
 | .free=>{ s.put (4*(s.f % s.n)) (2*(lap s.n s.f:Int)) with ts:=.card,f:=s.f+1 }
 | .card=>if s.c (4*s.n)=(((s.f-1+s.n) % (2*s.n):Nat):Int) then { s with ts:=.ring } else a2q s
 | .ring=>a2q (s.put (4*s.n+2) 1)
 | .told|.lacks|.mark=>s
def a0t(s:Ln)(o:List Int):Ln:={ s with os:=s.os++[o] }
noncomputable def Stg.wait:Stg->Bool
 | .wish|.again|.sleep|.hush|.unwish=>true
 | _=>false
noncomputable def Stg.gives:Stg->Bool
 | .number|.left|.thing|.mark=>true
 | _=>false
noncomputable def Stg.takes:Stg->Bool
 | .number|.left|.thing=>true
 | _=>false
def Stg.frees:Stg->Bool
 | .card|.ring=>true
 | _=>false
structure Core(s:Ln):Prop where
 n2:2<=s.n
 n8:s.n<=8
 good:Good s.n s.os
 fg:s.f<=s.g
 gf:s.g<=s.f+s.n
 gt:s.g<=tot s.os
 mks:Marks s.n s.f s.g s.c
 slip:∀i,i<s.g->(s.g<i+s.n\/s.f<=i)->s.c (4*(i % s.n)+1)=i8 s.os i/\s.c (4*(i % s.n)+2)=j2 s.os i/\s.c (4*(i % s.n)+3)=x9 s.os i
 slip0:s.g=0->s.c (4*(s.n-1)+1)=-1/\s.c (4*(s.n-1)+2)=0
structure GOk(s:Ln):Prop where
 st:s.gs≠.free
 seen0:s.gs≠.marks->s.gseen=[]
 seen:s.gseen.length<s.n/\∀q m,s.gseen[q]?=some m->m / 2=(b6d s.n s.g q:Int)/\0<=m/\m<=3
 want:s.gs.wait=true->s.g<tot s.os
 room:s.gs.gives=true->s.g<tot s.os/\s.g<s.f+s.n
 c1:s.gs=.left\/s.gs=.thing\/s.gs=.mark->s.c (4*(s.g % s.n)+1)=i8 s.os s.g
 c2:s.gs=.thing\/s.gs=.mark->s.c (4*(s.g % s.n)+2)=j2 s.os s.g
 c3:s.gs=.mark->s.c (4*(s.g % s.n)+3)=x9 s.os s.g
 pos:s.gs.frees=true->0<s.g
structure TOk(s:Ln):Prop where
 st:s.ts≠.told/\s.ts≠.lacks/\s.ts≠.mark
 seen0:s.ts≠.marks->s.tseen=[]
 seen:s.tseen.length<s.n/\∀q m,s.tseen[q]?=some m->(if m / 2≠m % 2 then (1:Int) else 0)=(b6d s.n s.f q:Int)/\0<=m/\m<=3
 bk:s.bk=s.os.take s.bk.length
 bl:s.bk.length<=s.os.length
 bf:s.f<=beg s.os s.bk.length
 bf0:∀b,s.bk.length=b+1->beg s.os b<=s.f
 ft:s.f<=s.t+(if s.ts.frees then 1 else 0)
 tg:s.t<=s.g
 run:∀i,s.f<=i+(if s.ts.frees then 1 else 0)->i<s.t->0<j2 s.os i
 come:s.ts=.rouse\/s.ts=.clear\/s.ts=.mute\/s.ts=.marks->s.t=s.f
 lies:s.ts.takes=true->s.t<s.g
 last:s.ts=.free\/s.ts.frees=true->s.t<s.g/\j2 s.os s.t=0/\i8 s.os s.t+1=s.bk.length
 pos:s.ts.frees=true->0<s.f
structure Ok(s:Ln):Prop where
 core:Core s
 gv:GOk s
 tk:TOk s
section
variable{s:Ln}
theorem Core.pl(h:Core s)(i:Nat):i % s.n<s.n:=Nat.mod_lt _ (by have:=h.n2;lia)
theorem Core.high(h:Core s){k:Nat}{v:Int}(hk:4*s.n<=k):Core (s.put k v):=by
 have hn:0<s.n:=by have:=h.n2;lia
 exact {
  n2:=h.n2,n8:=h.n8,good:=h.good,fg:=h.fg,gf:=h.gf,gt:=h.gt
  mks:=h.mks.other hn λq hq=>by lia
  slip:=λi h1 h2=>by
   have:=h.pl i;obtain⟨a,b,c⟩:=h.slip i h1 h2;refine⟨?_,?_,?_⟩
   ·exact(put_ne _ _ (by show 4*(i % s.n)+1≠k;lia)).trans a
   ·exact(put_ne _ _ (by show 4*(i % s.n)+2≠k;lia)).trans b
   ·exact(put_ne _ _ (by show 4*(i % s.n)+3≠k;lia)).trans c
  slip0:=λe=>by
   have:=h.n2;obtain⟨a,b⟩:=h.slip0 e;exact⟨(put_ne _ _ (by show 4*(s.n-1)+1≠k;lia)).trans a,(put_ne _ _ (by show 4*(s.n-1)+2≠k;lia)).trans b⟩ }
theorem Core.ahead(h:Core s)(room:s.g<s.f+s.n){k:Nat}{v:Int}(k1:1<=k)(k3:k<=3):Core (s.put (4*(s.g % s.n)+k) v):=by
 have hn:0<s.n:=by have:=h.n2;lia
 have hp:=h.pl s.g;exact {
  n2:=h.n2,n8:=h.n8,good:=h.good,fg:=h.fg,gf:=h.gf,gt:=h.gt
  mks:=h.mks.other hn λq hq=>by lia
  slip:=λi h1 h2=>by
   have h1':i<s.g:=h1;have h2':s.g<i+s.n\/s.f<=i:=h2;have ne:i % s.n≠s.g % s.n:=λz=>by have:=c2a z ↑2 ↑2;lia
   obtain⟨a,b,c⟩:=h.slip i h1 h2;refine⟨?_,?_,?_⟩
   ·exact(put_ne _ _ (by show 4*(i % s.n)+1≠_;lia)).trans a
   ·exact(put_ne _ _ (by show 4*(i % s.n)+2≠_;lia)).trans b
   ·exact(put_ne _ _ (by show 4*(i % s.n)+3≠_;lia)).trans c
  slip0:=λe=>by
   have:=h.n2;have e':s.g=0:=e;have hz:s.g % s.n=0:=by rw[e',Nat.zero_mod]
   obtain⟨a,b⟩:=h.slip0 e;exact⟨(put_ne _ _ (by show 4*(s.n-1)+1≠_;lia)).trans a,(put_ne _ _ (by show 4*(s.n-1)+2≠_;lia)).trans b⟩ }
end
end Pr
namespace Pr
section
variable{s:Ln}
theorem Core.cong{s':Ln}(h:Core s)(e1:s'.n=s.n)(e2:s'.c=s.c)(e3:s'.os=s.os)(e4:s'.f=s.f)(e5:s'.g=s.g):Core s':=by
 obtain⟨n,c,os,bk,gs,gseen,ts,tseen,f,g,t⟩:=s;obtain⟨n',c',os',bk',gs',gseen',ts',tseen',f',g',t'⟩:=s';dsimp only at e1 e2 e3 e4 e5;subst e1 e2 e3 e4 e5;exact⟨h.n2,h.n8,h.good,h.fg,h.gf,h.gt,h.mks,h.slip,h.slip0⟩
theorem TOk.giver{s':Ln}(h:TOk s)(e1:s'.n=s.n)(e2:s'.os=s.os)(e3:s'.bk=s.bk)(e4:s'.ts=s.ts)(e5:s'.tseen=s.tseen)(e6:s'.f=s.f)(e7:s'.t=s.t)(le:s.g<=s'.g):TOk s':=by
 obtain⟨n,c,os,bk,gs,gseen,ts,tseen,f,g,t⟩:=s;obtain⟨n',c',os',bk',gs',gseen',ts',tseen',f',g',t'⟩:=s';dsimp only at e1 e2 e3 e4 e5 e6 e7 le;subst e1 e2 e3 e4 e5 e6 e7;exact⟨h.st,h.seen0,h.seen,h.bk,h.bl,h.bf,h.bf0,h.ft,Nat.le_trans h.tg le,h.run,h.come,λz=>Nat.lt_of_lt_of_le (h.lies z) le,λz=>⟨Nat.lt_of_lt_of_le (h.last z).1 le,(h.last z).2⟩,h.pos⟩
theorem GOk.taker{s':Ln}(h:GOk s)(e1:s'.n=s.n)(e2:s'.os=s.os)(e3:s'.gs=s.gs)(e4:s'.gseen=s.gseen)(e5:s'.g=s.g)(le:s.f<=s'.f)(hc:∀k,1<=k->k<=3->s'.c (4*(s.g % s.n)+k)=s.c (4*(s.g % s.n)+k)):GOk s':=by
 obtain⟨n,c,os,bk,gs,gseen,ts,tseen,f,g,t⟩:=s;obtain⟨n',c',os',bk',gs',gseen',ts',tseen',f',g',t'⟩:=s';dsimp only at e1 e2 e3 e4 e5 le hc;subst e1 e2 e3 e4 e5;refine⟨h.st,h.seen0,h.seen,h.want,λz=>⟨(h.room z).1,by have:=(h.room z).2;show g'<f'+n';dsimp only at this;lia⟩,λz=>?_,λz=>?_,λz=>?_,h.pos⟩
 ·exact(hc 1 ↑2 ↑2).trans (h.c1 z)
 ·exact(hc 2 ↑2 ↑2).trans (h.c2 z)
 ·exact(hc 3 ↑2 ↑2).trans (h.c3 z)
theorem Ok.hn(h:Ok s):0<s.n:=by have:=h.core.n2;lia
theorem b6e{n:Nat}(hn:0<n)(P:Nat->Int->Prop):([]:List Int).length<n/\∀q m,([]:List Int)[q]?=some m->P q m:=⟨hn,λq m e=>by simp at e⟩
theorem a6k{s:Ln}(hs:s.gseen=[])(hn:0<s.n)(st:s.gs≠.free:=by fail "Y1")(want:s.gs.wait=true->s.g<tot s.os:=by fail "Y2")(room:s.gs.gives=true->s.g<tot s.os/\s.g<s.f+s.n:=by fail "Y2")(c1:s.gs=.left\/s.gs=.thing\/s.gs=.mark->s.c (4*(s.g % s.n)+1)=i8 s.os s.g:=by fail "Y2")(c2:s.gs=.thing\/s.gs=.mark->s.c (4*(s.g % s.n)+2)=j2 s.os s.g:=by fail "Y2")(c3:s.gs=.mark->s.c (4*(s.g % s.n)+3)=x9 s.os s.g:=by fail "Y2")(pos:s.gs.frees=true->0<s.g:=by fail "Y2"):GOk s :=
 ⟨st,λ_=>hs,by rw[hs];exact b6e hn _,want,room,c1,c2,c3,pos⟩
theorem c5p{s:Ln}(hs:s.tseen=[])(hn:0<s.n)(bk:s.bk=s.os.take s.bk.length)(bl:s.bk.length<=s.os.length)(bf:s.f<=beg s.os s.bk.length)(bf0:∀b,s.bk.length=b+1->beg s.os b<=s.f)(ft:s.f<=s.t+(if s.ts.frees then 1 else 0))(tg:s.t<=s.g)(run:∀i,s.f<=i+(if s.ts.frees then 1 else 0)->i<s.t->0<j2 s.os i)(st:s.ts≠.told/\s.ts≠.lacks/\s.ts≠.mark:=by fail "Y1")(come:s.ts=.rouse\/s.ts=.clear\/s.ts=.mute\/s.ts=.marks->s.t=s.f:=by fail "Y2")(lies:s.ts.takes=true->s.t<s.g:=by fail "Y2")(last:s.ts=.free\/s.ts.frees=true->s.t<s.g/\j2 s.os s.t=0/\i8 s.os s.t+1=s.bk.length:=by fail "Y2")(pos:s.ts.frees=true->0<s.f:=by fail "Y2"):TOk s :=
 ⟨st,λ_=>hs,by rw[hs];exact b6e hn _,bk,bl,bf,bf0,ft,tg,run,come,lies,last,pos⟩
theorem g0(h:Ok s){x:Stg}(e:s.gs=x)(n:x≠.marks:=by decide):s.gseen=[]:=h.gv.seen0 (by rw[e];exact n)
theorem t0(h:Ok s){x:Stg}(e:s.ts=x)(n:x≠.marks:=by decide):s.tseen=[]:=h.tk.seen0 (by rw[e];exact n)
theorem Ok.gmv(h:Ok s){x:Stg}{c':Cells}(core':Core { s with c:=c' })(gv:GOk { s with c:=c',gs:=x }):Ok { s with c:=c',gs:=x }:=⟨core'.cong rfl rfl rfl rfl rfl,gv,h.tk.giver rfl rfl rfl rfl rfl rfl rfl (Nat.le_refl _)⟩
theorem c2g(h:Ok s):Ok (gstep s):=by
 have hn:=h.hn;have n2:=h.core.n2;have hp:=h.core.pl s.g;have mg:=h.core.mks.mayGive hn h.core.fg h.core.gf;unfold gstep;split <;> rename_i e
 ·exact h.gmv (h.core.high ↑2) (a6k (g0 h e :) hn)
 ·exact h.gmv (h.core.high ↑2) (a6k (g0 h e :) hn)
 ·exact h.gmv (h.core.high ↑2) (a6k (g0 h e :) hn)
 ·split
  ·rename_i hl
   refine⟨h.core.cong rfl rfl rfl rfl rfl,⟨h.gv.st,λz=>absurd e z,⟨?_,λq m hq=>?_⟩,h.gv.want,h.gv.room,h.gv.c1,h.gv.c2,h.gv.c3,h.gv.pos⟩,h.tk.giver rfl rfl rfl rfl rfl rfl rfl ↑31⟩
   ·show(s.gseen++[_]).length<s.n
    rw[List.length_append];exact hl
   ·have hq':(s.gseen++[s.c (4*s.gseen.length)])[q]?=some m:=hq
    by_cases z:q<s.gseen.length
    ·rw[List.getElem?_append_left z] at hq'
     exact h.gv.seen.2 q m hq'
    ·rw[List.getElem?_append_right ↑2] at hq'
     have hz:q=s.gseen.length:=by
      have:=(List.getElem?_eq_some_iff.mp hq').1;simp at this;lia
     subst hz;simp at hq';subst hq';exact⟨h.core.mks.laps hn h.gv.seen.1,h.core.mks.range hn h.gv.seen.1⟩
  ·exact⟨h.core.cong rfl rfl rfl rfl rfl,a6k rfl hn,h.tk.giver rfl rfl rfl rfl rfl rfl rfl ↑31⟩
 ·exact h.gmv h.core (a6k (g0 h e :) hn)
 ·exact h.gmv h.core (a6k (g0 h e :) hn)
 ·split
  ·rename_i ht
   split
   ·rename_i hm
    exact h.gmv h.core (a6k (g0 h e :) hn (room:=λ_=>⟨ht,mg.mp hm⟩))
   ·exact h.gmv h.core (a6k (g0 h e :) hn (want:=λ_=>ht))
  ·exact h
 ·exact h.gmv (h.core.high ↑2) (a6k (g0 h e :) hn (want:=λ_=>h.gv.want (by rw[e];rfl)))
 ·split <;> exact h.gmv h.core (a6k (g0 h e :) hn (want:=λ_=>h.gv.want (by rw[e];rfl)))
 ·split
  ·exact h
  ·exact h.gmv h.core (a6k (g0 h e :) hn (want:=λ_=>h.gv.want (by rw[e];rfl)))
 ·exact h.gmv (h.core.high ↑2) (a6k (g0 h e :) hn (want:=λ_=>h.gv.want (by rw[e];rfl)))
 ·exact h.gmv (h.core.high ↑2) (a6k (g0 h e :) hn)
 ·have r:=h.gv.room (by rw[e];rfl)
  exact h.gmv (h.core.ahead r.2 ↑2 ↑2) (a6k (g0 h e :) hn (room:=λ_=>r) (c1:=λ_=>put_same _ _ _))
 ·have r:=h.gv.room (by rw[e];rfl)
  exact h.gmv (h.core.ahead r.2 ↑2 ↑2) (a6k (g0 h e :) hn (room:=λ_=>r) (c1:=λ_=>(put_ne _ _ ↑2).trans (h.gv.c1 (.inl e))) (c2:=λ_=>put_same _ _ _))
 ·have r:=h.gv.room (by rw[e];rfl)
  exact h.gmv (h.core.ahead r.2 ↑2 ↑2) (a6k (g0 h e :) hn (room:=λ_=>r) (c1:=λ_=>(put_ne _ _ ↑2).trans (h.gv.c1 (.inr (.inl e)))) (c2:=λ_=>(put_ne _ _ ↑2).trans (h.gv.c2 (.inl e))) (c3:=λ_=>put_same _ _ _))
 ·obtain⟨r1,r2⟩:=h.gv.room (by rw[e];rfl)
  have par:∀{i k:Nat}{v:Int},1<=k->k<=3->put s.c (4*(s.g % s.n)) v (4*(i % s.n)+k)=s.c (4*(i % s.n)+k):=λ{i k v} _ _=>put_ne _ _ ↑2;refine⟨⟨n2,h.core.n8,h.core.good,Nat.le_succ_of_le h.core.fg,r2,r1,h.core.mks.give hn h.core.fg r2,λi h1 h2=>?_,λz=>absurd z (Nat.succ_ne_zero _)⟩,a6k (g0 h e :) hn (pos:=λ_=>Nat.succ_pos _),h.tk.giver rfl rfl rfl rfl rfl rfl rfl (Nat.le_succ _)⟩;have h1':i<s.g+1:=h1;have h2':s.g+1<i+s.n\/s.f<=i:=h2;show put s.c (4*(s.g % s.n)) _ (4*(i % s.n)+1)=_/\put s.c (4*(s.g % s.n)) _ (4*(i % s.n)+2)=_/\put s.c (4*(s.g % s.n)) _ (4*(i % s.n)+3)=_;rw[par ↑2 ↑2,par ↑2 ↑2,par ↑2 ↑2];by_cases z:i=s.g
  ·subst z;exact⟨h.gv.c1 (.inr (.inr e)),h.gv.c2 (.inr e),h.gv.c3 e⟩
  ·exact h.core.slip i ↑2 ↑2
 ·split
  ·exact h.gmv h.core (a6k (g0 h e :) hn (pos:=λ_=>h.gv.pos (by rw[e];rfl)))
  ·exact h.gmv h.core (a6k (g0 h e :) hn)
 ·exact h.gmv (h.core.high ↑2) (a6k (g0 h e :) hn)
 ·exact absurd e h.gv.st
end
end Pr
namespace Pr
section
variable{s:Ln}
theorem c6b{os:List ↑26}{a t:Nat}(ht:t<tot os)(run:∀i,a<=i->i<t->0<j2 os i):∀k,a<=t-k->i8 os (t-k)=i8 os t
 | 0,_=>rfl
 | k+1,h=>by
  by_cases z:t<=k
  ·have e1:t-(k+1)=t-k:=by lia
   rw[e1];exact c6b ht run k ↑2
  ·have ih:=c6b ht run k ↑2
   have:=(next_part (os:=os) (i:=t-(k+1)) ↑2 (run _ h ↑2)).2.1;rw[<- this,show t-(k+1)+1=t-k by lia]
   exact ih
theorem d8y{os:List ↑26}{a t:Nat}(ht:t<tot os)(at_:a<=t)(run:∀i,a<=i->i<t->0<j2 os i):i8 os a=i8 os t:=by
 have:=c6b ht run (t-a) ↑2
 rwa [show t-(t-a)=a by lia] at this
theorem Ok.tmv(h:Ok s){x:Stg}{c':Cells}(hs:s.tseen=[])(core':Core { s with c:=c' })(kc:∀k,1<=k->k<=3->c' (4*(s.g % s.n)+k)=s.c (4*(s.g % s.n)+k))(hf:x.frees=s.ts.frees)(hx:x≠.told/\x≠.lacks/\x≠.mark:=by decide)(hc:x=.rouse\/x=.clear\/x=.mute\/x=.marks->s.t=s.f:=by fail "Y3")(hl:x.takes=true->s.t<s.g:=by fail "Y3")(hx2:x=.free\/x.frees=true->s.t<s.g/\j2 s.os s.t=0/\i8 s.os s.t+1=s.bk.length:=by fail "Y3"):
  Ok { s with c:=c',ts:=x } :=
 ⟨core'.cong rfl rfl rfl rfl rfl,h.gv.taker rfl rfl rfl rfl rfl ↑31 kc,c5p hs h.hn h.tk.bk h.tk.bl h.tk.bf h.tk.bf0 (by show s.f<=s.t+(if x.frees then 1 else 0);rw[hf];exact h.tk.ft) h.tk.tg (by
   show ∀i,s.f<=i+(if x.frees then 1 else 0)->_;rw[hf];exact h.tk.run) hx hc hl hx2 λz=>h.tk.pos (by rw[<- hf];exact z)⟩
theorem c8q(core:Core s)(gv:GOk s)(tk:TOk s)(hf:s.ts.frees=true)(hs:s.tseen=[]):Ok (a2q s):=by
 have ft:=tk.ft;have run:=tk.run;have lst:=tk.last (.inr hf);have hn:0<s.n:=by have:=core.n2;lia
 rw[hf] at ft run;simp only[if_true] at ft run;unfold a2q;split
 ·exact⟨core.cong rfl rfl rfl rfl rfl,gv.taker rfl rfl rfl rfl rfl ↑31 (λ_ _ _=>rfl),c5p hs hn tk.bk tk.bl tk.bf tk.bf0 ↑31 core.fg λi h1 h2=>absurd h2 (Nat.not_lt_of_le h1)⟩
 ·exact⟨core.cong rfl rfl rfl rfl rfl,gv.taker rfl rfl rfl rfl rfl ↑31 (λ_ _ _=>rfl),c5p hs hn tk.bk tk.bl tk.bf tk.bf0 (by show s.f<=s.t+0;lia) tk.tg (λi (h1:s.f<=i+0) h2=>run i ↑2 h2) (last:=λ_=>lst)⟩
theorem d0v{os:List ↑26}{B:Nat}{o:List Int}(h:os[B]?=some o):v4 os (beg os B) o.length=o:=by
 apply List.ext_getElem?;intro i;unfold v4;rw[List.getElem?_map];by_cases z:i<o.length
 ·rw[List.getElem?_range z,Option.map_some,b6k h i z,List.getD_eq_getElem?_getD,List.getElem?_eq_getElem z]
  rfl
 ·rw[List.getElem?_eq_none (by rw[List.length_range];lia),List.getElem?_eq_none ↑2]
  rfl
theorem booked(core:Core s)(tk:TOk s)(hf:s.ts.frees=false)(tg:s.t<s.g)(h0:j2 s.os s.t=0):
  let bk':=if i8 s.os s.t=s.bk.length then s.bk++[v4 s.os s.f (s.t+1-s.f)] else s.bk
  bk'=s.os.take bk'.length/\bk'.length<=s.os.length/\s.f<=beg s.os bk'.length/\(∀b,bk'.length=b+1->beg s.os b<=s.f)/\i8 s.os s.t+1=bk'.length:=by
 intro bk';have ft:=tk.ft;have run:=tk.run;rw[hf] at ft run;simp only[Bool.false_eq_true,if_false,Nat.add_zero] at ft run;have tt:s.t<tot s.os:=Nat.lt_of_lt_of_le tg core.gt;have nf:i8 s.os s.f=i8 s.os s.t:=d8y tt ft run;obtain⟨a1,a2⟩:=y7 (n:=0) tt;obtain⟨d1,d2⟩:=y7 (n:=0) (os:=s.os) (i:=s.f) ↑2;have nl:=a3p tt;rw[h0] at a2;by_cases e:i8 s.os s.t=s.bk.length
 ·have hbk':bk'=s.bk++[v4 s.os s.f (s.t+1-s.f)]:=if_pos e
  have hl:bk'.length=s.bk.length+1:=by rw[hbk',List.length_append];rfl
  rw[nf,e] at d1;rw[e] at a2 nl;have ef:s.f=beg s.os s.bk.length:=by have:=tk.bf;lia
  have ho:s.os[s.bk.length]?=some s.os[s.bk.length]:=List.getElem?_eq_getElem nl;have hs:=c9a ho;have hth:v4 s.os s.f (s.t+1-s.f)=s.os[s.bk.length]:=by
   have:=d0v ho;rw[<- ef] at this;rw[show s.t+1-s.f=s.os[s.bk.length].length by lia]
   exact this
  refine⟨?_,?_,?_,λb hb=>?_,?_⟩
  ·rw[hl,hbk',hth,List.take_succ,ho]
   show s.bk++_=s.os.take s.bk.length++_;rw[<- tk.bk]
   rfl
  ·rw[hl];lia
  ·rw[hl];have:=c9b s.os (j:=s.bk.length) (k:=s.bk.length+1) ↑2;lia
  ·rw[hl] at hb
   have:b=s.bk.length:=by lia
   rw[this];lia
  ·rw[hl,e]
 ·have hbk':bk'=s.bk:=if_neg e
  rw[hbk'];refine⟨tk.bk,tk.bl,tk.bf,tk.bf0,?_⟩;have bf:=tk.bf;have lt:s.f<beg s.os s.bk.length:=by
   by_cases z:s.f<beg s.os s.bk.length
   ·exact z
   ·exfalso
    by_cases y:s.bk.length<s.os.length
    ·have:=c9c core.good y
     exact e (nf ▸ a3o (os:=s.os) (i:=s.f) (j:=s.bk.length) ↑2 ↑2)
    ·have:=d4a s.os (j:=s.bk.length) ↑2
     lia
  cases hb:s.bk.length with
  | zero=>rw[hb,a0s] at lt;lia
  | succ b=>
   rw[hb] at lt;have:=tk.bf0 b hb;rw[<- nf,a3o this lt]
theorem c0d(h:Ok s):Ok (tstep s):=by
 have hn:=h.hn;have n2:=h.core.n2;have hp:=h.core.pl s.g;have high:∀{j:Nat}{v:Int}(k:Nat),1<=k->k<=3->put s.c (4*s.n+j) v (4*(s.g % s.n)+k)=s.c (4*(s.g % s.n)+k):=λ{j v} k _ _=>put_ne _ _ ↑2;unfold tstep;split <;> rename_i e
 ·exact h.tmv (t0 h e) (h.core.high ↑2) high (by rw[e];rfl) (hc:=λ_=>h.tk.come (.inl e))
 ·exact h.tmv (t0 h e) (h.core.high ↑2) high (by rw[e];rfl) (hc:=λ_=>h.tk.come (.inr (.inl e)))
 ·exact h.tmv (t0 h e) (h.core.high ↑2) high (by rw[e];rfl) (hc:=λ_=>h.tk.come (.inr (.inr (.inl e))))
 ·have ft:=h.tk.ft
  have run:=h.tk.run;rw[e] at ft run;split
  ·rename_i hl
   refine⟨h.core.cong rfl rfl rfl rfl rfl,h.gv.taker rfl rfl rfl rfl rfl ↑31 (λ_ _ _=>rfl),⟨h.tk.st,λz=>absurd e z,⟨?_,λq m hq=>?_⟩,h.tk.bk,h.tk.bl,h.tk.bf,h.tk.bf0,h.tk.ft,h.tk.tg,h.tk.run,h.tk.come,h.tk.lies,h.tk.last,h.tk.pos⟩⟩
   ·show(s.tseen++[_]).length<s.n
    rw[List.length_append];exact hl
   ·have hq':(s.tseen++[s.c (4*s.tseen.length)])[q]?=some m:=hq
    by_cases z:q<s.tseen.length
    ·rw[List.getElem?_append_left z] at hq'
     exact h.tk.seen.2 q m hq'
    ·rw[List.getElem?_append_right ↑2] at hq'
     have hz:q=s.tseen.length:=by
      have:=(List.getElem?_eq_some_iff.mp hq').1;simp at this;lia
     subst hz;simp at hq';subst hq';exact⟨h.core.mks.sides hn h.core.fg h.core.gf h.tk.seen.1,h.core.mks.range hn h.tk.seen.1⟩
  ·exact⟨h.core.cong rfl rfl rfl rfl rfl,h.gv.taker rfl rfl rfl rfl rfl ↑31 (λ_ _ _=>rfl),c5p rfl hn h.tk.bk h.tk.bl h.tk.bf h.tk.bf0 ft h.tk.tg run⟩
 ·have ft:=h.tk.ft
  rw[e] at ft;split
  ·rename_i hm
   exact h.tmv (t0 h e) h.core (λ_ _ _=>rfl) (by rw[e];rfl) (hl:=λ_=>(h.core.mks.mayTake hn ft h.tk.tg h.core.gf).mp hm)
  ·exact h.tmv (t0 h e) h.core (λ_ _ _=>rfl) (by rw[e];rfl)
 ·exact h.tmv (t0 h e) (h.core.high ↑2) high (by rw[e];rfl)
 ·split <;> exact h.tmv (t0 h e) h.core (λ_ _ _=>rfl) (by rw[e];rfl)
 ·split
  ·exact h
  ·exact h.tmv (t0 h e) h.core (λ_ _ _=>rfl) (by rw[e];rfl)
 ·exact h.tmv (t0 h e) (h.core.high ↑2) high (by rw[e];rfl)
 ·exact h.tmv (t0 h e) (h.core.high ↑2) high (by rw[e];rfl)
 ·exact h.tmv (t0 h e) h.core (λ_ _ _=>rfl) (by rw[e];rfl) (hl:=λ_=>h.tk.lies (by rw[e];rfl))
 ·exact h.tmv (t0 h e) h.core (λ_ _ _=>rfl) (by rw[e];rfl) (hl:=λ_=>h.tk.lies (by rw[e];rfl))
 ·have hl:=h.tk.lies (by rw[e];rfl)
  have ft:=h.tk.ft;have run:=h.tk.run;have hfr:s.ts.frees=false:=by rw[e];rfl
  rw[hfr] at ft run;simp only[Bool.false_eq_true,if_false,Nat.add_zero] at ft run;split
  ·rename_i hlf
   refine⟨h.core.cong rfl rfl rfl rfl rfl,h.gv.taker rfl rfl rfl rfl rfl ↑31 (λ_ _ _=>rfl),c5p (t0 h e :) hn h.tk.bk h.tk.bl h.tk.bf h.tk.bf0 (Nat.le_succ_of_le ft) hl λi (h1:s.f<=i+0) (h2:i<s.t+1)=>?_⟩;by_cases z:i=s.t
   ·rw[z];exact hlf
   ·exact run i ↑2 ↑2
  ·rename_i hlf
   obtain⟨k1,k2,k3,k4,k5⟩:=booked h.core h.tk hfr hl ↑2;exact⟨h.core.cong rfl rfl rfl rfl rfl,h.gv.taker rfl rfl rfl rfl rfl ↑31 (λ_ _ _=>rfl),c5p (t0 h e :) hn k1 k2 k3 k4 ft h.tk.tg run (last:=λ_=>⟨hl,Nat.eq_zero_of_not_pos hlf,k5⟩)⟩
 ·obtain⟨l1,l2,l3⟩:=h.tk.last (.inl e)
  have ft:=h.tk.ft;have run:=h.tk.run;have hfr:s.ts.frees=false:=by rw[e];rfl
  rw[hfr] at ft run;simp only[Bool.false_eq_true,if_false,Nat.add_zero] at ft run;have hpf:=h.core.pl s.f;have fg:s.f<s.g:=by lia
  have par:∀{i k:Nat}{v:Int},1<=k->k<=3->put s.c (4*(s.f % s.n)) v (4*(i % s.n)+k)=s.c (4*(i % s.n)+k):=λ{i k v} _ _=>put_ne _ _ ↑2;obtain⟨_,io⟩:=y7 (n:=0) (os:=s.os) (i:=s.t) (by have:=h.core.gt;lia)
  rw[l2,l3] at io;refine⟨⟨n2,h.core.n8,h.core.good,fg,by have:=h.core.gf;show s.g<=s.f+1+s.n;lia,h.core.gt,h.core.mks.free hn fg h.core.gf,λi h1 (h2:s.g<i+s.n\/s.f+1<=i)=>?_,λz=>absurd z (by show s.g≠0;lia)⟩,h.gv.taker rfl rfl rfl rfl rfl (Nat.le_succ _) (λk k1 k3=>par k1 k3),c5p (t0 h e :) hn h.tk.bk h.tk.bl (by show s.f+1<=beg s.os s.bk.length;lia) (λb hb=>Nat.le_succ_of_le (h.tk.bf0 b hb)) (Nat.succ_le_succ ft) h.tk.tg (λi h1 h2=>run i (Nat.le_of_succ_le_succ h1) h2) (last:=λ_=>⟨l1,l2,l3⟩) (pos:=λ_=>Nat.succ_pos _)⟩
  show put s.c (4*(s.f % s.n)) _ (4*(i % s.n)+1)=_/\put s.c (4*(s.f % s.n)) _ (4*(i % s.n)+2)=_/\put s.c (4*(s.f % s.n)) _ (4*(i % s.n)+3)=_;rw[par ↑2 ↑2,par ↑2 ↑2,par ↑2 ↑2];exact h.core.slip i h1 ↑2
 ·split
  ·exact h.tmv (t0 h e) h.core (λ_ _ _=>rfl) (by rw[e];rfl) (hx2:=λ_=>h.tk.last (.inr (by rw[e];rfl)))
  ·exact c8q h.core h.gv h.tk (by rw[e];rfl) (t0 h e)
 ·exact c8q (s:=s.put (4*s.n+2) 1) (h.core.high ↑2) (h.gv.taker rfl rfl rfl rfl rfl ↑31 high) (h.tk.giver rfl rfl rfl rfl rfl rfl rfl ↑31) (by show s.ts.frees=true;rw[e];rfl) (t0 h e :)
 ·exact absurd e h.tk.st.1
 ·exact absurd e h.tk.st.2.1
 ·exact absurd e h.tk.st.2.2
end
end Pr
namespace Pr
section
variable{s:Ln}
theorem b8g(h:Ok s){o:List Int}(ho:1<=o.length/\o.length<=s.n):Ok (a0t s o):=by
 have le:tot s.os<=tot (s.os++[o]):=by rw[c9g];lia
 have gt:=h.core.gt;have tg:=h.tk.tg;have mn:∀{i:Nat},i<s.g->i8 (s.os++[o]) i=i8 s.os i:=λhi=>(a1b ↑2).1;have ml:∀{i:Nat},i<s.g->j2 (s.os++[o]) i=j2 s.os i:=λhi=>(a1b ↑2).2;have mt:∀{i:Nat},i<s.g->x9 (s.os++[o]) i=x9 s.os i:=λhi=>a9o ↑2;have mb:∀{b:Nat},b<=s.os.length->beg (s.os++[o]) b=beg s.os b:=λhb=>c8i hb;refine⟨⟨h.core.n2,h.core.n8,?_,h.core.fg,h.core.gf,Nat.le_trans gt le,h.core.mks,λi h1 h2=>?_,h.core.slip0⟩,⟨h.gv.st,h.gv.seen0,h.gv.seen,λz=>Nat.lt_of_lt_of_le (h.gv.want z) le,λz=>⟨Nat.lt_of_lt_of_le (h.gv.room z).1 le,(h.gv.room z).2⟩,λz=>?_,λz=>?_,λz=>?_,h.gv.pos⟩,
  ⟨h.tk.st,h.tk.seen0,h.tk.seen,?_,?_,?_,λb hb=>?_,h.tk.ft,h.tk.tg,λi h1 h2=>?_,h.tk.come,h.tk.lies,λz=>?_,h.tk.pos⟩⟩
 ·intro p hp
  rcases List.mem_append.mp hp with hp|hp
  ·exact h.core.good p hp
  ·rw[List.mem_singleton.mp hp];exact ho
 ·have h1':i<s.g:=h1
  show s.c _=((i8 (s.os++[o]) i:Nat):Int)/\s.c _=((j2 (s.os++[o]) i:Nat):Int)/\s.c _=x9 (s.os++[o]) i;rw[mn h1',ml h1',mt h1'];exact h.core.slip i h1 h2
 ·have hg:s.g<tot s.os:=by
   refine (h.gv.room ?_).1;rcases z with z|z|z <;> (have z':s.gs=_:=z;rw[z'];rfl)
  show s.c _=((i8 (s.os++[o]) s.g:Nat):Int);rw[(a1b hg).1];exact h.gv.c1 z
 ·have hg:s.g<tot s.os:=by
   refine (h.gv.room ?_).1;rcases z with z|z <;> (have z':s.gs=_:=z;rw[z'];rfl)
  show s.c _=((j2 (s.os++[o]) s.g:Nat):Int);rw[(a1b hg).2];exact h.gv.c2 z
 ·have hg:s.g<tot s.os:=by
   refine (h.gv.room ?_).1;have z':s.gs=_:=z;rw[z'];rfl
  show s.c _=x9 (s.os++[o]) s.g;rw[a9o hg];exact h.gv.c3 z
 ·show s.bk=(s.os++[o]).take s.bk.length
  rw[List.take_append_of_le_length h.tk.bl];exact h.tk.bk
 ·show s.bk.length<=(s.os++[o]).length
  rw[List.length_append];have:=h.tk.bl;lia
 ·show s.f<=beg (s.os++[o]) s.bk.length
  rw[mb h.tk.bl];exact h.tk.bf
 ·have hb':s.bk.length=b+1:=hb
  show beg (s.os++[o]) b<=s.f;rw[mb (by have:=h.tk.bl;lia)]
  exact h.tk.bf0 b hb
 ·have h2':i<s.t:=h2
  show 0<j2 (s.os++[o]) i;rw[ml ↑2];exact h.tk.run i h1 h2
 ·obtain⟨a,b,c⟩:=h.tk.last z
  refine⟨a,?_,?_⟩
  ·show j2 (s.os++[o]) s.t=0
   rw[ml a];exact b
  ·show i8 (s.os++[o]) s.t+1=s.bk.length
   rw[mn a];exact c
noncomputable def a5m(n:Nat):Cells:=λi=>if i<4*n then (if i % 4=0 then 2 else if i % 4=1 then -1 else 0) else if i<4*n+2 then -1 else 0
noncomputable def a0i(n:Nat):Ln:={ n:=n,c:=a5m n,os:=[],bk:=[],gs:=.rouse,gseen:=[],ts:=.rouse,tseen:=[],f:=0,g:=0,t:=0 }
theorem b9n{n:Nat}(h2:2<=n)(h8:n<=8):Ok (a0i n):=by
 have hn:0<n:=by lia
 refine⟨⟨h2,h8,λ_ h=>by simp[a0i] at h,Nat.le_refl _,Nat.zero_le _,Nat.zero_le _,⟨λi h=>absurd h (Nat.not_lt_zero _),λq h1 h2=>?_⟩,λi h=>absurd h (Nat.not_lt_zero _),λ_=>⟨?_,?_⟩⟩,
  ⟨by unfold a0i;dsimp only;decide,λ_=>rfl,b6e hn _,λz=>absurd z (by unfold a0i;dsimp only;decide),λz=>absurd z (by unfold a0i;dsimp only;decide),λz=>absurd z (by unfold a0i;dsimp only;decide),λz=>absurd z (by unfold a0i;dsimp only;decide),λz=>absurd z (by unfold a0i;dsimp only;decide),λz=>absurd z (by unfold a0i;dsimp only;decide)⟩,
  ⟨by unfold a0i;dsimp only;decide,λ_=>rfl,b6e hn _,rfl,Nat.le_refl _,Nat.zero_le _,λb hb=>by simp[a0i] at hb,Nat.zero_le _,Nat.le_refl _,λi _ h=>absurd h (Nat.not_lt_zero _),λ_=>rfl,λz=>absurd z (by unfold a0i;dsimp only;decide),λz=>absurd z (by unfold a0i;dsimp only;decide),λz=>absurd z (by unfold a0i;dsimp only;decide)⟩⟩
 ·have h1':q<n:=h1
  show a5m n (4*q)=2;unfold a5m;rw[if_pos ↑2,if_pos ↑2]
 ·show a5m n (4*(n-1)+1)=-1
  unfold a5m;rw[if_pos ↑2,if_neg ↑2,if_pos ↑2]
 ·show a5m n (4*(n-1)+2)=0
  unfold a5m;rw[if_pos ↑2,if_neg ↑2,if_neg ↑2]
end
end Pr
namespace S
open PySem L2
def top(i:Nat):Stmt:=PySem.Challenge.pw_slipring_k16_trails_judged.main.body.getD i (.Pass ⟨0,0,0,0⟩)
structure Cl where
 Board:Addr
 Hand:Addr
 Giver:Addr
 Taker:Addr
 Lane:Addr
 t_HANDS:Addr
 d_DEEDS_hand:Addr
 d_DEEDS_giver:Addr
 d_DEEDS_taker:Addr
structure Txt(K:↑28)(mg:Str->Option Value)(cl:Cl):Prop where
 c_Board:ExM mg "Board" cl.Board
 c_Hand:ExM mg "Hand" cl.Hand
 c_Giver:ExM mg "Giver" cl.Giver
 c_Taker:ExM mg "Taker" cl.Taker
 c_Lane:ExM mg "Lane" cl.Lane
 m_LEAST_SIZE:∃t,mg "LEAST_SIZE" = some (.int (2) t)
 m_MOST_SIZE:∃t,mg "MOST_SIZE" = some (.int (8) t)
 m_FREE:∃t,mg "FREE" = some (.int (0) t)
 m_FULL:∃t,mg "FULL" = some (.int (1) t)
 m_MOST_MARK:∃t,mg "MOST_MARK" = some (.int (3) t)
 m_CELLS_OF_A_PLACE:∃t,mg "CELLS_OF_A_PLACE" = some (.int (4) t)
 m_NEW_MARK:∃t,mg "NEW_MARK" = some (.int (2) t)
 m_NO_ORDER:∃t,mg "NO_ORDER" = some (.int (-1) t)
 m_NO_TURN:∃t,mg "NO_TURN" = some (.int (-1) t)
 m_STILL:∃t,mg "STILL" = some (.int (0) t)
 m_RUNG:∃t,mg "RUNG" = some (.int (1) t)
 r_HANDS:mg "HANDS" = some (.ref cl.t_HANDS)
 kt_HANDS:KTup K cl.t_HANDS [.str "giver",.str "taker"]
 k_Board:Cls K cl.Board
 n_Board_many_touches:NoAttr K cl.Board "many_touches"
 n_Board_newest_touch:NoAttr K cl.Board "newest_touch"
 n_Board_numbers:NoAttr K cl.Board "numbers"
 n_Board_size:NoAttr K cl.Board "size"
 k_Hand:Cls K cl.Hand
 n_Hand_board:NoAttr K cl.Hand "board"
 n_Hand_here:NoAttr K cl.Hand "here"
 n_Hand_marks_read:NoAttr K cl.Hand "marks_read"
 n_Hand_name:NoAttr K cl.Hand "name"
 n_Hand_other:NoAttr K cl.Hand "other"
 n_Hand_stage_behind_marks:NoAttr K cl.Hand "stage_behind_marks"
 n_Hand_stage_now:NoAttr K cl.Hand "stage_now"
 n_Hand_touched:NoAttr K cl.Hand "touched"
 k_Giver:Cls K cl.Giver
 n_Giver_board:NoAttr K cl.Giver "board"
 n_Giver_here:NoAttr K cl.Giver "here"
 n_Giver_kept:NoAttr K cl.Giver "kept"
 n_Giver_left:NoAttr K cl.Giver "left"
 n_Giver_marks_read:NoAttr K cl.Giver "marks_read"
 n_Giver_name:NoAttr K cl.Giver "name"
 n_Giver_number:NoAttr K cl.Giver "number"
 n_Giver_other:NoAttr K cl.Giver "other"
 n_Giver_stage_behind_marks:NoAttr K cl.Giver "stage_behind_marks"
 n_Giver_stage_now:NoAttr K cl.Giver "stage_now"
 n_Giver_touched:NoAttr K cl.Giver "touched"
 k_Taker:Cls K cl.Taker
 n_Taker_board:NoAttr K cl.Taker "board"
 n_Taker_here:NoAttr K cl.Taker "here"
 n_Taker_left:NoAttr K cl.Taker "left"
 n_Taker_marks_read:NoAttr K cl.Taker "marks_read"
 n_Taker_name:NoAttr K cl.Taker "name"
 n_Taker_not_freed:NoAttr K cl.Taker "not_freed"
 n_Taker_number:NoAttr K cl.Taker "number"
 n_Taker_other:NoAttr K cl.Taker "other"
 n_Taker_parts:NoAttr K cl.Taker "parts"
 n_Taker_stage_behind_marks:NoAttr K cl.Taker "stage_behind_marks"
 n_Taker_stage_now:NoAttr K cl.Taker "stage_now"
 n_Taker_taken:NoAttr K cl.Taker "taken"
 n_Taker_touched:NoAttr K cl.Taker "touched"
 k_Lane:Cls K cl.Lane
 n_Lane_board:NoAttr K cl.Lane "board"
 n_Lane_giver:NoAttr K cl.Lane "giver"
 n_Lane_kept_trail:NoAttr K cl.Lane "kept_trail"
 n_Lane_taker:NoAttr K cl.Lane "taker"
 n_Lane_touched:NoAttr K cl.Lane "touched"
 r_DEEDS_hand:mg "DEEDS_hand" = some (.ref cl.d_DEEDS_hand)
 r_DEEDS_giver:mg "DEEDS_giver" = some (.ref cl.d_DEEDS_giver)
 r_DEEDS_taker:mg "DEEDS_taker" = some (.ref cl.d_DEEDS_taker)
 z_len:mg "len" = none
 z_range:mg "range" = none
 z_max:mg "max" = none
 z_min:mg "min" = none
 z_isinstance:mg "isinstance" = none
 z_int:mg "int" = none
 z_bool:mg "bool" = none
 z_list:mg "list" = none
 z_all:mg "all" = none
set_option hygiene false in
local macro_rules | `(tactic| walk_at "len")=>`(tactic| first|(rw[h.1];rfl)|(obtain⟨_,h⟩:=h;walk_at "len")|(obtain⟨_,_,_,_,h⟩:=h;walk_at "len")|(obtain⟨_,_,_,_,_,_,h⟩:=h;walk_at "len")|(obtain⟨_,_,_,_,_,_,_,_,_,_,_,_,h⟩:=h;walk_at "len"))
local macro_rules | `(tactic| walk_at "at")=>`(tactic| first|assumption|exact d6|(refine (c9 ?_).trans ?_;(walk_at "ne");(walk_at "at"))|(refine Same.at ?_ ?_;assumption;(walk_at "at")))
local macro_rules | `(tactic| walk_at "ne")=>`(tactic| first|assumption|exact Ne.symm (by assumption)|((refine' i4 ?h ?n);(case n=>assumption);(case h=>walk_at "at"))|((refine Ne.symm ?_);(refine' i4 ?h ?n);(case n=>assumption);(case h=>walk_at "at")))
local macro_rules | `(tactic| walk_at "cond")=>`(tactic| first|trivial|exact Or.inl ⟨by decide,by decide⟩|exact Or.inr ⟨by decide,by decide⟩|exact Or.inl ⟨by lia,by lia⟩|exact Or.inr ⟨by lia,by lia⟩|(show(0:Int)<_;lia)|(show(0:Int)<_;decide))
local macro_rules | `(tactic| walk_at "go1")=>`(tactic| first
 | ((with_reducible refine' e4o ?h ?_);(case h=>exact rfl))
 | with_reducible refine g_c ?_|with_reducible refine e7a ?_|with_reducible refine e6w ?_|with_reducible refine e7k ?_|with_reducible refine g_U ?_
 | ((with_reducible refine' g_I ?h ?_);(case h=>walk_at "cond"))
 | ((with_reducible refine' e6h ?h ?_);(case h=>exact rfl))|((with_reducible refine' e7b ?h ?_);(case h=>exact rfl))
 | with_reducible refine e7h ?_|with_reducible refine e4x ?_|with_reducible refine e3e ?_
 | (with_reducible refine e4q ?_)|(with_reducible refine e5a ?_)|with_reducible refine e7f ?_|with_reducible refine g_fnJ ?_
 | with_reducible refine e5g ?_|with_reducible refine e7c ?_|with_reducible refine g_mtJ ?_|with_reducible refine e7d ?_|with_reducible refine g_mkJ ?_
 | with_reducible refine e2o ?_|with_reducible refine e6x ?_|with_reducible refine e5j ?_|with_reducible refine e6z ?_|with_reducible refine e4w ?_|with_reducible refine e3i ?_|with_reducible refine e4v ?_|with_reducible refine e2u ?_|with_reducible refine e5e ?_
 | with_reducible refine e7j ?_|with_reducible refine e3r ?_|with_reducible refine e2g ?_|with_reducible refine e4m ?_|with_reducible refine e4n ?_
 | ((with_reducible refine e2q ?_);intro _ _)|with_reducible refine e2v ?_|with_reducible refine e3c ?_|with_reducible refine e4s ?_|with_reducible refine g_retN ?_|with_reducible refine e7e ?_|with_reducible refine e5i ?_|with_reducible refine d3f ?_|with_reducible refine e4r ?_|with_reducible refine e2p ?_|with_reducible refine g_raise ?_|with_reducible refine g_tryAs ?_
 | ((with_reducible refine' e3b ?h ?c ?n ?l ?_);(case h=>walk_at "at");(case c=>walk_at "cls");(case n=>walk_at "nat");(case l=>first|exact rfl|assumption))
 | ((with_reducible refine' d9r ?h ?c ?n ?l ?_);(case h=>walk_at "at");(case c=>walk_at "cls");(case n=>walk_at "nat");(case l=>exact Nat.le_of_ble_eq_true rfl))
 | with_reducible refine e5h ?_|with_reducible refine e2s ?_
 | ((with_reducible refine' e3h ?h ?c ?n ?l ?_);(case h=>walk_at "at");(case c=>walk_at "cls");(case n=>walk_at "nat");(case l=>first|exact rfl|assumption))
 | ((with_reducible refine' e3g ?h ?l ?_);(case h=>walk_at "at");(case l=>exact Nat.le_of_ble_eq_true rfl))
 | ((with_reducible refine' e4z ?h ?l ?_);(case h=>walk_at "at");(case l=>exact rfl))
 | ((with_reducible refine' w9 ?h ?e ?_);(case h=>walk_at "at");(case e=>exact rfl))
 | ((with_reducible refine' e5c ?h ?e ?_);(case h=>walk_at "at");(case e=>exact rfl))
 | ((with_reducible refine' e5b ?h ?_);(case h=>walk_at "at"))|((with_reducible refine' e2y ?h ?_);(case h=>walk_at "at"))
 | with_reducible refine e5f ?_|with_reducible refine e2r ?_|with_reducible refine g_rng2 ?_|with_reducible refine e2w ?_|with_reducible refine e3f ?_
 | ((with_reducible refine' d7d ?h1 ?h2 ?_);(case h1=>lia);(case h2=>lia))|((with_reducible refine' d7d ?h1 ?h2 ?_);(case h1=>decide);(case h2=>decide))
 | ((with_reducible refine' e2x ?h ?_);(case h=>exact SqL.of (by walk_at "at")))
 | with_reducible refine g_bm0 ?_|((with_reducible refine' g_clear ?h ?_);(case h=>walk_at "at"))
 | with_reducible refine e7i ?_|((with_reducible refine' e4p ?h ?_);(case h=>walk_at "at"))|((with_reducible refine' d6m ?h ?l ?_);(case h=>walk_at "at");(case l=>first|exact Nat.le_of_ble_eq_true rfl|lia))
 | ((with_reducible refine' c4w ?h ?_);(case h=>assumption))|((with_reducible refine e3a ?_);intro _ _))
local macro_rules | `(tactic| walk_at "go")=>`(tactic| repeat (walk_at "go1"))
local macro_rules | `(tactic| fail "")=>`(tactic| walk_at "go")
set_option hygiene false in
local macro_rules | `(tactic| walk_at "st")=>`(tactic| ((fail "");(rw[a0m]);first|(rw[decide_eq_true (by rfl)])|(rw[decide_eq_false ↑4])))
local macro_rules | `(tactic| walk_at "ga")=>`(tactic| first|with_reducible refine a9d ?_|with_reducible refine a9c ?_)
set_option hygiene false in
local macro_rules | `(tactic| walk_at "cls")=>`(tactic| first|assumption|exact T.k_Board|exact T.k_Hand|exact T.k_Giver|exact T.k_Taker|exact T.k_Lane)
set_option hygiene false in
local macro_rules | `(tactic| walk_at "nat")=>`(tactic| first|assumption|exact T.n_Board_many_touches|exact T.n_Board_newest_touch|exact T.n_Board_numbers|exact T.n_Board_size|exact T.n_Hand_board|exact T.n_Hand_here|exact T.n_Hand_marks_read|exact T.n_Hand_name|exact T.n_Hand_other|exact T.n_Hand_stage_behind_marks|exact T.n_Hand_stage_now|exact T.n_Hand_touched|exact T.n_Giver_board|exact T.n_Giver_here|exact T.n_Giver_kept|exact T.n_Giver_left|exact T.n_Giver_marks_read|exact T.n_Giver_name|exact T.n_Giver_number|exact T.n_Giver_other|exact T.n_Giver_stage_behind_marks|exact T.n_Giver_stage_now|exact T.n_Giver_touched|exact T.n_Taker_board|exact T.n_Taker_here|exact T.n_Taker_left|exact T.n_Taker_marks_read|exact T.n_Taker_name|exact T.n_Taker_not_freed|exact T.n_Taker_number|exact T.n_Taker_other|exact T.n_Taker_parts|exact T.n_Taker_stage_behind_marks|exact T.n_Taker_stage_now|exact T.n_Taker_taken|exact T.n_Taker_touched|exact T.n_Lane_board|exact T.n_Lane_giver|exact T.n_Lane_kept_trail|exact T.n_Lane_taker|exact T.n_Lane_touched)
section
variable{P:Program}{w:World}{K:Frag}{mg:Str->Option Value}{base:Heap}{cl:Cl}
theorem b7o:1<=sizeLine:=by decide
def a0y(cl:Cl):Sp:=λvs H Q E=>∃n,vs=[.int n]/\(if 2<=n/\n<=8 then Q .non H else False)
def a6j(cl:Cl)(n t:Int)(H:Hp)(E:XK)(k:Prop):Prop:=if 2<=n/\n<=8 then (if 0<=t/\t<2*n then k else False) else False
theorem a4d{cl:Cl}{n t:Int}{H:Hp}{E:XK}{k k':Prop}(h:a6j cl n t H E k)(i:2<=n->n<=8->0<=t->t<2*n->k->k'):a6j cl n t H E k':=by
 unfold a6j at h ⊢;by_cases a:2<=n/\n<=8
 ·rw[if_pos a] at h ⊢
  by_cases b:0<=t/\t<2*n
  ·rw[if_pos b] at h ⊢;exact i a.1 a.2 b.1 b.2 h
  ·rw[if_neg b] at h ⊢;exact h
 ·rw[if_neg a] at h ⊢;exact h
def a4a(cl:Cl):Sp:=λvs H Q E=>∃n t,vs=[.int n,.int t]/\a6j cl n t H E (Q .non H)
def a6q(cl:Cl):Sp:=λvs H Q E=>∃n t,vs=[.int n,.int t]/\a6j cl n t H E (Q (.int (t % n)) H)
def b2l(cl:Cl):Sp:=λvs H Q E=>∃n t,vs=[.int n,.int t]/\a6j cl n t H E (Q (.int (t / n)) H)
def a4f(cl:Cl):Sp:=λvs H Q E=>∃n t m,vs=[.int n,.int t,.int m]/\a6j cl n t H E (Q (.int ((t+m) % (2*n))) H)
abbrev a8j:Stmt:=top 13
theorem c0r:g2 ["size"] ["size"] (d7 a8j):=↑1
theorem c1o(D:DefT K mg "check_size" a8j ["size"])(T:↑18):↑901 "check_size" 1 ["size"] (a0y cl):=by
 refine D.fn c0r ↑7 ↑8
 ·obtain⟨n,rfl,h⟩:=h
  refine⟨_,(d5 (m4 (PW.pt (c1e (g9 b7n (pv 0) (v9 T.m_LEAST_SIZE rfl) ↑32) (b3c (g9 b8q (pv 0) (v9 T.m_MOST_SIZE rfl) ↑32))))
    (d5 a5i)
    m3)),?_⟩
  refine⟨_,rfl,_,_,rfl,rfl,_,rfl,b2h (λc=>?_) (λc=>⟨_,rfl,_,_,rfl,rfl,_,rfl,b2h (λd=>?_) (λd=>?_)⟩)⟩
  ·rw[if_neg (by have:=of_decide_eq_true c;lia)] at h
   exact b2h (λ_=>h) (λz=>absurd rfl z)
  ·rw[if_neg (by have:=of_decide_eq_true d;lia)] at h
   exact h
  ·simp only[decide_eq_true_eq] at c d
   rw[if_pos ↑2] at h;exact h
abbrev a8i:Stmt:=top 14
theorem c0q:g2 ["size","turn"] ["size","turn"] (d7 a8i):=↑1
theorem c1n(D:DefT K mg "check_turn" a8i ["size","turn"])(T:↑18)(G_check_size:↑901 "check_size" 1 ["size"] (a0y cl)):↑901 "check_turn" 2 ["size","turn"] (a4a cl):=by
 refine D.fn c0q ↑7 ↑8
 ·obtain⟨n,t,rfl,h⟩:=h
  refine⟨_,(b9 (i3 (i5 G_check_size hr ↑4 rfl g4 ↑16))
   (d5 (m4 (PW.pt (c1e (g9 b7n (pv 1) d8 ↑32) (b3c (g9 d2d (pv 1) (g7 m6 d8 (pv 0)) ↑32))))
    (d5 a5i)
    m3))),?_⟩
  unfold a6j at h;refine⟨_,rfl,n,rfl,b2h (λa=>?_) (λa=>?_)⟩
  ·rw[if_pos a] at h
   simp[e4a,tOr,d8b,tOp,rI0,rI,e3m,tC,L2.start,d4u,d6v,d8c,CMul];refine b2h (λc=>?_) (λc=>b2h (λd=>?_) (λd=>?_))
   ·rw[if_neg ↑2] at h;exact h
   ·rw[if_neg ↑2] at h;exact h
   ·rw[if_pos ↑2] at h;exact h
  ·rw[if_neg a] at h
   exact h
abbrev b3w:Stmt:=top 15
theorem c5r:g2 ["size","turn"] ["size","turn"] (d7 b3w):=↑1
theorem c6h(D:DefT K mg "place_of" b3w ["size","turn"])(T:↑18)(G_check_turn:↑901 "check_turn" 2 ["size","turn"] (a4a cl)):↑901 "place_of" 3 ["size","turn"] (a6q cl):=by
 refine D.fn c5r ↑7 ↑8
 ·obtain⟨n,t,rfl,h⟩:=h
  refine⟨_,(b9 (i3 (i5 G_check_turn hr ↑4 rfl g4 (a9 (pv 0) ↑15)))
   (d5 (i9 (g7 a0f (pv 1) (pv 0))))),?_⟩
  refine⟨_,rfl,_,rfl,n,t,rfl,a4d h λn2 n8 t0 t1 q=>?_⟩;exact⟨_,rfl,_,rfl,_,_,rfl,rfl,↑2,q⟩
abbrev c1c:Stmt:=top 16
theorem d1c:g2 ["size","turn"] ["size","turn"] (d7 c1c):=↑1
theorem d8z(n:Int)(h0:0<n)(h:n<2 ^ 200):n.natAbs.log2<9000:=by
 have h1:n.natAbs<2 ^ 200:=by lia
 have h2:=(Nat.log2_lt (n:=n.natAbs) (k:=200) ↑2).mpr h1;lia
theorem d2g(D:DefT K mg "lap_of" c1c ["size","turn"])(T:↑18)(G_check_turn:↑901 "check_turn" 2 ["size","turn"] (a4a cl)):↑901 "lap_of" 3 ["size","turn"] (b2l cl):=by
 refine D.fn d1c ↑7 ↑8
 ·obtain⟨n,t,rfl,h⟩:=h
  refine⟨_,(b9 (i3 (i5 G_check_turn hr ↑4 rfl g4 (a9 (pv 0) ↑15)))
   (d5 (i9 (g7 a2n (pv 1) (pv 0))))),?_⟩
  refine⟨_,rfl,_,rfl,n,t,rfl,a4d h λn2 n8 t0 t1 q=>?_⟩;exact⟨_,rfl,_,rfl,_,_,rfl,rfl,⟨by lia,d8z n ↑2 ↑2⟩,q⟩
abbrev c1a:Stmt:=top 17
theorem d1b:g2 ["size","turn","many"] ["size","turn","many"] (d7 c1a):=↑1
theorem d2f(D:DefT K mg "onward" c1a ["size","turn","many"])(T:↑18)(G_check_turn:↑901 "check_turn" 2 ["size","turn"] (a4a cl)):↑901 "onward" 3 ["size","turn","many"] (a4f cl):=by
 refine D.fn d1b ↑7 ↑8
 ·obtain⟨n,t,m,rfl,h⟩:=h
  refine⟨_,(b9 (i3 (i5 G_check_turn hr ↑4 rfl g4 (a9 (pv 0) ↑15)))
   (d5 (i9 (g7 a0f (g7 j9 (pv 1) (pv 2)) (g7 m6 d8 (pv 0)))))),?_⟩
  refine⟨_,rfl,_,rfl,n,t,rfl,a4d h λn2 n8 t0 t1 q=>?_⟩;exact⟨_,rfl,_,rfl,_,_,rfl,rfl,_,rfl,_,_,rfl,rfl,.inl ⟨by decide,by decide⟩,_,_,rfl,rfl,↑2,q⟩
def d7a(cl:Cl)(m:Int)(H:Hp)(E:XK)(k:Prop):Prop:=if 0<=m/\m<=3 then k else False
def b2n(cl:Cl):Sp:=λvs H Q E=>∃m,vs=[.int m]/\d7a cl m H E (Q .non H)
def a9h:Sp:=λvs H Q E=>∃a b,vs=[.int a,.int b]/\Q (.int (2*a+b)) H
def a7s(cl:Cl):Sp:=λvs H Q E=>∃n t,vs=[.int n,.int t]/\a6j cl n t H E (Q (.int (2*(t / n)+1)) H)
def b5h(cl:Cl):Sp:=λvs H Q E=>∃n t,vs=[.int n,.int t]/\a6j cl n t H E (Q (.int (2*(t / n)+0)) H)
def a7p(cl:Cl):Sp:=λvs H Q E=>∃n t,vs=[.int n,.int t]/\a6j cl n t H E (Q (.int (2*(1-t / n)+0)) H)
abbrev a8k:Stmt:=top 22
theorem c0s:g2 ["mark"] ["mark"] (d7 a8k):=↑1
theorem c1p(D:DefT K mg "check_mark" a8k ["mark"])(T:↑18):↑901 "check_mark" 1 ["mark"] (b2n cl):=by
 refine D.fn c0s ↑7 ↑8
 ·obtain⟨n,rfl,h⟩:=h
  refine⟨_,(d5 (m4 (PW.pt (c1e (g9 b7n (pv 0) d8 ↑32) (b3c (g9 b8q (pv 0) (v9 T.m_MOST_MARK rfl) ↑32))))
    (d5 a5i)
    m3)),?_⟩
  unfold d7a at h;refine⟨_,rfl,_,_,rfl,rfl,_,rfl,b2h (λc=>?_) (λc=>⟨_,rfl,_,_,rfl,rfl,_,rfl,b2h (λd=>?_) (λd=>?_)⟩)⟩
  ·rw[if_neg (by have:=of_decide_eq_true c;lia)] at h
   exact b2h (λ_=>h) (λz=>absurd rfl z)
  ·rw[if_neg (by have:=of_decide_eq_true d;lia)] at h
   exact h
  ·simp only[decide_eq_true_eq] at c d
   rw[if_pos ↑2] at h;exact h
abbrev b7a:Stmt:=top 23
theorem c9h:g2 ["lap","side"] ["lap","side"] (d7 b7a):=↑1
theorem c9s(D:DefT K mg "mark_of" b7a ["lap","side"])(T:↑18):↑901 "mark_of" 1 ["lap","side"] a9h:=by
 refine D.fn c9h ↑7 ↑8
 ·obtain⟨a,b,rfl,h⟩:=h
  refine⟨_,(d5 (i9 (g7 j9 (g7 m6 d8 (pv 0)) (pv 1)))),?_⟩;exact⟨_,rfl,_,_,rfl,rfl,.inl ⟨by decide,by decide⟩,_,rfl,_,_,rfl,rfl,h⟩
abbrev b1m:Stmt:=top 26
theorem c3b:g2 ["size","turn"] ["size","turn"] (d7 b1m):=↑1
theorem c4g(D:DefT K mg "full_mark" b1m ["size","turn"])(T:↑18)(G_lap_of:↑901 "lap_of" 3 ["size","turn"] (b2l cl))(G_mark_of:↑901 "mark_of" 1 ["lap","side"] a9h):↑901 "full_mark" 4 ["size","turn"] (a7s cl):=by
 refine D.fn c3b ↑7 ↑8
 ·obtain⟨n,t,rfl,h⟩:=h
  refine⟨_,(d5 (i9 (i5 G_mark_of hr ↑4 rfl g4 (a9 (i5 G_lap_of hr ↑4 rfl g4 (a9 (pv 0) ↑15)) (a9 (v9 T.m_FULL rfl) d9))))),?_⟩;exact⟨_,rfl,_,rfl,n,t,rfl,a4d h λn2 n8 t0 t1 q=>⟨_,_,rfl,q⟩⟩
abbrev b1n:Stmt:=top 27
theorem c3c:g2 ["size","turn"] ["size","turn"] (d7 b1n):=↑1
theorem c4h(D:DefT K mg "free_mark" b1n ["size","turn"])(T:↑18)(G_lap_of:↑901 "lap_of" 3 ["size","turn"] (b2l cl))(G_mark_of:↑901 "mark_of" 1 ["lap","side"] a9h):↑901 "free_mark" 4 ["size","turn"] (b5h cl):=by
 refine D.fn c3c ↑7 ↑8
 ·obtain⟨n,t,rfl,h⟩:=h
  refine⟨_,(d5 (i9 (i5 G_mark_of hr ↑4 rfl g4 (a9 (i5 G_lap_of hr ↑4 rfl g4 (a9 (pv 0) ↑15)) (a9 (v9 T.m_FREE rfl) d9))))),?_⟩;exact⟨_,rfl,_,rfl,n,t,rfl,a4d h λn2 n8 t0 t1 q=>⟨_,_,rfl,q⟩⟩
theorem y9{cl:Cl}{n t:Int}{H:Hp}{E:XK}{k:Prop}(n2:2<=n)(n8:n<=8)(t0:0<=t)(t1:t<2*n)(h:k):a6j cl n t H E k:=by
 unfold a6j;rw[if_pos ⟨n2,n8⟩,if_pos ⟨t0,t1⟩];exact h
abbrev a5t:Stmt:=top 28
theorem b6t:g2 ["size","turn"] ["size","turn"] (d7 a5t):=↑1
theorem b7p(D:DefT K mg "mark_to_give" a5t ["size","turn"])(T:↑18)(G_lap_of:↑901 "lap_of" 3 ["size","turn"] (b2l cl))(G_mark_of:↑901 "mark_of" 1 ["lap","side"] a9h):↑901 "mark_to_give" 4 ["size","turn"] (a7p cl):=by
 refine D.fn b6t ↑7 ↑8
 ·obtain⟨n,t,rfl,h⟩:=h
  refine⟨_,(d5 (i9 (i5 G_mark_of hr ↑4 rfl g4 (a9 (g7 a3n d8 (i5 G_lap_of hr ↑4 rfl g4 (a9 (pv 0) ↑15))) (a9 (v9 T.m_FREE rfl) d9))))),?_⟩;exact⟨_,rfl,_,rfl,n,t,rfl,a4d h λn2 n8 t0 t1 q=>⟨_,_,rfl,rfl,_,_,rfl,q⟩⟩
def Well(H:Hp)(w:Addr):Prop:=∃a b p,H w=some (.lst [.int a,.int b,.int p])/\0<p/\p<2147483648
def But(w:Addr)(H H':Hp):Prop:=∀b o,H b=some o->b≠w->H' b=some o
theorem But.trans{w:Addr}{H H1 H2:Hp}(a:But w H H1)(b:But w H1 H2):But w H H2:=λc o e n=>b c o (a c o e n) n
theorem But.of{w:Addr}{H H':Hp}(s:Same H H'):But w H H':=λb o e _=>s b o e
theorem But.upd{w:Addr}{H:Hp}{o:HO}:But w H (upd H w o):=λb u e n=>by rw[c9 n];exact e
theorem g3{H:Hp}{p:Addr}{o:HO}(n:H p=none):Same H (upd H p o):=λb u e=>by rw[c9 (i4 e n)];exact e
theorem Well.same{H H':Hp}{w:Addr}(h:Well H w)(s:Same H H'):Well H' w:=let ⟨a,b,p,e,q⟩:=h;⟨a,b,p,s _ _ e,q⟩
theorem Well.at{H:Hp}{w:Addr}(h:Well H w):∃o,H w=some o:=let ⟨_,_,_,e,_⟩:=h;⟨_,e⟩
def a2t:Sp:=λvs H Q _=>∃w m,vs=[.ref w,.int m]/\Well H w/\0<m/\m<2 ^ 200/\∀r H',0<=r->r<m->Well H' w->But w H H'->Q (.int r) H'
abbrev b4b:Stmt:=top 107
theorem b6u:g2 ["well","many","got"] ["well","many"] (d7 b4b):=↑1
theorem c6m(D:DefT K mg "_law_take" b4b ["well","many"])(T:↑18):↑901 "_law_take" 1 ["well","many"] a2t:=by
 refine D.fn b6u ↑7 ↑8
 ·obtain⟨w,m,rfl,⟨a,b,p,hw,p0,p1⟩,m0,m1,k⟩:=h
  refine⟨_,(b9 (m4 (g9 b8q (l7 ↑12 (pv 0) d8 ↑10) d8 ↑32)
     (
     b9 (i6 (i:=2) b6u.nd rfl ↑23 (g7 a0f (l7 ↑12 (pv 0) d8 ↑10) (pv 1)))
     (b9 (a8u (g7 a2n (l7 ↑12 (pv 0) d8 ↑10) (pv 1)) (b5r (pv 0) d8 a5e))
     (d5 (i9 (pv 2)))))
     m3)
   (b9 (a8u (g7 j9 (g7 a0f (g7 m6 (l7 ↑12 (pv 0) d8 ↑10) d8) (l7 ↑12 (pv 0) d8 ↑10)) d8) (b5r (pv 0) d8 a5e))
   (d5 (i9 (g7 a0f (g7 a2n (g7 a0f (g7 m6 (l7 ↑12 (pv 0) d8 ↑10) (l7 ↑12 (pv 0) d8 ↑10)) d8) d8) (pv 1)))))),?_⟩
  refine⟨_,rfl,w,_,0,_,rfl,rfl,SqL.of hw,rfl,_,_,rfl,rfl,_,rfl,b2h (λc=>?_) (λc=>?_)⟩
  ·refine⟨_,rfl,w,_,0,_,rfl,rfl,SqL.of hw,rfl,_,rfl,_,_,rfl,rfl,m0,?_⟩
   refine⟨_,rfl,w,_,0,_,rfl,rfl,SqL.of hw,rfl,_,rfl,_,_,rfl,rfl,⟨m0,d8z m m0 m1⟩,_,rfl,w,_,0,0,rfl,rfl,hw,rfl,?_⟩;exact⟨_,rfl,k _ _ (Int.emod_nonneg _ ↑2) (Int.emod_lt_of_pos _ m0) ⟨_,_,_,d6,p0,p1⟩ But.upd⟩
  ·refine⟨_,rfl,w,_,1,_,rfl,rfl,SqL.of hw,rfl,_,_,rfl,rfl,.inr ⟨by decide,by decide⟩,_,rfl,w,_,2,_,rfl,rfl,SqL.of hw,rfl,_,_,rfl,rfl,p0,_,_,rfl,rfl,_,rfl,w,_,1,1,rfl,rfl,hw,rfl,?_⟩
   have h1:=Int.emod_nonneg (b*48271) (show p≠0 by lia)
   have h2:=Int.emod_lt_of_pos (b*48271) p0;refine⟨_,rfl,w,_,1,_,rfl,rfl,SqL.of d6,rfl,_,rfl,w,_,1,_,rfl,rfl,SqL.of d6,rfl,_,_,rfl,rfl,.inl ⟨by lia,by lia⟩,_,_,rfl,rfl,(by show(0:Int)<2147483423;decide),_,_,rfl,rfl,⟨by decide,by decide⟩,_,rfl,_,_,rfl,rfl,m0,?_⟩
   exact k _ _ (Int.emod_nonneg _ ↑2) (Int.emod_lt_of_pos _ m0) ⟨_,_,_,d6,p0,p1⟩ But.upd
theorem b4w{ns:List Int}{n:Nat}(h:n<ns.length):atI (ns.map V.int) (n:Int)=some (.int ns[n]):=by
 have hl:(ns.map V.int).length=ns.length:=List.length_map _;unfold atI ixN;rw[if_pos ↑2,if_pos ↑2];show(ns.map V.int)[(n:Int).toNat]?=_;rw[show(n:Int).toNat=n by lia,List.getElem?_map,List.getElem?_eq_getElem h]
 rfl
noncomputable abbrev d8m:List V:=[.int 2147483647,.int 2147483629,.int 2147483587,.int 2147483579,.int 2147483563,.int 2147483549,.int 2147483543,.int 2147483497]
theorem d1n(j:Int)(h0:0<=j)(h1:j<8):∃v,atI d8m j=some (.int v)/\0<v/\v<2147483648:=by
 have:j=0\/j=1\/j=2\/j=3\/j=4\/j=5\/j=6\/j=7:=by lia
 rcases this with rfl|rfl|rfl|rfl|rfl|rfl|rfl|rfl <;> exact⟨_,rfl,by decide,by decide⟩
def b6n(K:↑28):Sp:=λvs H Q _=>∃(c:Addr)(ns:List Int)(k:Nat),vs=[.ref c,.int (k:Int)]/\SqL K H c (ns.map V.int)/\k<1000/\∀w H',H w=none->Same H H'->Well H' w->Q (.ref w) H'
abbrev b3z:Stmt:=top 106
theorem a2u:g2 ["script","k","cell","primes","seed"] ["script","k"] (d7 b3z):=↑1
theorem c6k(D:DefT K mg "_law_well" b3z ["script","k"])(T:↑18):↑901 "_law_well" 1 ["script","k"] (b6n K):=by
 refine D.fn a2u ↑7 ↑8
 ·obtain⟨c,ns,n,rfl,hc,hn,k⟩:=h
  refine⟨_,(b9 (i6 (i:=2) a2u.nd rfl ↑23 d8)
   (b9 (m4 (g9 b7n (pv 1) (k0 ↑34 (by rfl) T.z_len PySem.boot_len ↑16) ↑32)
     (d5 (i6 (i:=2) a2u.nd rfl ↑23 (l7 ↑12 (pv 0) (pv 1) ↑10)))
     m3)
   (b9 (i6 (i:=3) a2u.nd rfl ↑23 (k8 (a9 d8 (a9 d8 (a9 d8 (a9 d8 (a9 d8 (a9 d8 (a9 d8 ↑22)))))))))
   (b9 (i6 (i:=4) a2u.nd rfl ↑23 (g7 a0f (g7 m6 (g7 j9 (g7 a0f (pv 2) d8) d8) (g7 j9 d8 (g7 m6 d8 (pv 1)))) d8))
   (b9 (i6 (i:=4) a2u.nd rfl ↑23 (g7 j9 (g7 j9 (g7 a0f (g7 m6 (pv 4) (pv 4)) d8) (pv 1)) d8))
   (b9 (m4 (g9 d2d (pv 2) (g7 c8e d8 d8) ↑32)
     (d5 (i9 (k8 (a9 (pv 2) (a9 (pv 4) (a9 (l7 ↑12 (pv 3) (g7 a0f (pv 1) d8) ↑10) d9))))))
     m3)
   (d5 (i9 (k8 (a9 d8 (a9 (pv 4) (a9 (l7 ↑12 (pv 3) (g7 a0f (pv 1) d8) ↑10) d9)))))))))))),?_⟩
  refine⟨_,rfl,_,rfl,c,_,rfl,.inl hc,_,_,rfl,rfl,_,rfl,b2h (λa=>⟨_,rfl,_,rfl,c,_,(n:Int),_,rfl,rfl,hc,b4w (by have:=of_decide_eq_true a;rw[List.length_map] at this;lia),?_⟩) (λa=>?_)⟩
  all_goals
   refine⟨by show 8<=sizeLine;decide,λp hp=>?_⟩
   refine⟨_,rfl,_,_,rfl,rfl,(by show(0:Int)<2147483489;decide),_,_,rfl,rfl,_,rfl,_,_,rfl,rfl,.inl ⟨by decide,by decide⟩,_,_,rfl,rfl,_,_,rfl,rfl,.inl ⟨by lia,by lia⟩,_,_,rfl,rfl,(by show(0:Int)<2147483489;decide),?_⟩
   refine⟨_,rfl,_,rfl,_,_,rfl,rfl,.inl ⟨by lia,by lia⟩,_,_,rfl,rfl,(by show(0:Int)<2147483477;decide),_,rfl,_,_,rfl,rfl,_,_,rfl,rfl,?_⟩
   refine⟨_,rfl,_,_,rfl,rfl,⟨by decide,by decide,by decide⟩,_,_,rfl,rfl,_,rfl,b2h (λb=>?_) (λb=>?_)⟩
   all_goals
    obtain⟨v,hv,v0,v1⟩:=d1n ((n:Int) % 8) ↑2 ↑2
    first
     | refine⟨_,rfl,_,rfl,_,rfl,_,rfl,_,_,rfl,rfl,(by show(0:Int)<8;decide),p,_,_,_,rfl,rfl,SqL.of d6,hv,(by show 3<=sizeLine;decide),λq hq=>?_⟩
     | refine⟨_,rfl,_,rfl,_,rfl,_,_,rfl,rfl,(by show(0:Int)<8;decide),p,_,_,_,rfl,rfl,SqL.of d6,hv,(by show 3<=sizeLine;decide),λq hq=>?_⟩
    exact k q _ ((g3 hp).free hq) ((g3 hp).trans (g3 hq)) ⟨_,_,_,d6,v0,v1⟩
theorem e1l{ns:List Int}{Pr:Int->Prop}(h:∀v∈ns,Pr v){r:Int}(h0:0<=r)(h1:r<ns.length):∃v,atI (ns.map V.int) r=some (.int v)/\Pr v:=by
 have hr:r.toNat<ns.length:=by lia
 refine⟨ns[r.toNat],?_,h _ (List.getElem_mem hr)⟩;have e:=b4w hr
 rwa [show((r.toNat:Nat):Int)=r by lia] at e
theorem Well.ne{H:Hp}{w p:Addr}(h:Well H w)(n:H p=none):p≠w:=by
 obtain⟨o,e⟩:=h.at;exact(i4 e n).symm
def b2i(b:Bool):Int:=if b then 1 else 0
def toB(ns:List Int):List Bool:=ns.map λx=>x == 1
def b0o(ns:List Int):Bool:=ns.all λx=>x == 0 || x == 1
theorem d7r(ns:List Int):(toB ns).length=ns.length:=List.length_map _
theorem c5e{ns:List Int}(h:b0o ns=true):(toB ns).map b2i=ns:=by
 induction ns with
 | nil=>rfl
 | cons x xs ih=>
  unfold b0o at h ih;rw[List.all_cons,Bool.and_eq_true] at h;have e:b2i (x == 1)=x:=by
   have h1:=h.1;unfold b2i;by_cases hx:x=1
   ·subst hx;rfl
   ·have:x=0:=by simpa[hx] using h1
    subst this;rfl
  show b2i (x == 1)::(toB xs).map b2i=x::xs;rw[e,ih h.2]
theorem d0u(bs:List Bool):toB (bs.map b2i)=bs:=by
 unfold toB;rw[List.map_map];have:((λx=>x == (1:Int)) ∘ b2i)=id:=by funext b;cases b <;> rfl
 rw[this,List.map_id]
theorem d9y{bs cs:List Bool}(h:bs.map b2i=cs.map b2i):bs=cs:=by rw[<- d0u bs,<- d0u cs,h]
noncomputable def a2r:List Bool->Nat
 | []=>0
 | b::bs=>1+(bs.takeWhile λx=>x == b).length
noncomputable def a5o(bs:List Bool):Option Nat:=if (bs.drop (a2r bs)).any (λx=>x == bs.headD false) then none else some (((if bs.headD false then bs.length else 0)+a2r bs) % (2*bs.length))
noncomputable def c2m(n t:Nat):List Bool:=List.replicate (t % n) (t / n == 1)++List.replicate (n-t % n) (!(t / n == 1))
noncomputable def d4i:Nat->List (List Bool)
 | 0=>[[]]
 | n+1=>(d4i n).flatMap λbs=>[false::bs,true::bs]
theorem c8j:∀bs:List Bool,bs∈d4i bs.length
 | []=>List.mem_singleton.mpr rfl
 | b::bs=>by
  show b::bs∈(d4i bs.length).flatMap λbs=>[false::bs,true::bs];refine List.mem_flatMap.mpr ⟨bs,c8j bs,?_⟩;cases b <;> simp
noncomputable def d7p:List (List Bool):=d4i 2++d4i 3++d4i 4++d4i 5++d4i 6++d4i 7++d4i 8
theorem d2l{bs:List Bool}(h2:2<=bs.length)(h8:bs.length<=8):bs∈d7p:=by
 have h:=c8j bs;unfold d7p;have:bs.length=2\/bs.length=3\/bs.length=4\/bs.length=5\/bs.length=6\/bs.length=7\/bs.length=8:=by lia
 simp only[List.mem_append];rcases this with e|e|e|e|e|e|e <;> rw[e] at h <;> simp[h]
theorem d4d:d7p.all (λbs=>decide (1<=a2r bs) && decide (a2r bs<=bs.length) && (List.range bs.length).all λj=>!decide (j<=a2r bs) || (if bs[j]?=bs[0]? then decide (j+1<=a2r bs) else decide (j=a2r bs)))=true:=by decide +kernel
theorem d4c{bs:List Bool}(h2:2<=bs.length)(h8:bs.length<=8):1<=a2r bs/\a2r bs<=bs.length/\∀j,j<bs.length->j<=a2r bs->(bs[j]?=bs[0]?->j+1<=a2r bs)/\(bs[j]? ≠ bs[0]?->j=a2r bs):=by
 have h:=List.all_eq_true.mp d4d bs (d2l h2 h8);simp only[Bool.and_eq_true,decide_eq_true_eq,List.all_eq_true,List.mem_range,Bool.or_eq_true,Bool.not_eq_true',decide_eq_false_iff_not] at h;refine⟨h.1.1,h.1.2,λj hj hl=>?_⟩;rcases h.2 j hj with z|z
 ·exact absurd hl z
 ·constructor
  ·intro e
   rw[if_pos e] at z;exact of_decide_eq_true z
  ·intro e
   rw[if_neg e] at z;exact of_decide_eq_true z
theorem d6q{xs:List V}{j:Nat}(h:j<=xs.length):d9w xs (some (j:Int)) none=xs.drop j:=by
 unfold d9w;rw[HT.sIx_nat,HT.sIx_none,Nat.min_eq_left h];exact List.take_of_length_le (by rw[List.length_drop];lia)
theorem d5y(b:Bool)(bs:List Bool):inV (.int (b2i b)) ((bs.map b2i).map V.int)=bs.any λx=>x == b:=by
 unfold inV
 induction bs with
 | nil=>rfl
 | cons c cs ih=>
  simp only[List.map_cons,List.any_cons];rw[ih];cases b <;> cases c <;> rfl
theorem a9e(ns:List Int):(ns.map V.int).all a6l=true:=by simp[a6l]
def b2o(K:↑28)(cl:Cl):Sp:=λvs H Q E=>∃a ns,vs=[.ref a]/\SqL K H a (ns.map V.int)/\(if 2<=(ns.length:Int)/\(ns.length:Int)<=8 then (if b0o ns=true then Q .non H else False) else False)
abbrev a8m:Stmt:=top 47
theorem b2t:g2 ["bits","bit"] ["bits"] (d7 a8m):=↑1
theorem d3y{ns:List Int}{i:Nat}{x:Int}(h:(ns.map V.int)[i]?=some (.int x))(hx:¬ (0<=x/\x<=1)):b0o ns=false:=by
 rw[List.getElem?_map] at h;cases e:ns[i]? with
 | none=>rw[e] at h;cases h
 | some y=>
  rw[e] at h;cases h;cases hb:b0o ns with
  | false=>rfl
  | true=>
   have hb:=List.all_eq_true.mp hb x (List.mem_of_getElem? e);simp only[Bool.or_eq_true,beq_iff_eq] at hb;lia
theorem d3x{ns:List Int}(h:∀(i:Nat) (x:Int),(ns.map V.int)[i]?=some (.int x)->0<=x/\x<=1):b0o ns=true:=by
 refine List.all_eq_true.mpr λx hx=>?_;obtain⟨i,hi⟩:=List.getElem?_of_mem hx;have:=h i x (by rw[List.getElem?_map,hi];rfl)
 simp only[Bool.or_eq_true,beq_iff_eq];lia
theorem c2e{ns:List Int}{i:Nat}{x:V}(h:(ns.map V.int)[i]?=some x):∃v,x=.int v:=by
 rw[List.getElem?_map] at h;cases e:ns[i]? with
 | none=>rw[e] at h;cases h
 | some y=>rw[e] at h;cases h;exact⟨_,rfl⟩
theorem c1r(D:DefT K mg "check_bits" a8m ["bits"])(T:↑18)(G_check_size:↑901 "check_size" 1 ["size"] (a0y cl)):↑901 "check_bits" 2 ["bits"] (b2o K cl):=by
 refine D.fn b2t ↑7 ↑8
 ·obtain⟨a,ns,rfl,hS,h⟩:=h
  refine⟨_,(b9 (i3 (i5 G_check_size hr ↑4 rfl g4 (a9 (k0 ↑34 (by rfl) T.z_len PySem.boot_len ↑16) d9)))
   (d5 (b0n a2m rfl (a0r (K:=K) (pv 0)) (o9 (i:=1) b2t.nd rfl ↑23)
    (d5 (m4 (PW.pt (c1e (g9 b7n (pv 1) d8 ↑32) (b3c (g9 b8q (pv 1) d8 ↑32))))
      (d5 a5i)
      m3))))),?_⟩
  refine⟨_,rfl,a,_,rfl,.inl hS,_,rfl,?_⟩;rw[List.length_map];refine b2h (λc=>?_) (λc=>?_)
  ·rw[if_pos c] at h
   refine⟨_,rfl,a,rfl,⟨_,hS⟩,c2i (xs:=ns.map V.int) (λi σ H'=>∃x,σ=[some (.ref a),x]/\H'=H/\∀(j:Nat)(y:Int),j<i->(ns.map V.int)[j]?=some (.int y)->0<=y/\y<=1) ⟨_,rfl,rfl,λj y hj=>absurd hj (Nat.not_lt_zero _)⟩ ?_ ?_ ?_⟩
   ·rintro i σ H' _ ⟨x,rfl,rfl,_⟩
    exact hS
   ·rintro i x σ H' hx ⟨y,rfl,rfl,hb⟩
    obtain⟨v,rfl⟩:=c2e hx;refine⟨_,rfl,_,_,rfl,rfl,_,rfl,b2h (λd=>?_) (λd=>⟨_,rfl,_,_,rfl,rfl,_,rfl,b2h (λd2=>?_) (λd2=>?_)⟩)⟩
    ·rw[if_neg (by rw[d3y hx (by have:=of_decide_eq_true d;lia)];decide)] at h
     exact b2h (λ_=>h) (λz=>absurd rfl z)
    ·rw[if_neg (by rw[d3y hx (by have:=of_decide_eq_true d2;lia)];decide)] at h
     exact h
    ·simp only[decide_eq_true_eq] at d d2
     refine⟨_,rfl,rfl,λj y hj e=>?_⟩;by_cases hji:j<i
     ·exact hb j y hji e
     ·have:j=i:=by lia
      subst this;rw[hx] at e;cases e;lia
   ·rintro σ H' ⟨x,rfl,rfl,hb⟩
    rw[if_pos (d3x λi x e=>hb i x (List.getElem?_eq_some_iff.mp e).1 e)] at h;exact h
  ·rw[if_neg c] at h
   exact h
def b0i(K:↑28):Sp:=λvs H Q _=>∃(a:Addr)(bs:List Bool),vs=[.ref a]/\SqL K H a ((bs.map b2i).map V.int)/\2<=bs.length/\bs.length<=8/\Q (.int (a2r bs:Nat)) H
abbrev a7d:Stmt:=top 49
theorem a5s:g2 ["bits","many"] ["bits"] (d7 a7d):=↑1
theorem e3k{b c:Bool}:(V.int (b2i b)=V.int (b2i c)) ↔ b=c:=by cases b <;> cases c <;> simp[b2i]
theorem b8v(D:DefT K mg "alike_ahead" a7d ["bits"])(T:↑18):↑901 "alike_ahead" 1 ["bits"] (b0i K):=by
 refine D.fn a5s ↑7 ↑8
 ·obtain⟨a,bs,rfl,hS,h2,h8,h⟩:=h
  refine⟨_,(b9 (i6 (i:=1) a5s.nd rfl ↑23 d8)
   (b9 (d5b a2m (PW.pt (b5p (g9 b7n (pv 1) (k0 ↑34 (by rfl) T.z_len PySem.boot_len ↑16) ↑32) (a8t (g9 v3 (l7 ↑12 (pv 0) (pv 1) ↑10) (l7 ↑12 (pv 0) d8 ↑10) ↑32))))
     (d5 (e1k (i:=1) a5s.nd rfl ↑23 d8 e2h)))
   (d5 (i9 (pv 1))))),?_⟩
  obtain⟨l1,l2,l3⟩:=d4c h2 h8;have hl:((bs.map b2i).map V.int).length=bs.length:=by rw[List.length_map,List.length_map]
  refine⟨λz σ H'=>∃g:Nat,z=bs.length-g/\1<=g/\g<=a2r bs/\σ=[some (.ref a),some (.int (g:Int))]/\H'=H,⟨_,1,rfl,Nat.le_refl 1,l1,rfl,rfl⟩,?_⟩;rintro z σ H' ⟨g,rfl,g1,ga,rfl,rfl⟩;refine⟨_,rfl,_,rfl,a,_,rfl,.inl hS,_,_,rfl,rfl,_,rfl,b2h (λc=>?_) (λc=>e2g ?_)⟩
  ·have hg:g<bs.length:=by have:=of_decide_eq_true c;rw[hl] at this;lia
   have e1:=b4w (ns:=bs.map b2i) (n:=g) (by rw[List.length_map];exact hg)
   have e0:=b4w (ns:=bs.map b2i) (n:=0) (by rw[List.length_map];lia)
   refine⟨_,rfl,_,rfl,a,_,(g:Int),_,rfl,rfl,hS,e1,_,rfl,a,_,0,_,rfl,rfl,hS,e0,rfl,_,rfl,?_⟩;rw[List.getElem_map,List.getElem_map];refine b2h (λb=>?_) (λb=>?_)
   ·have heq:bs[g]=bs[0]:=e3k.mp (by simpa using b)
    have lt:=(l3 g hg ga).1 (by rw[List.getElem?_eq_getElem hg,List.getElem?_eq_getElem ↑2,heq])
    refine⟨λσ' H'=>σ'=[some (.ref a),some (.int ((g+1:Nat):Int))]/\H'=_,λσ' H' ⟨h1,h2⟩=>⟨bs.length-(g+1),by lia,g+1,rfl,by lia,lt,h1,h2⟩,?_⟩
    exact⟨_,rfl,_,_,rfl,rfl,rfl,rfl⟩
   ·have hne:bs[g]≠bs[0]:=λe=>b (by rw[e];simp)
    have eq:=(l3 g hg ga).2 (by rw[List.getElem?_eq_getElem hg,List.getElem?_eq_getElem ↑2];intro e;exact hne (Option.some.inj e))
    subst eq;exact⟨_,rfl,h⟩
  ·have hg:¬ g<bs.length:=λz=>c (decide_eq_true (by rw[hl];lia))
   have:g=a2r bs:=by lia
   subst this;exact⟨_,rfl,h⟩
noncomputable def c8p(cl:Cl)(ns:List Int)(H:Hp)(E:XK)(k:Nat->Hp->Prop):Prop :=
 if 2<=(ns.length:Int)/\(ns.length:Int)<=8 then (if b0o ns=true then (∀H',Same H H'->(match a5o (toB ns) with|none=>False|some f=>k f H')) else False) else False
def c0h(K:↑28)(cl:Cl):Sp:=λvs H Q E=>∃a ns,vs=[.ref a]/\SqL K H a (ns.map V.int)/\c8p cl ns H E λf H'=>Q (.int (f:Nat)) H'
abbrev c5z:Stmt:=top 50
theorem c0p:g2 ["bits","many","size"] ["bits"] (d7 c5z):=↑1
theorem d5j(D:DefT K mg "front" c5z ["bits"])(T:↑18)(G_check_bits:↑901 "check_bits" 2 ["bits"] (b2o K cl))(G_alike_ahead:↑901 "alike_ahead" 1 ["bits"] (b0i K))(G_onward:↑901 "onward" 3 ["size","turn","many"] (a4f cl)):↑901 "front" 4 ["bits"] (c0h K cl):=by
 refine D.fn c0p ↑7 ↑8
 ·obtain⟨a,ns,rfl,hS,h⟩:=h
  refine⟨_,(b9 (i3 (i5 G_check_bits hr ↑4 rfl g4 ↑16))
   (b9 (i6 (i:=1) c0p.nd rfl ↑23 (i5 G_alike_ahead hr ↑4 rfl g4 ↑16))
   (b9 (m4 (g9 (c3q (K:=K)) (l7 ↑12 (pv 0) d8 ↑10) (c7y (c7t (K:=K)) (pv 0) (d1q (pv 1)) d1r) (by with_unfolding_all rfl))
     (d5 a5i)
     m3)
   (b9 (i6 (i:=2) c0p.nd rfl ↑23 (k0 ↑34 (by rfl) T.z_len PySem.boot_len ↑16))
   (d5 (i9 (i5 G_onward hr ↑4 rfl g4 (a9 (pv 2) (a9 (g7 m6 (l7 ↑12 (pv 0) d8 ↑10) (pv 2)) ↑15))))))))),?_⟩
  unfold c8p at h;refine⟨_,rfl,a,ns,rfl,hS,b2h (λc=>b2h (λd=>?_) (λd=>?_)) (λc=>?_)⟩
  ·rw[if_pos c,if_pos d] at h
   have e:=c5e d;have hl:(toB ns).length=ns.length:=d7r ns;generalize hb:toB ns=bs at e hl h;subst e;have h2:2<=bs.length:=by rw[hl];lia
   have h8:bs.length<=8:=by rw[hl];lia
   obtain⟨l1,l2,l3⟩:=d4c h2 h8;have e0:=b4w (ns:=bs.map b2i) (n:=0) (by rw[List.length_map];lia)
   rw[List.getElem_map] at e0;have hh:bs.headD false=bs[0]:=by
    cases bs with
    | nil=>simp at h2
    | cons b bs=>rfl
   refine⟨_,rfl,a,bs,rfl,hS,h2,h8,?_⟩;refine⟨_,rfl,a,_,0,_,rfl,rfl,hS,e0,_,rfl,_,rfl,_,rfl,a,_,rfl,hS,λp hp=>?_⟩;rw[d6q (by rw[List.length_map,List.length_map];exact l2),<- List.map_drop,<- List.map_drop]
   have s1:Same H (upd H p (.lst (((bs.drop (a2r bs)).map b2i).map V.int))):=g3 hp;have hq:=h _ s1;refine⟨p,_,rfl,.inl (SqL.of d6),rfl,a9e _,_,rfl,?_⟩;rw[if_neg Bool.false_ne_true,d5y];unfold a5o at hq;rw[hh] at hq;refine b2h (λz=>?_) (λz=>?_)
   ·rw[if_pos z] at hq
    exact hq
   ·rw[if_neg z] at hq
    refine⟨_,rfl,a,_,rfl,.inl (s1.seq hS),?_⟩;rw[List.length_map,List.length_map];refine⟨_,rfl,_,rfl,a,_,0,_,rfl,rfl,s1.seq hS,e0,_,rfl,_,_,rfl,rfl,.inr ⟨by lia,by lia⟩,_,rfl,(bs.length:Int),_,_,rfl,y9 ↑2 ↑2 ?_ ?_ ?_⟩
    ·unfold b2i;split <;> lia
    ·unfold b2i;split <;> lia
    ·have e:(b2i bs[0]*(bs.length:Int)+(a2r bs:Int)) % (2*(bs.length:Int))=((((if bs[0]=true then bs.length else 0)+a2r bs) % (2*bs.length):Nat):Int):=by
      unfold b2i;split
      ·rw[Int.one_mul];push_cast;rfl
      ·rw[Int.zero_mul];push_cast;rfl
     rw[e];exact hq
  ·rw[if_pos c,if_neg d] at h
   exact h
  ·rw[if_neg c] at h
   exact h
theorem b9v:2000<=sizeLine:=by decide
noncomputable def a2o(ns:List Int):Bool:=ns.all λx=>decide (0<=x) && decide (x<=3)
def d5t(m:Int):Int:=m / 2
def tbI(m:Int):Int:=if m / 2=m % 2 then 0 else 1
theorem c4q{ns:List Int}(h:a2o ns=true){x:Int}(hx:x∈ns):0<=x/\x<=3:=by
 have h:=List.all_eq_true.mp h x hx
 simpa using h
theorem d5o{ns:List Int}{i:Nat}{x:Int}(h:(ns.map V.int)[i]?=some (.int x))(hx:¬ (0<=x/\x<=3)):a2o ns=false:=by
 rw[List.getElem?_map] at h;cases e:ns[i]? with
 | none=>rw[e] at h;cases h
 | some y=>
  rw[e] at h;cases h;cases hb:a2o ns with
  | false=>rfl
  | true=>exact absurd (c4q hb (List.mem_of_getElem? e)) hx
theorem d0e{ns:List Int}(h:∀(i:Nat) (x:Int),(ns.map V.int)[i]?=some (.int x)->0<=x/\x<=3):a2o ns=true:=by
 refine List.all_eq_true.mpr λx hx=>?_;obtain⟨i,hi⟩:=List.getElem?_of_mem hx;have:=h i x (by rw[List.getElem?_map,hi];rfl)
 simpa using this
theorem d9d{ns:List Int}(h:a2o ns=true):b0o (ns.map d5t)=true:=by
 refine List.all_eq_true.mpr λx hx=>?_;obtain⟨m,hm,rfl⟩:=List.mem_map.mp hx;have:=c4q h hm;have e:d5t m=0\/d5t m=1:=by unfold d5t;lia
 simpa using e
theorem d4t(ns:List Int):b0o (ns.map tbI)=true:=by
 refine List.all_eq_true.mpr λx hx=>?_;obtain⟨m,hm,rfl⟩:=List.mem_map.mp hx;have e:tbI m=0\/tbI m=1:=by unfold tbI;split <;> simp
 simpa using e
def b0q:Sp:=λvs H Q E=>∃m,vs=[.int m]/\Q (.int (m / 2)) H
def b5a:Sp:=λvs H Q E=>∃m,vs=[.int m]/\Q (.int (m % 2)) H
def b4y:Sp:=λvs H Q E=>∃m,vs=[.int m]/\Q (.int (tbI m)) H
abbrev b3y:Stmt:=top 24
theorem c5t:g2 ["mark"] ["mark"] (d7 b3y):=↑1
theorem c6j(D:DefT K mg "mark_lap" b3y ["mark"])(T:↑18):↑901 "mark_lap" 1 ["mark"] b0q:=by
 refine D.fn c5t ↑7 ↑8
 ·obtain⟨a,rfl,h⟩:=h
  refine⟨_,(d5 (i9 (g7 a2n (pv 0) d8))),?_⟩;exact⟨_,rfl,_,_,rfl,rfl,⟨by decide,d8z 2 ↑4 ↑4⟩,h⟩
abbrev b1b:Stmt:=top 25
theorem c2x:g2 ["mark"] ["mark"] (d7 b1b):=↑1
theorem c3v(D:DefT K mg "mark_side" b1b ["mark"])(T:↑18):↑901 "mark_side" 1 ["mark"] b5a:=by
 refine D.fn c2x ↑7 ↑8
 ·obtain⟨a,rfl,h⟩:=h
  refine⟨_,(d5 (i9 (g7 a0f (pv 0) d8))),?_⟩;exact⟨_,rfl,_,_,rfl,rfl,(by show(0:Int)<2;decide),h⟩
abbrev b0x:Stmt:=top 51
theorem c2t:g2 ["mark"] ["mark"] (d7 b0x):=↑1
theorem c3r(D:DefT K mg "taker_bit" b0x ["mark"])(T:↑18)(G_mark_lap:↑901 "mark_lap" 1 ["mark"] b0q)(G_mark_side:↑901 "mark_side" 1 ["mark"] b5a):↑901 "taker_bit" 2 ["mark"] b4y:=by
 refine D.fn c2t ↑7 ↑8
 ·obtain⟨m,rfl,h⟩:=h
  refine⟨_,(d5 (i9 (a5k (g9 d1z (i5 G_mark_lap hr ↑4 rfl g4 ↑16) (i5 G_mark_side hr ↑4 rfl g4 ↑16) ↑32) d8 d8))),?_⟩;refine⟨_,rfl,m,rfl,_,rfl,m,rfl,rfl,_,rfl,b2h (λc=>?_) (λc=>?_)⟩
  ·have e:tbI m=1:=by
    unfold tbI;rw[if_neg];intro e;rw[e] at c;simp at c
   rw[e] at h;exact h
  ·have e:tbI m=0:=by
    unfold tbI;rw[if_pos]
    simpa using c
   rw[e] at h;exact h
def b3m(cl:Cl)(ns:List Int)(H:Hp)(E:XK)(k:Prop):Prop:=if 2<=(ns.length:Int)/\(ns.length:Int)<=8 then (if a2o ns=true then k else False) else False
theorem b9p{cl:Cl}{ns:List Int}{H:Hp}{E:XK}{k k':Prop}(h:b3m cl ns H E k)(i:2<=ns.length->ns.length<=8->a2o ns=true->k->k'):b3m cl ns H E k':=by
 unfold b3m at h ⊢;by_cases a:2<=(ns.length:Int)/\(ns.length:Int)<=8
 ·rw[if_pos a] at h ⊢
  by_cases b:a2o ns=true
  ·rw[if_pos b] at h ⊢;exact i ↑2 ↑2 b h
  ·rw[if_neg b] at h ⊢;exact h
 ·rw[if_neg a] at h ⊢;exact h
theorem c4r{cl:Cl}{ns:List Int}{H:Hp}{E:XK}{k:Prop}(h2:2<=ns.length)(h8:ns.length<=8)(hm:a2o ns=true)(h:k):b3m cl ns H E k:=by
 unfold b3m;rw[if_pos ⟨by lia,by lia⟩,if_pos hm]
 exact h
def a5p(K:↑28)(cl:Cl):Sp:=λvs H Q E=>∃a ns,vs=[.ref a]/\SqL K H a (ns.map V.int)/\b3m cl ns H E (Q .non H)
abbrev a7c:Stmt:=top 48
theorem b0k:g2 ["marks","mark"] ["marks"] (d7 a7c):=↑1
theorem b8u(D:DefT K mg "check_marks" a7c ["marks"])(T:↑18)(G_check_size:↑901 "check_size" 1 ["size"] (a0y cl))(G_check_mark:↑901 "check_mark" 1 ["mark"] (b2n cl)):↑901 "check_marks" 2 ["marks"] (a5p K cl):=by
 refine D.fn b0k ↑7 ↑8
 ·obtain⟨a,ns,rfl,hS,h⟩:=h
  refine⟨_,(b9 (i3 (i5 G_check_size hr ↑4 rfl g4 (a9 (k0 ↑34 (by rfl) T.z_len PySem.boot_len ↑16) d9)))
   (d5 (b0n a2m rfl (a0r (K:=K) (pv 0)) (o9 (i:=1) b0k.nd rfl ↑23)
    (d5 (i3 (i5 G_check_mark hr ↑4 rfl g4 ↑15)))))),?_⟩
  unfold b3m at h;refine⟨_,rfl,a,_,rfl,.inl hS,_,rfl,?_⟩;rw[List.length_map];refine b2h (λc=>?_) (λc=>?_)
  ·rw[if_pos c] at h
   refine⟨_,rfl,a,rfl,⟨_,hS⟩,c2i (xs:=ns.map V.int) (λi σ H'=>∃x,σ=[some (.ref a),x]/\H'=H/\∀(j:Nat)(y:Int),j<i->(ns.map V.int)[j]?=some (.int y)->0<=y/\y<=3) ⟨_,rfl,rfl,λj y hj=>absurd hj (Nat.not_lt_zero _)⟩ ?_ ?_ ?_⟩
   ·rintro i σ H' _ ⟨x,rfl,rfl,_⟩
    exact hS
   ·rintro i x σ H' hx ⟨y,rfl,rfl,hb⟩
    obtain⟨v,rfl⟩:=c2e hx;refine⟨_,rfl,v,rfl,b2h (λd=>?_) (λd=>?_)⟩
    ·refine⟨_,rfl,rfl,λj y hj e=>?_⟩
     by_cases hji:j<i
     ·exact hb j y hji e
     ·have:j=i:=by lia
      subst this;rw[hx] at e;cases e;exact d
    ·rw[if_neg (by rw[d5o hx d];decide)] at h
     exact h
   ·rintro σ H' ⟨x,rfl,rfl,hb⟩
    rw[if_pos (d0e λi x e=>hb i x (List.getElem?_eq_some_iff.mp e).1 e)] at h;exact h
  ·rw[if_neg c] at h
   exact h
theorem c4x{ns row:List Int}{H1:Hp}{E:XK}{k:Nat->Hp->Prop}(hl:row.length=ns.length)(h2:2<=ns.length)(h8:ns.length<=8)(hb:b0o row=true)(hs:∀f H',Same H1 H'->a5o (toB row)=some f->k f H')(hn:∀H',Same H1 H'->a5o (toB row)=none->False):c8p cl row H1 E k:=by
 unfold c8p;rw[if_pos ⟨by lia,by lia⟩,if_pos hb]
 intro H' s;cases e:a5o (toB row) with
 | none=>exact hn H' s e
 | some f=>exact hs f H' s e
def d7q(cl:Cl)(row:List Int)(H:Hp)(E:XK)(k:Nat->Hp->Prop):Prop:=(∀f H',Same H H'->a5o (toB row)=some f->k f H')/\∀H',Same H H'->a5o (toB row)=none->False
def b2m(K:↑28)(cl:Cl):Sp:=λvs H Q E=>∃a ns,vs=[.ref a]/\SqL K H a (ns.map V.int)/\(∃o,H a=some o)/\b3m cl ns H E (d7q cl (ns.map d5t) H E λf H'=>Q (.int (f:Nat)) H')
def b2k(K:↑28)(cl:Cl):Sp:=λvs H Q E=>∃a ns,vs=[.ref a]/\SqL K H a (ns.map V.int)/\(∃o,H a=some o)/\b3m cl ns H E (d7q cl (ns.map tbI) H E λf H'=>Q (.int (f:Nat)) H')
def onI(f:Int->Int):V->V
 | .int m=>.int (f m)
 | v=>v
theorem d2m(f:Int->Int)(ns:List Int):(ns.map V.int).map (onI f)=(ns.map f).map V.int:=by rw[List.map_map,List.map_map];rfl
abbrev a8h:Stmt:=top 52
theorem c0o:g2 ["marks"] ["marks"] (d7 a8h):=↑1
theorem c1m(D:DefT K mg "giver_turn" a8h ["marks"])(T:↑18)(G_check_marks:↑901 "check_marks" 2 ["marks"] (a5p K cl))(G_mark_lap:↑901 "mark_lap" 1 ["mark"] b0q)(G_front:↑901 "front" 4 ["bits"] (c0h K cl)):↑901 "giver_turn" 5 ["marks"] (b2m K cl):=by
 refine D.fn c0o ↑7 ↑8
 ·obtain⟨a,ns,rfl,hS,ha,h⟩:=h
  refine⟨_,(b9 (i3 (i5 G_check_marks hr ↑4 rfl g4 ↑16))
   (d5 (i9 (i5 G_front hr ↑4 rfl g4 (a9 (c1f (N:=["mark"]) (nt:=1) (fr:=[]) rfl (a9v rfl rfl (by decide +kernel) (by decide +kernel) rfl rfl) (a0r (K:=K) (pv 0)) (a7i ↑4) (λ_ _ _ _ _=>o9 (i:=0) (show(["mark"]:List Str).Nodup by decide +kernel) rfl (Or.inl rfl) (Or.inr rfl)) (λ_ _ _ _ _=>(i5 G_mark_lap hr ↑4 rfl d5g ↑16))) d9))))),?_⟩
  refine⟨_,rfl,a,ns,rfl,hS,b9p h λh2 h8 hm q=>?_⟩;refine⟨_,rfl,a,rfl,⟨_,hS⟩,c5a (xs:=ns.map V.int) (f:=onI d5t) hS (by rw[List.length_map];have:=b9v;lia) ha ?_ ?_⟩
  ·intro i x H' kk hx _ q
   obtain⟨v,rfl⟩:=c2e hx;exact⟨_,rfl,v,rfl,q⟩
  ·intro c hc
   rw[d2m];exact⟨c,ns.map d5t,rfl,SqL.of d6,c4x (ns:=ns) (List.length_map _) h2 h8 (d9d hm) (λf H' s e=>q.1 f H' ((g3 hc).trans s) e) (λH' s e=>q.2 H' ((g3 hc).trans s) e)⟩
abbrev a8e:Stmt:=top 53
theorem c0l:g2 ["marks"] ["marks"] (d7 a8e):=↑1
theorem c1j(D:DefT K mg "taker_turn" a8e ["marks"])(T:↑18)(G_check_marks:↑901 "check_marks" 2 ["marks"] (a5p K cl))(G_taker_bit:↑901 "taker_bit" 2 ["mark"] b4y)(G_front:↑901 "front" 4 ["bits"] (c0h K cl)):↑901 "taker_turn" 5 ["marks"] (b2k K cl):=by
 refine D.fn c0l ↑7 ↑8
 ·obtain⟨a,ns,rfl,hS,ha,h⟩:=h
  refine⟨_,(b9 (i3 (i5 G_check_marks hr ↑4 rfl g4 ↑16))
   (d5 (i9 (i5 G_front hr ↑4 rfl g4 (a9 (c1f (N:=["mark"]) (nt:=1) (fr:=[]) rfl (a9v rfl rfl (by decide +kernel) (by decide +kernel) rfl rfl) (a0r (K:=K) (pv 0)) (a7i ↑4) (λ_ _ _ _ _=>o9 (i:=0) (show(["mark"]:List Str).Nodup by decide +kernel) rfl (Or.inl rfl) (Or.inr rfl)) (λ_ _ _ _ _=>(i5 G_taker_bit hr ↑4 rfl d5g ↑16))) d9))))),?_⟩
  refine⟨_,rfl,a,ns,rfl,hS,b9p h λh2 h8 hm q=>?_⟩;refine⟨_,rfl,a,rfl,⟨_,hS⟩,c5a (xs:=ns.map V.int) (f:=onI tbI) hS (by rw[List.length_map];have:=b9v;lia) ha ?_ ?_⟩
  ·intro i x H' kk hx _ q
   obtain⟨v,rfl⟩:=c2e hx;exact⟨_,rfl,v,rfl,q⟩
  ·intro c hc
   rw[d2m];exact⟨c,ns.map tbI,rfl,SqL.of d6,c4x (ns:=ns) (List.length_map _) h2 h8 (d4t ns) (λf H' s e=>q.1 f H' ((g3 hc).trans s) e) (λH' s e=>q.2 H' ((g3 hc).trans s) e)⟩
theorem But.nw{w:Addr}{H0 H:Hp}{p:Addr}{o:HO}(s:But w H0 H)(n:H p=none):But w H0 (L2.upd H p o):=s.trans (But.of (g3 n))
theorem But.free{w p:Addr}{H0 H:Hp}(s:But w H0 H)(hw:Well H w)(n:H p=none):H0 p=none:=by
 cases e:H0 p with
 | none=>rfl
 | some o=>
  have:=s p o e (hw.ne n);rw[n] at this;cases this
def Kp(ps:List Addr)(H H':Hp):Prop:=∀c o,H c=some o->c ∉ ps->H' c=some o
theorem Kp.trans{ps:List Addr}{H H1 H2:Hp}(a:Kp ps H H1)(b:Kp ps H1 H2):Kp ps H H2:=λc o e n=>b c o (a c o e n) n
theorem Kp.mono{ps qs:List Addr}{H H1:Hp}(a:Kp ps H H1)(h:∀c∈ps,c∈qs):Kp qs H H1:=λc o e n=>a c o e λz=>n (h c z)
theorem Kp.of{ps:List Addr}{H H1:Hp}(a:Same H H1):Kp ps H H1:=λc o e _=>a c o e
theorem Kp.upd{ps:List Addr}{H:Hp}{p:Addr}{o:HO}(h:p∈ps):Kp ps H (L2.upd H p o):=λc u e n=>by rw[c9 λz:c=p=>n (by rw[z];exact h)];exact e
noncomputable def a9a(n:Nat):List Int:=(List.replicate n [2,-1,0,0]).flatten++[-1,-1,0,0]
theorem b9m(n:Nat):(a9a n).length=4*n+4:=by
 unfold a9a;rw[List.length_append,c7d];show n*4+4=_;lia
theorem d8l(n:Nat)(ns:List Int):(List.replicate n (ns.map V.int)).flatten=((List.replicate n ns).flatten).map V.int:=by
 induction n with
 | zero=>rfl
 | succ n ih=>rw[List.replicate_succ,List.replicate_succ,List.flatten_cons,List.flatten_cons,List.map_append,ih]
noncomputable def Brd(cl:Cl)(H:Hp)(b l:Addr)(n:Nat)(row:List Int)(many:Int)(last:V):Prop :=
 (∃dx,H b=some (.ins cl.Board dx [("size",.int n),("numbers",.ref l),("many_touches",.int many),("newest_touch",last)]))/\H l=some (.lst (row.map V.int))/\row.length=4*n+4/\2<=n/\n<=8
theorem Brd.keep{cl:Cl}{H H':Hp}{b l:Addr}{n:Nat}{row:List Int}{many:Int}{last:V}{ps:List Addr}(h:Brd cl H b l n row many last)(k:Kp ps H H')(hb:b ∉ ps)(hl:l ∉ ps):Brd cl H' b l n row many last:=by
 obtain⟨⟨dx,e⟩,e',z⟩:=h;exact⟨⟨dx,k _ _ e hb⟩,k _ _ e' hl,z⟩
def a6s(cl:Cl):Sp:=λvs H Q E=>∃h:Str,vs=[.str h]/\(if h="giver"\/h="taker" then Q .non H else False)
def v5(d:Int):Sp:=λvs H Q _=>∃p,vs=[.int p]/\Q (.int (4*p+d)) H
def c7l(cl:Cl)(n:Int)(h:Str)(H:Hp)(E:XK)(k:Prop):Prop:=if 2<=n/\n<=8 then (if h="giver"\/h="taker" then k else False) else False
def d0l(h:Str):Int:=if h="giver" then 0 else 1
def a4x(cl:Cl):Sp:=λvs H Q E=>∃(n:Int)(h:Str),vs=[.int n,.str h]/\c7l cl n h H E (Q (.int (4*n+d0l h)) H)
def a4y(cl:Cl):Sp:=λvs H Q E=>∃(n:Int)(h:Str),vs=[.int n,.str h]/\c7l cl n h H E (Q (.int (4*n+d0l h+2)) H)
def b4z:Sp:=λvs H Q _=>∃n:Nat,vs=[.int n]/\n<=8/\∀l H',H l=none->Same H H'->H' l=some (.lst ((a9a n).map V.int))->Q (.ref l) H'
theorem a5x(x y:Str):eqV (.str x) (.str y)=decide (x=y):=by
 first
  | rfl
  | (unfold eqV;simp)
abbrev a8l:Stmt:=top 37
theorem c0t:g2 ["hand"] ["hand"] (d7 a8l):=↑1
theorem c1q(D:DefT K mg "check_hand" a8l ["hand"])(T:↑18):↑901 "check_hand" 1 ["hand"] (a6s cl):=by
 refine D.fn c0t ↑7 ↑8
 ·obtain⟨n,rfl,h⟩:=h
  refine⟨_,(d5 (m4 (g9 (c3p (K:=K)) (pv 0) (a7h T.r_HANDS rfl) (by with_unfolding_all rfl))
    (d5 a5i)
    m3)),?_⟩
  fail "";refine⟨_,_,rfl,.inr T.kt_HANDS.sq,rfl,rfl,?_⟩;fail "";have e:inV (.str n) [.str "giver",.str "taker"]=decide (n="giver"\/n="taker"):=by
   unfold inV;simp only[List.any_cons,List.any_nil,a5x,Bool.or_false];rw[Bool.eq_iff_iff];simp only[Bool.or_eq_true,decide_eq_true_eq];exact or_congr eq_comm eq_comm
  simp only[if_true,e];refine d7e (λc=>?_) (λc=>?_)
  ·rw[if_neg c] at h
   fail "";exact h
  ·rw[if_pos c] at h
   fail "";exact h
abbrev b1c:Stmt:=top 38
theorem c2y:g2 ["place"] ["place"] (d7 b1c):=↑1
theorem c3w(D:DefT K mg "mark_cell" b1c ["place"])(T:↑18):↑901 "mark_cell" 1 ["place"] (v5 0):=by
 refine D.fn c2y ↑7 ↑8
 ·obtain⟨n,rfl,h⟩:=h
  refine⟨_,(d5 (i9 (g7 m6 (v9 T.m_CELLS_OF_A_PLACE rfl) (pv 0)))),?_⟩;fail "";rw[Int.add_zero] at h;exact h
abbrev a6z:Stmt:=top 39
theorem b8k:g2 ["place"] ["place"] (d7 a6z):=↑1
theorem b8r(D:DefT K mg "number_cell" a6z ["place"])(T:↑18):↑901 "number_cell" 1 ["place"] (v5 1):=by
 refine D.fn b8k ↑7 ↑8
 ·obtain⟨n,rfl,h⟩:=h
  refine⟨_,(d5 (i9 (g7 j9 (g7 m6 (v9 T.m_CELLS_OF_A_PLACE rfl) (pv 0)) d8))),?_⟩;fail "";exact h
abbrev b1d:Stmt:=top 40
theorem c2z:g2 ["place"] ["place"] (d7 b1d):=↑1
theorem c3x(D:DefT K mg "left_cell" b1d ["place"])(T:↑18):↑901 "left_cell" 1 ["place"] (v5 2):=by
 refine D.fn c2z ↑7 ↑8
 ·obtain⟨n,rfl,h⟩:=h
  refine⟨_,(d5 (i9 (g7 j9 (g7 m6 (v9 T.m_CELLS_OF_A_PLACE rfl) (pv 0)) d8))),?_⟩;fail "";exact h
abbrev a8d:Stmt:=top 41
theorem c0k:g2 ["place"] ["place"] (d7 a8d):=↑1
theorem c1i(D:DefT K mg "thing_cell" a8d ["place"])(T:↑18):↑901 "thing_cell" 1 ["place"] (v5 3):=by
 refine D.fn c0k ↑7 ↑8
 ·obtain⟨n,rfl,h⟩:=h
  refine⟨_,(d5 (i9 (g7 j9 (g7 m6 (v9 T.m_CELLS_OF_A_PLACE rfl) (pv 0)) d8))),?_⟩;fail "";exact h
abbrev b1o:Stmt:=top 42
theorem c3d:g2 ["size","hand"] ["size","hand"] (d7 b1o):=↑1
theorem c4i(D:DefT K mg "card_cell" b1o ["size","hand"])(T:↑18)(G_check_size:↑901 "check_size" 1 ["size"] (a0y cl))(G_check_hand:↑901 "check_hand" 1 ["hand"] (a6s cl)):↑901 "card_cell" 2 ["size","hand"] (a4x cl):=by
 refine D.fn c3d ↑7 ↑8
 ·obtain⟨n,x,rfl,h⟩:=h
  refine⟨_,(b9 (i3 (i5 G_check_size hr ↑4 rfl g4 ↑16))
   (b9 (i3 (i5 G_check_hand hr ↑4 rfl g4 ↑15))
   (d5 (i9 (g7 j9 (g7 m6 (v9 T.m_CELLS_OF_A_PLACE rfl) (pv 0)) (c9r (K:=K) (a7h T.r_HANDS rfl) ↑15)))))),?_⟩
  unfold c7l at h;fail "";refine⟨n,rfl,b2h (λa=>?_) (λa=>?_)⟩
  ·rw[if_pos a] at h
   fail "";refine⟨x,rfl,b2h (λb=>?_) (λb=>?_)⟩
   ·rw[if_pos b] at h
    fail "";refine⟨T.kt_HANDS.ty,?_⟩;fail "";refine⟨_,_,_,_,rfl,rfl,T.kt_HANDS,rfl,rfl,rfl,?_,?_⟩
    ·rw[a5x,a5x,decide_eq_true_eq,decide_eq_true_eq]
     exact b.imp Eq.symm Eq.symm
    ·fail ""
     have e:(if eqV (.str "giver") (.str x)=true then (0:Int) else 1)=d0l x:=by
      unfold d0l;rw[a5x];simp only[decide_eq_true_eq];by_cases c:x="giver"
      ·rw[if_pos c,if_pos c.symm]
      ·rw[if_neg c,if_neg λz=>c z.symm]
     rw[e];exact h
   ·rw[if_neg b] at h
    exact h
  ·rw[if_neg a] at h
   exact h
abbrev b1p:Stmt:=top 43
theorem c3e:g2 ["size","hand"] ["size","hand"] (d7 b1p):=↑1
theorem c4j(D:DefT K mg "bell_cell" b1p ["size","hand"])(T:↑18)(G_card_cell:↑901 "card_cell" 2 ["size","hand"] (a4x cl)):↑901 "bell_cell" 3 ["size","hand"] (a4y cl):=by
 refine D.fn c3e ↑7 ↑8
 ·obtain⟨n,x,rfl,h⟩:=h
  refine⟨_,(d5 (i9 (g7 j9 (i5 G_card_cell hr ↑4 rfl g4 (a9 (pv 0) ↑15)) (k0 ↑34 (by rfl) T.z_len PySem.boot_len (a9 (a7h T.r_HANDS rfl) d9))))),?_⟩
  unfold c7l at h;fail "";refine⟨n,x,rfl,?_⟩;unfold c7l;refine b2h (λa=>b2h (λb=>?_) (λb=>?_)) (λa=>?_)
  ·rw[if_pos a,if_pos b] at h
   fail "";refine⟨_,_,rfl,.inr T.kt_HANDS.sq,?_⟩;fail "";exact h
  ·rw[if_pos a,if_neg b] at h
   exact h
  ·rw[if_neg a] at h
   exact h
abbrev b0z:Stmt:=top 44
theorem c2v:g2 ["size"] ["size"] (d7 b0z):=↑1
theorem c3t(D:DefT K mg "new_cells" b0z ["size"])(T:↑18):↑901 "new_cells" 1 ["size"] b4z:=by
 refine D.fn c2v ↑7 ↑8
 ·obtain⟨n,rfl,h8,k⟩:=h
  refine⟨_,(d5 (i9 (g7 c8f (g7 c8d (k8 (a9 (v9 T.m_NEW_MARK rfl) (a9 (v9 T.m_NO_ORDER rfl) (a9 d8 ↑22)))) (pv 0)) (k8 (a9 (v9 T.m_NO_TURN rfl) (a9 (v9 T.m_NO_TURN rfl) (a9 (v9 T.m_STILL rfl) (a9 (v9 T.m_STILL rfl) d9)))))))),?_⟩;have h20:2000<=sizeLine:=by decide
  fail "";refine⟨by show 4<=sizeLine;lia,λp1 h1=>?_⟩
  fail "";refine⟨p1,n,_,rfl,rfl,d6,by lia,by lia,by show 4*(n:Int).toNat<=sizeLine;lia,λp2 h2=>?_⟩
  fail "";refine⟨by show 4<=sizeLine;lia,λp3 h3=>?_⟩
  refine d6l (g3 h3 _ _ d6) d6 ?_ (λp4 h4=>?_)
  ·rw[c7d]
   show(n:Int).toNat*4+4<=sizeLine;lia
  refine k p4 _ ((((g3 h1).trans (g3 h2)).trans (g3 h3)).free h4) ((((g3 h1).trans (g3 h2)).trans (g3 h3)).trans (g3 h4)) ?_;rw[d6];unfold a9a;rw[List.map_append,show((n:Int)).toNat=n by lia]
  rw[<- d8l n [2,-1,0,0]]
  rfl
inductive ExB(R:Addr->Addr->Nat->List Int->Int->V->Prop):Prop
 | mk (b l:Addr) (n:Nat) (row:List Int) (many:Int) (last:V) (h:R b l n row many last):ExB R
def b2s(cl:Cl):Sp:=λvs H Q E=>∃(x dx:Addr)(n:Int),vs=[.ref x,.int n]/\H x=some (.ins cl.Board dx []) /\
 (if 2<=n/\n<=8 then ∀l H',H l=none->Kp [x] H H'->Brd cl H' x l n.toNat (a9a n.toNat) 0 .non->Q .non H' else False)
def a1o(cl:Cl):Sp:=λvs H Q E=>ExB λb l n row many last=>∃(c:Int),vs=[.ref b,.int c]/\Brd cl H b l n row many last/\(if 0<=c/\c<row.length then Q .non H else False)
def a1n(cl:Cl):Sp:=λvs H Q _=>ExB λb l n row many last=>∃(d:Str)(c x:Int),vs=[.ref b,.str d,.int c,.int x]/\Brd cl H b l n row many last /\
 ∀t H',H t=none->Kp [b] H H'->H' t=some (.tup [.str d,.int c,.int x])->Brd cl H' b l n row (many+1) (.ref t)->Q .non H'
def u6(cl:Cl):Sp:=λvs H Q E=>ExB λb l n row many last=>∃(c:Int),vs=[.ref b,.int c]/\Brd cl H b l n row many last /\
 (if 0<=c/\c<row.length then ∀t H',H t=none->Kp [b] H H'->H' t=some (.tup [.str "read",.int c,.int (row.getD c.toNat 0)])->Brd cl H' b l n row (many+1) (.ref t)->Q (.int (row.getD c.toNat 0)) H' else False)
def u5(cl:Cl):Sp:=λvs H Q E=>ExB λb l n row many last=>∃(c x:Int),vs=[.ref b,.int c,.int x]/\Brd cl H b l n row many last /\
 (if 0<=c/\c<row.length then ∀t H',H t=none->Kp [b,l] H H'->H' t=some (.tup [.str "write",.int c,.int x])->Brd cl H' b l n (row.set c.toNat x) (many+1) (.ref t)->Q .non H' else False)
def a0g(cl:Cl):Sp:=λvs H Q _=>ExB λb l n row many last=>vs=[.ref b]/\Brd cl H b l n row many last/\Q last H
theorem b9x{row:List Int}{c:Int}(h0:0<=c)(h1:c<row.length):atI (row.map V.int) c=some (.int (row.getD c.toNat 0)):=by
 have hn:c.toNat<row.length:=by lia
 have e:=b4w hn;rw[show((c.toNat:Nat):Int)=c by lia] at e
 rw[e,List.getD_eq_getElem?_getD,List.getElem?_eq_getElem hn]
 rfl
theorem b9q{l:Nat}{c:Int}(h0:0<=c)(h1:c<l):ixN l c=some c.toNat:=by
 unfold ixN;rw[if_pos h0,if_pos h1]
noncomputable abbrev a8s:Stmt:=m8 (top 45) 0
theorem c0z:g2 ["self","size"] ["self","size"] (d7 a8s):=↑1
theorem c1y(D:DefM K cl.Board "__init__" "Board.__init__" a8s ["self","size"])(T:↑18)(G_check_size:↑901 "check_size" 1 ["size"] (a0y cl))(G_new_cells:↑901 "new_cells" 1 ["size"] b4z):↑904 cl.Board "__init__" 2 ["self","size"] (b2s cl):=by
 refine D.fn c0z ↑7 ↑8
 ·obtain⟨x,dx,n,rfl,ex,h⟩:=h
  refine⟨_,(b9 (i3 (i5 G_check_size hr ↑4 rfl g4 ↑15))
   (b9 (j3 (K:=K) (pv 0) (pv 1))
   (b9 (j3 (K:=K) (pv 0) (i5 G_new_cells hr ↑4 rfl g4 ↑15))
   (b9 (j3 (K:=K) (pv 0) d8)
   (d5 (j3 (K:=K) (pv 0) a2k)))))),?_⟩
  fail "";refine⟨n,rfl,b2h (λa=>?_) (λa=>?_)⟩
  ·rw[if_pos a] at h
   fail "";refine⟨n.toNat,by rw[show((n.toNat:Nat):Int)=n by lia],by lia,λl H1 hl s1 e1=>?_⟩
   have nx:l≠x:=by
    rintro rfl;rw[d6] at hl;cases hl
   have ex1:=s1 _ _ d6;fail "";have el:H l=none:=by rw[c9 nx] at hl;exact hl
   refine h l _ el ?_ ⟨⟨dx,?_⟩,?_,b9m _,by lia,by lia⟩
   ·intro c o e n
    have nc:c≠x:=λz=>n (by simp[z])
    rw[c9 nc,c9 nc,c9 nc];exact s1 _ _ (by rw[c9 nc];exact e)
   ·rw[d6,show((n.toNat:Nat):Int)=n by lia]
    rfl
   ·rw[c9 nx,c9 nx,c9 nx]
    exact e1
  ·rw[if_neg a] at h
   exact h
noncomputable abbrev a2j:Stmt:=m8 (top 45) 1
theorem b0w:g2 ["self","cell"] ["self","cell"] (d7 a2j):=↑1
theorem b2e(D:DefM K cl.Board "check_cell" "Board.check_cell" a2j ["self","cell"])(T:↑18):↑904 cl.Board "check_cell" 1 ["self","cell"] (a1o cl):=by
 refine D.fn b0w ↑7 ↑8
 ·obtain⟨b,l,n,row,many,last,c,rfl,⟨⟨dx,eb⟩,el,hl,n2,n8⟩,h⟩:=h
  refine⟨_,(d5 (m4 (PW.pt (c1e (g9 b7n (pv 1) d8 ↑32) (b3c (g9 d2d (pv 1) (k0 ↑34 (by rfl) T.z_len PySem.boot_len ↑45) ↑32))))
    (d5 a5i)
    m3)),?_⟩
  fail "";refine a1y (λa=>?_) (λa=>?_)
  ·rw[if_neg ↑2] at h
   fail "";exact h
  ·fail ""
   rw[List.length_map];refine a1y (λd=>?_) (λd=>?_)
   ·rw[if_neg ↑2] at h
    fail "";exact h
   ·rw[if_pos ↑2] at h
    fail "";exact h
noncomputable abbrev a2h:Stmt:=m8 (top 45) 2
theorem b0u:g2 ["self","deed","cell","value"] ["self","deed","cell","value"] (d7 a2h):=↑1
theorem b2c(D:DefM K cl.Board "note_touch" "Board.note_touch" a2h ["self","deed","cell","value"])(T:↑18):↑904 cl.Board "note_touch" 1 ["self","deed","cell","value"] (a1n cl):=by
 refine D.fn b0u ↑7 ↑8
 ·obtain⟨b,l,n,row,many,last,d,c,x,rfl,⟨⟨dx,eb⟩,el,hl,n2,n8⟩,h⟩:=h
  refine⟨_,(b9 (c9q (K:=K) (pv 0) d8 e2i)
   (d5 (j3 (K:=K) (pv 0) (a5j (a9 (pv 1) (a9 (pv 2) (a9 (pv 3) d9))))))),?_⟩
  have nbl:l≠b:=(d9c eb el (by intro z;cases z)).symm
  fail "";refine⟨by show 3<=sizeLine;decide,λt ht=>?_⟩
  have nt:t≠b:=by
   rintro rfl;rw[d6] at ht;cases ht
  have et:H t=none:=by rw[c9 nt] at ht;exact ht
  fail "";refine h t _ et ?_ ?_ ⟨⟨dx,d6⟩,?_,hl,n2,n8⟩
  ·intro c o e n
   have nc:c≠b:=λz=>n (by simp[z])
   rw[c9 nc,c9 (i4 e et),c9 nc];exact e
  ·rw[c9 nt,d6]
  ·rw[c9 nbl,c9 (i4 el et),c9 nbl]
   exact el
noncomputable abbrev a8r:Stmt:=m8 (top 45) 3
theorem c0y:g2 ["self","cell"] ["self","cell"] (d7 a8r):=↑1
theorem c1x(D:DefM K cl.Board "read" "Board.read" a8r ["self","cell"])(T:↑18)(G_Board_check_cell:↑904 cl.Board "check_cell" 1 ["self","cell"] (a1o cl))(G_Board_note_touch:↑904 cl.Board "note_touch" 1 ["self","deed","cell","value"] (a1n cl)):↑904 cl.Board "read" 2 ["self","cell"] (u6 cl):=by
 refine D.fn c0y ↑7 ↑8
 ·obtain⟨b,l,n,row,many,last,c,rfl,hB,h⟩:=h
  refine⟨_,(b9 (i3 (a3m (pv 0) T.k_Board G_Board_check_cell hr ↑4 g4 ↑15))
   (b9 (i3 (a3m (pv 0) T.k_Board G_Board_note_touch hr ↑4 g4 (a9 g6 (a9 (pv 1) (a9 (l7 ↑12 ↑6 (pv 1) ↑10) d9)))))
   (d5 (i9 (l7 ↑12 ↑6 (pv 1) ↑10))))),?_⟩
  have hB':=hB;obtain⟨⟨dx,eb⟩,el,hl,n2,n8⟩:=hB';fail "";refine⟨b,l,n,row,many,last,c,rfl,hB,b2h (λa=>?_) (λa=>?_)⟩
  ·rw[if_pos a] at h
   fail "";refine w9 el (b9x a.1 a.2) ?_;fail "";refine⟨b,l,n,row,many,last,_,c,_,rfl,hB,λt H' ht k et hB1=>?_⟩;obtain⟨⟨dx1,eb1⟩,el1,_⟩:=id hB1;fail "";exact w9 el1 (b9x a.1 a.2) (h t H' ht k et hB1)
  ·rw[if_neg a] at h
   exact h
noncomputable abbrev a7g:Stmt:=m8 (top 45) 4
theorem b8m:g2 ["self","cell","number"] ["self","cell","number"] (d7 a7g):=↑1
theorem b8y(D:DefM K cl.Board "write" "Board.write" a7g ["self","cell","number"])(T:↑18)(G_Board_check_cell:↑904 cl.Board "check_cell" 1 ["self","cell"] (a1o cl))(G_Board_note_touch:↑904 cl.Board "note_touch" 1 ["self","deed","cell","value"] (a1n cl)):↑904 cl.Board "write" 2 ["self","cell","number"] (u5 cl):=by
 refine D.fn b8m ↑7 ↑8
 ·obtain⟨b,l,n,row,many,last,c,x,rfl,hB,h⟩:=h
  refine⟨_,(b9 (i3 (a3m (pv 0) T.k_Board G_Board_check_cell hr ↑4 g4 ↑15))
   (b9 (a8u (pv 2) (b5r ↑6 (pv 1) a5e))
   (d5 (i3 (a3m (pv 0) T.k_Board G_Board_note_touch hr ↑4 g4 (a9 g6 (a9 (pv 1) (a9 (pv 2) d9)))))))),?_⟩
  have hB':=hB;obtain⟨⟨dx,eb⟩,el,hl,n2,n8⟩:=hB';have nbl:b≠l:=d9c eb el (by intro z;cases z)
  fail "";refine⟨b,l,n,row,many,last,c,rfl,hB,b2h (λa=>?_) (λa=>?_)⟩
  ·rw[if_pos a] at h
   fail "";refine b9t el (by rw[List.length_map];exact b9q a.1 a.2) ?_
   fail "";refine⟨b,l,n,row.set c.toNat x,many,last,_,c,x,rfl,⟨⟨dx,?_⟩,?_,?_,n2,n8⟩,λt H' ht k et hB1=>?_⟩
   ·rw[c9 nbl];exact eb
   ·rw[d6,List.map_set]
   ·rw[List.length_set];exact hl
   ·fail ""
    refine h t H' ?_ ?_ et hB1
    ·rw[c9] at ht
     ·exact ht
     ·rintro rfl
      rw[d6] at ht;cases ht
    ·exact(Kp.upd (by simp)).trans (k.mono (by simp))
  ·rw[if_neg a] at h
   exact h
noncomputable abbrev a6g:Stmt:=m8 (top 45) 6
noncomputable abbrev a8q:Stmt:=m8 (top 45) 7
noncomputable abbrev a2i:Stmt:=m8 (top 45) 8
theorem b0v:g2 ["self"] ["self"] (d7 a2i):=↑1
theorem b2d(D:DefM K cl.Board "last_touch" "Board.last_touch" a2i ["self"])(T:↑18):↑904 cl.Board "last_touch" 1 ["self"] (a0g cl):=by
 refine D.fn b0v ↑7 ↑8
 ·obtain⟨b,l,n,row,many,last,rfl,⟨⟨dx,eb⟩,el,hl,n2,n8⟩,h⟩:=h
  refine⟨_,(d5 (i9 ↑6)),?_⟩;fail "";exact h
theorem d4m:(0:Int)<10 ^ 59/\(10:Int) ^ 59<2 ^ 200-1/\(5:Int)*10 ^ 58+5*10 ^ 58=10 ^ 59/\(8:Int)<5*10 ^ 58:=by decide
def c7m(x:Int):Prop:=-(5*10 ^ 58)<=x/\x<=5*10 ^ 58
def a7r:Sp:=λvs H Q _=>∃(w:Addr)(n:Int),vs=[.ref w,.int n]/\Well H w/\1<=n/\n<=8/\∀(p:Addr)(H':Hp)(row:List Int),H p=none->H' p=some (.lst (row.map V.int))->1<=row.length->(row.length:Int)<=n->(∀x∈row,c7m x)->Well H' w->But w H H'->Q (.ref p) H'
abbrev b1i:Stmt:=top 108
theorem a3j:g2 ["well","size","way","order","k","far"] ["well","size"] (d7 b1i):=↑1
theorem c4c(D:DefT K mg "_law_order" b1i ["well","size"])(T:↑18)(G_law_take:↑901 "_law_take" 1 ["well","many"] a2t):↑901 "_law_order" 2 ["well","size"] a7r:=by
 refine D.fn a3j ↑7 ↑8
 ·obtain⟨w,n,rfl,hw,n1,n8,k⟩:=h
  refine⟨_,(b9 (i6 (i:=2) a3j.nd rfl ↑23 ↑43)
   (b9 (i6 (i:=3) a3j.nd rfl ↑23 (k8 d9))
   (b9 (b0n a2m rfl (a8v rfl T.z_range (a9 (l7 ↑12 (k8 (a9 d8 (a9 (pv 1) (a9 (g7 j9 d8 (i5 G_law_take hr ↑4 rfl g4 (a9 (pv 0) ↑15))) d9)))) (pv 2) ↑10) d9)) (o9 (i:=4) a3j.nd rfl ↑23)
     (
     b9 (i6 (i:=5) a3j.nd rfl ↑23 (g7 a3n (i5 G_law_take hr ↑4 rfl g4 (a9 (pv 0) (a9 (g7 c8e d8 d8) d9))) (g7 m6 d8 (g7 c8e d8 d8))))
     (d5 (i3 (n9 (K:=K) (pv 3) (a9 (l7 ↑12 (k8 (a9 (g7 a3n ↑43 d8) (a9 (pv 5) d9))) (g7 a2n ↑43 d8) ↑10) d9))))))
   (d5 (i9 (pv 3)))))),?_⟩
  have h20:2000<=sizeLine:=by decide
  fail "";refine⟨w,3,rfl,hw,by decide,by decide,λway H1 a1 c1 w1 b1=>?_⟩
  fail "";refine⟨Nat.zero_le _,λp hp=>?_⟩;have hp0:H p=none:=b1.free w1 hp;have np:p≠w:=w1.ne hp;fail "";refine⟨w,n,rfl,w1.same (g3 hp),by lia,by lia,λr H2 a2 c2 w2 b2=>?_⟩
  have e2:H2 p=some (.lst (([]:List Int).map V.int)):=b2 p _ d6 np;have bb2:But w H H2:=b1.trans ((But.of (g3 hp)).trans b2);fail "";refine⟨by show 3<=sizeLine;lia,λq hq=>?_⟩
  obtain⟨N,hN,g1,g8⟩:=e1l (ns:=[1,n,1+r]) (Pr:=λv=>1<=v/\v<=n) (by intro v hv;simp only[List.mem_cons,List.not_mem_nil,or_false] at hv;lia) a1 c1
  fail "";refine w9 d6 hN ?_;fail "";refine a9u (n:=N.toNat) (λi σ H'=>∃x4 x5 row,σ=[some (.ref w),some (.int n),some (.int way),some (.ref p),x4,x5]/\H' p=some (.lst ((row:List Int).map V.int))/\row.length=i/\(∀x∈row,c7m x)/\Well H' w/\But w H H') ⟨_,_,[],rfl,g3 hq _ _ e2,rfl,by simp,w2.same (g3 hq),bb2.nw hq⟩ ?_ ?_
  ·rintro i σ H3 hi ⟨x4,x5,row,rfl,e3,hl,hs,w3,b3⟩
   fail "";refine⟨w,_,rfl,w3,d4m.1,Int.lt_trans d4m.2.1 ↑4,λr4 H4 a4 c4 w4 b4=>?_⟩;have c4:r4<10 ^ 59:=c4;have e4:H4 p=_:=b4 p _ e3 np;fail "";refine⟨w,9,rfl,w4,by decide,by decide,λr5 H5 a5 c5 w5 b5=>?_⟩
   have e5:H5 p=_:=b5 p _ e4 np;fail "";refine⟨by show 2<=sizeLine;lia,λq hq=>?_⟩
   have nq:q≠w:=w5.ne hq;have e5':upd H5 q (.lst [.int (r5-4),.int (r4-5*10 ^ 58)]) p=_:=g3 hq _ _ e5;fail "";refine⟨w,5,rfl,w5.same (g3 hq),by decide,by decide,λr6 H6 a6 c6 w6 b6=>?_⟩
   have e6:H6 p=_:=b6 p _ e5' np;have e6q:H6 q=_:=b6 q _ d6 nq;fail "";obtain⟨y,hy,sy⟩:=e1l (ns:=[r5-4,r4-5*10 ^ 58]) (Pr:=c7m) (by
    have z1:=d4m.2.2.1;have z2:=d4m.2.2.2;intro v hv;simp only[List.mem_cons,List.not_mem_nil,or_false] at hv;unfold c7m;rcases hv with rfl|rfl <;> constructor <;> lia) (r:=r6 / 4) ↑2 (by show r6 / 4<2;lia)
   refine w9 e6q hy ?_;fail "";refine d6m e6 (by rw[List.length_map];lia) ?_
   fail "";refine⟨_,_,row++[y],rfl,by rw[d6,List.map_append];rfl,by rw[List.length_append];show row.length+1=_;lia,?_,?_,?_⟩
   ·intro x hx
    rcases List.mem_append.mp hx with h|h
    ·exact hs x h
    ·rw[List.mem_singleton.mp h];exact sy
   ·obtain⟨a,b,pr,z,zz⟩:=w6
    exact⟨a,b,pr,(c9 np.symm).trans z,zz⟩
   ·have:But w H H6:=b3.trans (b4.trans (b5.trans ((But.of (g3 hq)).trans b6)))
    intro c o e ne;rw[c9 (i4 e hp0)];exact this c o e ne
  ·rintro σ H3 ⟨x4,x5,row,rfl,e3,hl,hs,w3,b3⟩
   fail "";exact k p H3 row hp0 e3 ↑2 ↑2 hs w3 b3
def Rws(H:Hp)(a:Addr)(os:List ↑26):Prop:=∃ps:List Addr,H a=some (.lst (ps.map V.ref))/\ps.length=os.length/\∀(i:Nat)(p:Addr)(o:List Int),ps[i]?=some p->os[i]?=some o->H p=some ↑36
theorem Rws.same{H H':Hp}{a:Addr}{os:List ↑26}(h:Rws H a os)(s:Same H H'):Rws H' a os:=by
 obtain⟨ps,e,l,r⟩:=h;exact⟨ps,s _ _ e,l,λi p o hp ho=>s _ _ (r i p o hp ho)⟩
def c7r(K:↑28):Sp:=λvs H Q _=>∃(a:Addr)(ns:List Int),vs=[.ref a]/\SqL K H a (ns.map V.int)/\ns.length<=63/\∀H',Q (.bl true) H'
theorem _root_.L2.op_catTK{X:Cx}{K:Frag}(h:X.K=K:=by rfl):OpR X (binaryOp .Add) (e1i K):=h ▸ d8w
structure Ad where
 o:Nat->Addr
 mg:Addr
 mt:Addr
 fo:Addr->Prop
abbrev Ad.bd(A:Ad):Addr:=A.o 0
abbrev Ad.l(A:Ad):Addr:=A.o 1
abbrev Ad.gv(A:Ad):Addr:=A.o 2
abbrev Ad.tk(A:Ad):Addr:=A.o 3
abbrev Ad.kt(A:Ad):Addr:=A.o 4
abbrev Ad.kg(A:Ad):Addr:=A.o 5
abbrev Ad.kk(A:Ad):Addr:=A.o 6
abbrev Ad.pa(A:Ad):Addr:=A.o 7
inductive Hr where
 | non
 | int (i:Int)
@[reducible] def Hr.v:Hr->V
 | .non=>.non
 | .int i=>.int i
structure Gm where
 st:Str
 he:Hr
 nu:Int
 le:Int
structure Tm where
 st:Str
 he:Hr
 nf:Hr
 nu:Int
 le:Int
noncomputable abbrev gvO(cl:Cl)(dx:Addr)(A:Ad)(G:Gm):HO:=.ins cl.Giver dx [("kept",.ref A.kg),("board",.ref A.bd),("name",.str "giver"),("other",.str "taker"),("stage_behind_marks",.str "told"),("stage_now",.str G.st),("marks_read",.ref A.mg),("here",G.he.v),("touched",.ref A.kt),("number",.int G.nu),("left",.int G.le)]
noncomputable abbrev tkO(cl:Cl)(dx:Addr)(A:Ad)(T:Tm):HO:=.ins cl.Taker dx [("taken",.ref A.kk),("board",.ref A.bd),("name",.str "taker"),("other",.str "giver"),("stage_behind_marks",.str "look"),("stage_now",.str T.st),("marks_read",.ref A.mt),("here",T.he.v),("touched",.ref A.kt),("not_freed",T.nf.v),("number",.int T.nu),("left",.int T.le),("parts",.ref A.pa)]
def RwsX(A:Ad)(H:Hp)(a:Addr)(os:List ↑26):Prop:=∃ps:List Addr,H a=some (.lst (ps.map V.ref))/\ps.length=os.length/\∀(i:Nat)(p:Addr)(o:List Int),ps[i]?=some p->os[i]?=some o->(∀j,j<8->p≠A.o j)/\H p=some ↑36
noncomputable def b9h(n:Nat)(c:Pr.Cells):List Int:=(List.range (4*n+4)).map c
theorem d4w(n:Nat)(c:Pr.Cells):(b9h n c).length=4*n+4:=by unfold b9h;rw[List.length_map,List.length_range]
theorem a0b{n k:Nat}(c:Pr.Cells)(h:k<4*n+4):(b9h n c).getD k 0=c k:=by
 unfold b9h;rw[List.getD_eq_getElem?_getD,List.getElem?_map,List.getElem?_range h]
 rfl
theorem c7v{n k:Nat}(c:Pr.Cells)(x:Int)(h:k<4*n+4):(b9h n c).set k x=b9h n (Pr.put c k x):=by
 apply List.ext_getElem?;intro j;unfold b9h;by_cases e:j=k
 ·subst e
  rw[List.getElem?_set_self (by rw[List.length_map,List.length_range];exact h),List.getElem?_map,List.getElem?_range h]
  show some x=some (Pr.put c j x j);rw[Pr.put_same]
 ·rw[List.getElem?_set_ne (Ne.symm e),List.getElem?_map,List.getElem?_map]
  by_cases hj:j<4*n+4
  ·rw[List.getElem?_range hj]
   show some (c j)=some (Pr.put c k x j);rw[Pr.put_ne _ _ e]
  ·rw[List.getElem?_eq_none (by rw[List.length_range];lia)]
   rfl
structure Tc where
 w:Bool
 k:Nat
 x:Int
def Tc.d(t:Tc):Str:=if t.w then "write" else "read"
structure Lt where
 m:Int
 o:Option Tc
noncomputable def Lt.rd(lt:Lt)(k:Nat)(x:Int):Lt:=⟨lt.m+1,some ⟨false,k,x⟩⟩
noncomputable def Lt.wr(lt:Lt)(k:Nat)(x:Int):Lt:=⟨lt.m+1,some ⟨true,k,x⟩⟩
def Lt.tch(lt:Lt)(t:Tc):Lt:=⟨lt.m+1,some t⟩
abbrev Tr:Type:=Bool×Tc
noncomputable def d4h(t:Tr):HO:=.tup [.str (if t.1 then "giver" else "taker"),.str t.2.d,.int t.2.k,.int t.2.x]
def LastOk(A:Ad)(H:Hp)(lt:Lt)(many:Int)(last:V):Prop:=many=lt.m/\(lt.o=none->last=.non)/\∀q,lt.o=some q->∃t,last=.ref t/\(∀j,j<8->t≠A.o j)/\H t=some (.tup [.str q.d,.int q.k,.int q.x])
def TrX(A:Ad)(H:Hp)(a:Addr)(tl:List Tr):Prop:=∃ps:List Addr,H a=some (.lst (ps.map V.ref))/\ps.length=tl.length/\∀(i:Nat)(p:Addr)(t:Tr),ps[i]?=some p->tl[i]?=some t->(∀j,j<8->p≠A.o j)/\¬ A.fo p/\H p=some (d4h t)
theorem TrX.gen{A A':Ad}{H H':Hp}{a a':Addr}{tl:List Tr}(h:TrX A H a tl)(ea:∀o,H a=some o->H' a'=some o)(k:∀p t,H p=some (d4h t)->(∀j,j<8->p≠A.o j)->¬ A.fo p->(∀j,j<8->p≠A'.o j)/\¬ A'.fo p/\H' p=some (d4h t)):TrX A' H' a' tl:=by
 obtain⟨ps,e,l,r⟩:=h;refine⟨ps,ea _ e,l,λi p t hp ht=>?_⟩;obtain⟨r1,r2,r3⟩:=r i p t hp ht;exact k p _ r3 r1 r2
def Unr(H:Hp)(a x:Addr):Prop:=∀xs,H a=some (.lst xs)->V.ref x ∉ xs
def Unl(H:Hp)(b x:Addr):Prop:=∀C dx fs,H b=some ↑40->fs.lookup ("newest_touch":Str)≠some (V.ref x)
def Fo(H:Hp)(A:Ad):Prop:=∀x,A.fo x->(∃o,H x=some o)/\(∀j,j<8->x≠A.o j)/\x≠A.mg/\x≠A.mt/\Unr H A.kg x/\Unr H A.kk x/\Unl H A.bd x
theorem Fo.keep{H H':Hp}{A:Ad}(h:Fo H A)(ks:∀x o,H x=some o->(∀j,j<8->x≠A.o j)->∃o,H' x=some o)(e5:H' A.kg=H A.kg)(e6:H' A.kk=H A.kk)(e0:H' A.bd=H A.bd):Fo H' A:=λx hx=>by
 obtain⟨⟨o,a⟩,b,c,d,e,f,g⟩:=h x hx;exact⟨ks x o a b,b,c,d,(λxs z=>e xs (e5 ▸ z)),(λxs z=>f xs (e6 ▸ z)),(λC dx fs z=>g C dx fs (e0 ▸ z))⟩
theorem Fo.updO{H:Hp}{A:Ad}{u:HO}(h:Fo H A)(nd:∀i j,i<8->j<8->i≠j->A.o i≠A.o j)(j:Nat)(hj:j<8)(j0:j≠0)(j5:j≠5)(j6:j≠6):Fo (upd H (A.o j) u) A :=
 h.keep (λx o e n=>⟨o,by rw[c9 (n j hj)];exact e⟩) (c9 (nd 5 j ↑2 hj (Ne.symm j5))) (c9 (nd 6 j ↑2 hj (Ne.symm j6))) (c9 (nd 0 j ↑2 hj (Ne.symm j0)))
inductive ExL(R:Ad->Nat->Pr.Cells->List ↑26->List ↑26->List Int->List Int->List Int->Gm->Tm->List Tr->Lt->Prop):Prop
 | mk (A:Ad) (n:Nat) (c:Pr.Cells) (os bk:List ↑26) (gs ts ps:List Int) (G:Gm) (T:Tm) (tl:List Tr) (lt:Lt) (h:R A n c os bk gs ts ps G T tl lt):ExL R
inductive ExN(R:Addr->Ad->Pr.Ln->List Tr->Prop):Prop
 | mk (la:Addr) (A:Ad) (L:Pr.Ln) (tl:List Tr) (h:R la A L tl):ExN R
structure LH(cl:Cl)(H:Hp)(A:Ad)(n:Nat)(c:Pr.Cells)(os bk:List ↑26)(gs ts ps:List Int)(G:Gm)(T:Tm)(tl:List Tr)(lt:Lt):Prop where
 brd:∃many last,Brd cl H A.bd A.l n (b9h n c) many last/\LastOk A H lt many last
 gv:∃dx,H A.gv=some (gvO cl dx A G)
 tk:∃dx,H A.tk=some (tkO cl dx A T)
 mg:H A.mg=some (.lst (gs.map V.int))
 mt:H A.mt=some (.lst (ts.map V.int))
 kept:RwsX A H A.kg os
 book:RwsX A H A.kk bk
 pa:H A.pa=some (.lst (ps.map V.int))
 tr:TrX A H A.kt tl
 nd:∀i j,i<8->j<8->i≠j->A.o i≠A.o j
 om:∀i,i<8->A.mg≠A.o i/\A.mt≠A.o i
 fo:Fo H A
section
variable{H H':Hp}{A:Ad}{n:Nat}{c:Pr.Cells}{os bk:List ↑26}{gs ts ps:List Int}{G:Gm}{T:Tm}{tl:List Tr}{lt:Lt}
theorem RwsX.kp{a:Addr}{S:List Addr}(h:RwsX A H a os)(k:Kp S H H')(ha:a ∉ S)(hS:∀x∈S,(∃j,j<8/\x=A.o j)):RwsX A H' a os:=by
 obtain⟨ps,e,l,r⟩:=h;refine⟨ps,k _ _ e ha,l,λi p o hp ho=>⟨(r i p o hp ho).1,k _ _ (r i p o hp ho).2 λz=>?_⟩⟩;obtain⟨j,hj,e⟩:=hS p z;exact(r i p o hp ho).1 j hj e
def KpA(A:Ad)(H H':Hp):Prop:=∀x o,H x=some o->(∀j,j<8->x≠A.o j)->H' x=some o
theorem KpA.trans{H1 H2:Hp}(a:KpA A H H1)(b:KpA A H1 H2):KpA A H H2:=λx o e n=>b x o (a x o e n) n
theorem KpA.of(s:Same H H'):KpA A H H':=λx o e _=>s x o e
theorem KpA.kp{S:List Addr}(k:Kp S H H')(hS:∀x∈S,(∃j,j<8/\x=A.o j)):KpA A H H':=λx o e n=>k x o e λz=>by
 obtain⟨j,hj,q⟩:=hS x z;exact n j hj q
theorem KpA.upd{j:Nat}{o:HO}(hj:j<8):KpA A H (L2.upd H (A.o j) o):=λx u e n=>by rw[c9 (n j hj)];exact e
theorem LastOk.kpa{many:Int}{last:V}{lt:Lt}(h:LastOk A H lt many last)(k:KpA A H H'):LastOk A H' lt many last:=⟨h.1,h.2.1,λq z=>by
 obtain⟨t,e,n,u⟩:=h.2.2 q z;exact⟨t,e,n,k _ _ u n⟩⟩
theorem TrX.kpa{a:Addr}{tl:List Tr}(h:TrX A H a tl)(k:KpA A H H')(ea:∀o,H a=some o->H' a=some o):TrX A H' a tl:=h.gen ea λp o e n f=>⟨n,f,k _ _ e n⟩
theorem LH.has(h:LH cl H A n c os bk gs ts ps G T tl lt):∀j,j<8->∃o,H (A.o j)=some o:=by
 intro j hj;obtain⟨_,_,⟨⟨_,e0⟩,e1,_⟩,_⟩:=h.brd;obtain⟨_,e2⟩:=h.gv;obtain⟨_,e3⟩:=h.tk;obtain⟨_,e4,_⟩:=h.tr;obtain⟨_,e5,_⟩:=h.kept;obtain⟨_,e6,_⟩:=h.book;have:j=0\/j=1\/j=2\/j=3\/j=4\/j=5\/j=6\/j=7:=by lia
 rcases this with rfl|rfl|rfl|rfl|rfl|rfl|rfl|rfl
 ·exact⟨_,e0⟩
 ·exact⟨_,e1⟩
 ·exact⟨_,e2⟩
 ·exact⟨_,e3⟩
 ·exact⟨_,e4⟩
 ·exact⟨_,e5⟩
 ·exact⟨_,e6⟩
 ·exact⟨_,h.pa⟩
theorem LH.same(h:LH cl H A n c os bk gs ts ps G T tl lt)(s:Same H H'):LH cl H' A n c os bk gs ts ps G T tl lt where
 brd:=let ⟨m,l,z,y⟩:=h.brd;⟨m,l,z.keep (Kp.of (ps:=[]) s) (by simp) (by simp),y.kpa (KpA.of s)⟩
 gv:=let ⟨d,z⟩:=h.gv;⟨d,s _ _ z⟩
 tk:=let ⟨d,z⟩:=h.tk;⟨d,s _ _ z⟩
 mg:=s _ _ h.mg
 mt:=s _ _ h.mt
 kept:=h.kept.kp (Kp.of (ps:=[]) s) (by simp) (by simp)
 book:=h.book.kp (Kp.of (ps:=[]) s) (by simp) (by simp)
 pa:=s _ _ h.pa
 tr:=h.tr.kpa (KpA.of s) λo z=>s _ _ z
 nd:=h.nd
 om:=h.om
 fo:=by
  have e:∀j,j<8->H' (A.o j)=H (A.o j):=λj hj=>by
   obtain⟨o,z⟩:=h.has j hj;rw[z];exact s _ _ z
  exact h.fo.keep (λx o z _=>⟨o,s _ _ z⟩) (e 5 ↑2) (e 6 ↑2) (e 0 ↑2)
theorem LH.nfo(h:LH cl H A n c os bk gs ts ps G T tl lt){t:Addr}(ht:H t=none):¬ A.fo t:=λz=>by
 obtain⟨⟨o,e⟩,_⟩:=h.fo t z;rw[ht] at e;cases e
theorem LH.off(h:LH cl H A n c os bk gs ts ps G T tl lt){t:Addr}(ht:H t=none):∀j,j<8->t≠A.o j:=λj hj z=>by
 obtain⟨o,e⟩:=h.has j hj;rw[<- z,ht] at e;cases e
theorem d8t:∀x∈[A.bd,A.l],(∃j,j<8/\x=A.o j):=λx hx=>by
 simp only[List.mem_cons,List.not_mem_nil,or_false] at hx;rcases hx with rfl|rfl
 ·exact⟨0,by lia,rfl⟩
 ·exact⟨1,by lia,rfl⟩
theorem LH.board{c':Pr.Cells}{many:Int}{last:V}{lt':Lt}(h:LH cl H A n c os bk gs ts ps G T tl lt)(k:Kp [A.bd,A.l] H H')(hB:Brd cl H' A.bd A.l n (b9h n c') many last)(hL:LastOk A H' lt' many last)(hf:∀x,A.fo x->last≠.ref x):LH cl H' A n c' os bk gs ts ps G T tl lt':=by
 have ne:∀i,2<=i->i<8->A.o i ∉ [A.bd,A.l]:=λi h2 h8=>by
  simp only[List.mem_cons,List.not_mem_nil,or_false,not_or];exact⟨h.nd i 0 h8 ↑2 ↑2,h.nd i 1 h8 ↑2 ↑2⟩
 have hS:∀x∈[A.bd,A.l],(∃j,j<8/\x=A.o j):=λx hx=>by
  simp only[List.mem_cons,List.not_mem_nil,or_false] at hx;rcases hx with rfl|rfl
  ·exact⟨0,by lia,rfl⟩
  ·exact⟨1,by lia,rfl⟩
 have nm:A.mg ∉ [A.bd,A.l]/\A.mt ∉ [A.bd,A.l]:=by
  simp only[List.mem_cons,List.not_mem_nil,or_false,not_or];exact⟨⟨(h.om 0 ↑2).1,(h.om 1 ↑2).1⟩,⟨(h.om 0 ↑2).2,(h.om 1 ↑2).2⟩⟩
 refine⟨⟨_,_,hB,hL⟩,(let ⟨d,z⟩:=h.gv;⟨d,k _ _ z (ne 2 ↑2 ↑2)⟩),(let ⟨d,z⟩:=h.tk;⟨d,k _ _ z (ne 3 ↑2 ↑2)⟩),k _ _ h.mg nm.1,k _ _ h.mt nm.2,h.kept.kp k (ne 5 ↑2 ↑2) hS,h.book.kp k (ne 6 ↑2 ↑2) hS,k _ _ h.pa (ne 7 ↑2 ↑2),(h.tr.kpa (KpA.kp k hS) λo z=>k _ _ z (ne 4 ↑2 ↑2)),h.nd,h.om,λx hx=>?_⟩
 obtain⟨⟨o,a⟩,b,c1,d,e,f,g⟩:=h.fo x hx;obtain⟨o5,z5⟩:=h.has 5 ↑2;obtain⟨o6,z6⟩:=h.has 6 ↑2;have y5:H' A.kg=H A.kg:=(k _ _ z5 (ne 5 ↑2 ↑2)).trans z5.symm;have y6:H' A.kk=H A.kk:=(k _ _ z6 (ne 6 ↑2 ↑2)).trans z6.symm;refine⟨⟨o,k _ _ a ?_⟩,b,c1,d,(λxs z=>e xs (y5 ▸ z)),(λxs z=>f xs (y6 ▸ z)),λC dx fs z=>?_⟩
 ·simp only[List.mem_cons,List.not_mem_nil,or_false,not_or];exact⟨b 0 ↑2,b 1 ↑2⟩
 ·obtain⟨⟨dxb,eb⟩,_⟩:=hB
  rw[eb] at z;cases z;exact λz2=>hf x hx (Option.some.inj z2)
theorem LH.wrote{k:Nat}{x:Int}{many:Int}{t:Addr}(h:LH cl H A n c os bk gs ts ps G T tl lt)(hk:k<4*n+4)(ht:H t=none)(kp:Kp [A.bd,A.l] H H')(et:H' t=some (.tup [.str "write",.int (k:Int),.int x]))(hB:Brd cl H' A.bd A.l n ((b9h n c).set k x) (many+1) (.ref t))(hm:many=lt.m):
  LH cl H' A n (Pr.put c k x) os bk gs ts ps G T tl (lt.wr k x)/\KpA A H H':=by
 rw[c7v c x hk] at hB;exact⟨h.board kp hB ⟨by rw[hm];rfl,(λz=>(nomatch z)),(λq z=>by cases z;exact⟨t,rfl,h.off ht,et⟩)⟩ (λx hx z=>h.nfo ht (V.ref.inj z ▸ hx)),KpA.kp kp d8t⟩
theorem LH.wasRead{ki:Int}{many:Int}{t:Addr}(h:LH cl H A n c os bk gs ts ps G T tl lt)(ht:H t=none)(kp:Kp [A.bd] H H')(et:H' t=some (.tup [.str "read",.int ki,.int ((b9h n c).getD ki.toNat 0)]))(hB:Brd cl H' A.bd A.l n (b9h n c) (many+1) (.ref t))(hm:many=lt.m)(k:Nat)(hk:k<4*n+4)(ek:ki=(k:Int)):
  LH cl H' A n c os bk gs ts ps G T tl (lt.rd k (c k))/\KpA A H H':=by
 subst ek;rw[Int.toNat_natCast,a0b c hk] at et;have kp':Kp [A.bd,A.l] H H':=kp.mono (by simp)
 exact⟨h.board kp' hB ⟨by rw[hm];rfl,(λz=>(nomatch z)),(λq z=>by cases z;exact⟨t,rfl,h.off ht,et⟩)⟩ (λx hx z=>h.nfo ht (V.ref.inj z ▸ hx)),KpA.kp kp' d8t⟩
theorem RwsX.set{a x:Addr}{o:HO}{j:Nat}(h:RwsX A H a os)(hj:j<8)(hx:x=A.o j)(ne:a≠x):RwsX A (upd H x o) a os :=
 h.kp (S:=[x]) (Kp.upd (by simp)) (by simpa using ne) λy hy=>⟨j,hj,by rw[List.mem_singleton.mp hy];exact hx⟩
theorem LH.setG{G':Gm}{dx:Addr}(h:LH cl H A n c os bk gs ts ps G T tl lt):LH cl (upd H A.gv (gvO cl dx A G')) A n c os bk gs ts ps G' T tl lt:=by
 have ne:∀i,i<8->i≠2->A.o i≠A.gv:=λi h8 h2=>h.nd i 2 h8 ↑2 h2;obtain⟨m,l,hB,hL⟩:=h.brd;refine⟨⟨m,l,hB.keep (ps:=[A.gv]) (Kp.upd (by simp)) (by simpa using ne 0 ↑2 ↑2) (by simpa using ne 1 ↑2 ↑2),hL.kpa (KpA.upd (j:=2) ↑2)⟩,⟨dx,d6⟩,?_,?_,?_,h.kept.set (j:=2) ↑2 rfl (ne 5 ↑2 ↑2),h.book.set (j:=2) ↑2 rfl (ne 6 ↑2 ↑2),?_,?_,h.nd,h.om,h.fo.updO h.nd 2 ↑2 ↑2 ↑2 ↑2⟩
 ·obtain⟨d,z⟩:=h.tk;exact⟨d,by rw[c9 (ne 3 ↑2 ↑2)];exact z⟩
 ·rw[c9 (h.om 2 ↑2).1];exact h.mg
 ·rw[c9 (h.om 2 ↑2).2];exact h.mt
 ·rw[c9 (ne 7 ↑2 ↑2)];exact h.pa
 ·exact h.tr.kpa (KpA.upd (j:=2) ↑2) λo z=>by rw[c9 (ne 4 ↑2 ↑2)];exact z
theorem LH.setT{T':Tm}{dx:Addr}(h:LH cl H A n c os bk gs ts ps G T tl lt):LH cl (upd H A.tk (tkO cl dx A T')) A n c os bk gs ts ps G T' tl lt:=by
 have ne:∀i,i<8->i≠3->A.o i≠A.tk:=λi h8 h2=>h.nd i 3 h8 ↑2 h2;obtain⟨m,l,hB,hL⟩:=h.brd;refine⟨⟨m,l,hB.keep (ps:=[A.tk]) (Kp.upd (by simp)) (by simpa using ne 0 ↑2 ↑2) (by simpa using ne 1 ↑2 ↑2),hL.kpa (KpA.upd (j:=3) ↑2)⟩,?_,⟨dx,d6⟩,?_,?_,h.kept.set (j:=3) ↑2 rfl (ne 5 ↑2 ↑2),h.book.set (j:=3) ↑2 rfl (ne 6 ↑2 ↑2),?_,?_,h.nd,h.om,h.fo.updO h.nd 3 ↑2 ↑2 ↑2 ↑2⟩
 ·obtain⟨d,z⟩:=h.gv;exact⟨d,by rw[c9 (ne 2 ↑2 ↑2)];exact z⟩
 ·rw[c9 (h.om 3 ↑2).1];exact h.mg
 ·rw[c9 (h.om 3 ↑2).2];exact h.mt
 ·rw[c9 (ne 7 ↑2 ↑2)];exact h.pa
 ·exact h.tr.kpa (KpA.upd (j:=3) ↑2) λo z=>by rw[c9 (ne 4 ↑2 ↑2)];exact z
end
def HOf(A:Ad)(b:Bool)(h:Addr):Prop:=(b=true/\h=A.gv)\/(b=false/\h=A.tk)
def b6c(b:Bool):Nat:=if b then 0 else 1
def a5w(b:Bool):Nat:=if b then 2 else 3
def b3l(b:Bool):Nat:=if b then 3 else 2
theorem b4v{n:Nat}{x:Str}{H:Hp}{E:XK}{k:Prop}(n2:2<=n)(n8:n<=8)(hx:x="giver"\/x="taker")(h:k):c7l cl n x H E k:=by
 unfold c7l;rw[if_pos ↑2,if_pos hx];exact h
theorem hI0:d0l "giver" = 0:=by decide
theorem hI1:d0l "taker" = 1:=by decide
def a3z(cl:Cl):Sp:=λvs H Q _=>ExL λA n c os bk gs ts ps Gq Tq tl lt=>∃(b:Bool)(h:Addr)(x:Int),vs=[.ref h,.int x]/\HOf A b h/\↑905/\∀H',LH cl H' A n (Pr.put c (4*n+b6c b) x) os bk gs ts ps Gq Tq tl (lt.wr (4*n+b6c b) x)->KpA A H H'->Q .non H'
abbrev a8b:Stmt:=top 55
theorem c0j:g2 ["hand","number"] ["hand","number"] (d7 a8b):=↑1
theorem c1g(D:DefT K mg "write_card" a8b ["hand","number"])(T:↑18)(G_Board_write:↑904 cl.Board "write" 2 ["self","cell","number"] (u5 cl))(G_card_cell:↑901 "card_cell" 2 ["size","hand"] (a4x cl)):↑901 "write_card" 3 ["hand","number"] (a3z cl):=by
 refine D.fn c0j ↑7 ↑3
 ·obtain⟨A,n,c,os,bk,gs,ts,ps,Gq,Tq,tl,lt,b,h,x,rfl,ho,hL,k⟩:=h
  refine⟨_,(d5 (i3 (a3m ↑6 T.k_Board G_Board_write hr ↑4 g4 (a9 (i5 G_card_cell hr ↑4 rfl g4 (a9 (z9 (K:=K) ↑6) ↑45)) ↑15)))),?_⟩;fail "h";fail "c";rcases ho with ⟨rfl,rfl⟩|⟨rfl,rfl⟩
  all_goals
   fail "";refine⟨n,_,rfl,b4v n2 n8 (by first|exact .inl rfl|exact .inr rfl) ?_⟩
   fail ""
   first|rw[hI0] | rw[hI1]
   refine⟨A.bd,A.l,n,_,many,last,_,_,rfl,hB,?_⟩;rw[if_pos ⟨by lia,by rw[hlen];lia⟩]
   intro t H' ht kp ett hB'
  ·rw[show(4*(n:Int)+0).toNat=4*n+b6c true by show _=4*n+0;lia] at hB'
   obtain⟨z1,z2⟩:=hL.wrote (k:=4*n+b6c true) (by show 4*n+0<_;lia) ht kp (by rw[ett];show _=some (HO.tup [_,.int ((4*n+0:Nat):Int),_]);congr) hB' hLast.1
   exact k H' z1 z2
  ·rw[show(4*(n:Int)+1).toNat=4*n+b6c false by show _=4*n+1;lia] at hB'
   obtain⟨z1,z2⟩:=hL.wrote (k:=4*n+b6c false) (by show 4*n+1<_;lia) ht kp (by rw[ett];show _=some (HO.tup [_,.int ((4*n+1:Nat):Int),_]);congr) hB' hLast.1
   exact k H' z1 z2
def a6p(cl:Cl):Sp:=λvs H Q _=>ExL λA n c os bk gs ts ps Gq Tq tl lt=>∃(b:Bool)(h:Addr),vs=[.ref h]/\HOf A b h/\↑905/\∀H',LH cl H' A n (Pr.put c (4*n+b3l b) 1) os bk gs ts ps Gq Tq tl (lt.wr (4*n+b3l b) 1)->KpA A H H'->Q .non H'
abbrev a8g:Stmt:=top 56
theorem c0n:g2 ["hand"] ["hand"] (d7 a8g):=↑1
theorem c1l(D:DefT K mg "ring_other" a8g ["hand"])(T:↑18)(G_Board_write:↑904 cl.Board "write" 2 ["self","cell","number"] (u5 cl))(G_bell_cell:↑901 "bell_cell" 3 ["size","hand"] (a4y cl)):↑901 "ring_other" 4 ["hand"] (a6p cl):=by
 refine D.fn c0n ↑7 ↑3
 ·obtain⟨A,n,c,os,bk,gs,ts,ps,Gq,Tq,tl,lt,b,h,rfl,ho,hL,k⟩:=h
  refine⟨_,(d5 (i3 (a3m ↑6 T.k_Board G_Board_write hr ↑4 g4 (a9 (i5 G_bell_cell hr ↑4 rfl g4 (a9 (z9 (K:=K) ↑6) ↑45)) (a9 (v9 T.m_RUNG rfl) d9))))),?_⟩;fail "h";fail "c";rcases ho with ⟨rfl,rfl⟩|⟨rfl,rfl⟩
  all_goals
   fail "";refine⟨n,_,rfl,b4v n2 n8 (by first|exact .inl rfl|exact .inr rfl) ?_⟩
   fail ""
   first|rw[hI0] | rw[hI1]
   refine⟨A.bd,A.l,n,_,many,last,_,_,rfl,hB,?_⟩;rw[if_pos ⟨by lia,by rw[hlen];lia⟩]
   intro t H' ht kp ett hB'
  ·rw[show(4*(n:Int)+1+2).toNat=4*n+b3l true by show _=4*n+3;lia] at hB'
   obtain⟨z1,z2⟩:=hL.wrote (k:=4*n+b3l true) (by show 4*n+3<_;lia) ht kp (by rw[ett];show _=some (HO.tup [_,.int ((4*n+3:Nat):Int),_]);congr) hB' hLast.1
   exact k H' z1 z2
  ·rw[show(4*(n:Int)+0+2).toNat=4*n+b3l false by show _=4*n+2;lia] at hB'
   obtain⟨z1,z2⟩:=hL.wrote (k:=4*n+b3l false) (by show 4*n+2<_;lia) ht kp (by rw[ett];show _=some (HO.tup [_,.int ((4*n+2:Nat):Int),_]);congr) hB' hLast.1
   exact k H' z1 z2
def a6o(cl:Cl):Sp:=λvs H Q _=>ExL λA n c os bk gs ts ps Gq Tq tl lt=>∃(b:Bool)(h:Addr),vs=[.ref h]/\HOf A b h/\↑905/\∀H',LH cl H' A n (Pr.put c (4*n+a5w b) 0) os bk gs ts ps Gq Tq tl (lt.wr (4*n+a5w b) 0)->KpA A H H'->Q .non H'
abbrev a8f:Stmt:=top 57
theorem c0m:g2 ["hand"] ["hand"] (d7 a8f):=↑1
theorem c1k(D:DefT K mg "still_bell" a8f ["hand"])(T:↑18)(G_Board_write:↑904 cl.Board "write" 2 ["self","cell","number"] (u5 cl))(G_bell_cell:↑901 "bell_cell" 3 ["size","hand"] (a4y cl)):↑901 "still_bell" 4 ["hand"] (a6o cl):=by
 refine D.fn c0m ↑7 ↑3
 ·obtain⟨A,n,c,os,bk,gs,ts,ps,Gq,Tq,tl,lt,b,h,rfl,ho,hL,k⟩:=h
  refine⟨_,(d5 (i3 (a3m ↑6 T.k_Board G_Board_write hr ↑4 g4 (a9 (i5 G_bell_cell hr ↑4 rfl g4 (a9 (z9 (K:=K) ↑6) ↑45)) (a9 (v9 T.m_STILL rfl) d9))))),?_⟩;fail "h";fail "c";rcases ho with ⟨rfl,rfl⟩|⟨rfl,rfl⟩
  all_goals
   fail "";refine⟨n,_,rfl,b4v n2 n8 (by first|exact .inl rfl|exact .inr rfl) ?_⟩
   fail ""
   first|rw[hI0] | rw[hI1]
   refine⟨A.bd,A.l,n,_,many,last,_,_,rfl,hB,?_⟩;rw[if_pos ⟨by lia,by rw[hlen];lia⟩]
   intro t H' ht kp ett hB'
  ·rw[show(4*(n:Int)+0+2).toNat=4*n+a5w true by show _=4*n+2;lia] at hB'
   obtain⟨z1,z2⟩:=hL.wrote (k:=4*n+a5w true) (by show 4*n+2<_;lia) ht kp (by rw[ett];show _=some (HO.tup [_,.int ((4*n+2:Nat):Int),_]);congr) hB' hLast.1
   exact k H' z1 z2
  ·rw[show(4*(n:Int)+1+2).toNat=4*n+a5w false by show _=4*n+3;lia] at hB'
   obtain⟨z1,z2⟩:=hL.wrote (k:=4*n+a5w false) (by show 4*n+3<_;lia) ht kp (by rw[ett];show _=some (HO.tup [_,.int ((4*n+3:Nat):Int),_]);congr) hB' hLast.1
   exact k H' z1 z2
def a6u(cl:Cl):Sp:=λvs H Q _=>ExL λA n c os bk gs ts ps Gq Tq tl lt=>∃(b:Bool)(h:Addr),vs=[.ref h]/\HOf A b h/\↑905/\∀H',LH cl H' A n (Pr.put c (4*n+b3l b) 1) os bk gs ts ps Gq Tq tl (lt.wr (4*n+b3l b) 1)->KpA A H H'->Q (.str "clear") H'
abbrev b4h:Stmt:=top 59
theorem c5v:g2 ["hand"] ["hand"] (d7 b4h):=↑1
theorem c6s(D:DefT K mg "at_rouse" b4h ["hand"])(T:↑18)(G_ring_other:↑901 "ring_other" 4 ["hand"] (a6p cl)):↑901 "at_rouse" 5 ["hand"] (a6u cl):=by
 refine D.fn c5v ↑7 ↑3
 ·obtain⟨A,n,c,os,bk,gs,ts,ps,Gq,Tq,tl,lt,b,h,rfl,ho,hL,k⟩:=h
  refine⟨_,(b9 (i3 (i5 G_ring_other hr ↑4 rfl g4 ↑16))
   ↑29),?_⟩
  fail "";refine⟨A,n,c,os,bk,gs,ts,ps,Gq,Tq,tl,lt,b,h,rfl,ho,hL,λH1 z1 z2=>?_⟩;fail "";exact k H1 z1 z2
def a6w(cl:Cl):Sp:=λvs H Q _=>ExL λA n c os bk gs ts ps Gq Tq tl lt=>∃(b:Bool)(h:Addr),vs=[.ref h]/\HOf A b h/\↑905/\∀H',LH cl H' A n (Pr.put c (4*n+b6c b) (-1)) os bk gs ts ps Gq Tq tl (lt.wr (4*n+b6c b) (-1))->KpA A H H'->Q (.str "mute") H'
abbrev b4k:Stmt:=top 60
theorem c5x:g2 ["hand"] ["hand"] (d7 b4k):=↑1
theorem c6v(D:DefT K mg "at_clear" b4k ["hand"])(T:↑18)(G_write_card:↑901 "write_card" 3 ["hand","number"] (a3z cl)):↑901 "at_clear" 4 ["hand"] (a6w cl):=by
 refine D.fn c5x ↑7 ↑3
 ·obtain⟨A,n,c,os,bk,gs,ts,ps,Gq,Tq,tl,lt,b,h,rfl,ho,hL,k⟩:=h
  refine⟨_,(b9 (i3 (i5 G_write_card hr ↑4 rfl g4 (a9 (pv 0) (a9 (v9 T.m_NO_TURN rfl) d9))))
   ↑29),?_⟩
  fail "";refine⟨A,n,c,os,bk,gs,ts,ps,Gq,Tq,tl,lt,b,h,_,rfl,ho,hL,λH1 z1 z2=>?_⟩;fail "";exact k H1 z1 z2
def a9k(cl:Cl):Sp:=λvs H Q _=>ExL λA n c os bk gs ts ps Gq Tq tl lt=>∃(b:Bool)(h:Addr),vs=[.ref h]/\HOf A b h/\↑905/\∀H',LH cl H' A n (Pr.put c (4*n+a5w b) 0) os bk gs ts ps Gq Tq tl (lt.wr (4*n+a5w b) 0)->KpA A H H'->Q (.str "marks") H'
abbrev b7g:Stmt:=top 61
theorem c9l:g2 ["hand"] ["hand"] (d7 b7g):=↑1
theorem c9y(D:DefT K mg "at_mute" b7g ["hand"])(T:↑18)(G_still_bell:↑901 "still_bell" 4 ["hand"] (a6o cl)):↑901 "at_mute" 5 ["hand"] (a9k cl):=by
 refine D.fn c9l ↑7 ↑3
 ·obtain⟨A,n,c,os,bk,gs,ts,ps,Gq,Tq,tl,lt,b,h,rfl,ho,hL,k⟩:=h
  refine⟨_,(b9 (i3 (i5 G_still_bell hr ↑4 rfl g4 ↑16))
   ↑29),?_⟩
  fail "";refine⟨A,n,c,os,bk,gs,ts,ps,Gq,Tq,tl,lt,b,h,rfl,ho,hL,λH1 z1 z2=>?_⟩;fail "";exact k H1 z1 z2
def a9m(cl:Cl):Sp:=λvs H Q _=>ExL λA n c os bk gs ts ps Gq Tq tl lt=>∃(b:Bool)(h:Addr),vs=[.ref h]/\HOf A b h/\↑905/\∀H',LH cl H' A n (Pr.put c (4*n+a5w b) 0) os bk gs ts ps Gq Tq tl (lt.wr (4*n+a5w b) 0)->KpA A H H'->Q (.str "unwish") H'
abbrev b7j:Stmt:=top 67
theorem c9o:g2 ["hand"] ["hand"] (d7 b7j):=↑1
theorem d0b(D:DefT K mg "at_hush" b7j ["hand"])(T:↑18)(G_still_bell:↑901 "still_bell" 4 ["hand"] (a6o cl)):↑901 "at_hush" 5 ["hand"] (a9m cl):=by
 refine D.fn c9o ↑7 ↑3
 ·obtain⟨A,n,c,os,bk,gs,ts,ps,Gq,Tq,tl,lt,b,h,rfl,ho,hL,k⟩:=h
  refine⟨_,(b9 (i3 (i5 G_still_bell hr ↑4 rfl g4 ↑16))
   ↑29),?_⟩
  fail "";refine⟨A,n,c,os,bk,gs,ts,ps,Gq,Tq,tl,lt,b,h,rfl,ho,hL,λH1 z1 z2=>?_⟩;fail "";exact k H1 z1 z2
def a4z(cl:Cl):Sp:=λvs H Q _=>ExL λA n c os bk gs ts ps Gq Tq tl lt=>∃(b:Bool)(h:Addr),vs=[.ref h]/\HOf A b h/\↑905/\∀H',LH cl H' A n (Pr.put c (4*n+b6c b) (-1)) os bk gs ts ps Gq Tq tl (lt.wr (4*n+b6c b) (-1))->KpA A H H'->Q (.str "look") H'
abbrev b1q:Stmt:=top 68
theorem c3f:g2 ["hand"] ["hand"] (d7 b1q):=↑1
theorem c4k(D:DefT K mg "at_unwish" b1q ["hand"])(T:↑18)(G_write_card:↑901 "write_card" 3 ["hand","number"] (a3z cl)):↑901 "at_unwish" 4 ["hand"] (a4z cl):=by
 refine D.fn c3f ↑7 ↑3
 ·obtain⟨A,n,c,os,bk,gs,ts,ps,Gq,Tq,tl,lt,b,h,rfl,ho,hL,k⟩:=h
  refine⟨_,(b9 (i3 (i5 G_write_card hr ↑4 rfl g4 (a9 (pv 0) (a9 (v9 T.m_NO_TURN rfl) d9))))
   ↑29),?_⟩
  fail "";refine⟨A,n,c,os,bk,gs,ts,ps,Gq,Tq,tl,lt,b,h,_,rfl,ho,hL,λH1 z1 z2=>?_⟩;fail "";exact k H1 z1 z2
def a6t(cl:Cl):Sp:=λvs H Q _=>ExL λA n c os bk gs ts ps Gq Tq tl lt=>∃(b:Bool)(h:Addr),vs=[.ref h]/\HOf A b h/\↑905/\∀H',LH cl H' A n c os bk gs ts ps Gq Tq tl (lt.rd (4*n+a5w b) (c (4*n+a5w b)))->KpA A H H'->Q (.str (if c (4*n+a5w b)=0 then "sleep" else "hush")) H'
abbrev b4g:Stmt:=top 66
theorem b6w:g2 ["hand","bell"] ["hand"] (d7 b4g):=↑1
theorem c6r(D:DefT K mg "at_sleep" b4g ["hand"])(T:↑18)(G_Board_read:↑904 cl.Board "read" 2 ["self","cell"] (u6 cl))(G_bell_cell:↑901 "bell_cell" 3 ["size","hand"] (a4y cl)):↑901 "at_sleep" 4 ["hand"] (a6t cl):=by
 refine D.fn b6w ↑7 ↑3
 ·obtain⟨A,n,c,os,bk,gs,ts,ps,Gq,Tq,tl,lt,b,h,rfl,ho,hL,k⟩:=h
  refine⟨_,(b9 (i6 (i:=1) b6w.nd rfl ↑23 (a3m ↑6 T.k_Board G_Board_read hr ↑4 g4 (a9 (i5 G_bell_cell hr ↑4 rfl g4 (a9 (z9 (K:=K) ↑6) ↑45)) d9)))
   (d5 (i9 (a5k (g9 v3 (pv 1) (v9 T.m_STILL rfl) ↑32) g6 g6)))),?_⟩
  fail "h";fail "c";rcases ho with ⟨rfl,rfl⟩|⟨rfl,rfl⟩
  all_goals
   fail "";refine⟨n,_,rfl,b4v n2 n8 (by first|exact .inl rfl|exact .inr rfl) ?_⟩
   fail ""
   first|rw[hI0] | rw[hI1]
   refine⟨A.bd,A.l,n,_,many,last,_,rfl,hB,?_⟩;rw[if_pos ⟨by lia,by rw[hlen];lia⟩]
   intro t H' ht kp ett hB';have q:=k H' (by first|exact(hL.wasRead ht kp ett hB' hLast.1 (4*n+a5w true) (by show 4*n+2<_;lia) (by show _=((4*n+2:Nat):Int);lia)).1|exact(hL.wasRead ht kp ett hB' hLast.1 (4*n+a5w false) (by show 4*n+3<_;lia) (by show _=((4*n+3:Nat):Int);lia)).1) (KpA.kp (kp.mono (by simp)) d8t)
   fail ""
  ·rw[show(4*(n:Int)+0+2).toNat=4*n+a5w true by show _=4*n+2;lia,a0b c (by show 4*n+2<_;lia)]
   refine a1y (λa=>?_) (λa=>?_)
   ·rw[if_pos (V.int.inj a)] at q;fail "";exact q
   ·rw[if_neg λy=>a (by rw[y])] at q;fail "";exact q
  ·rw[show(4*(n:Int)+1+2).toNat=4*n+a5w false by show _=4*n+3;lia,a0b c (by show 4*n+3<_;lia)]
   refine a1y (λa=>?_) (λa=>?_)
   ·rw[if_pos (V.int.inj a)] at q;fail "";exact q
   ·rw[if_neg λy=>a (by rw[y])] at q;fail "";exact q
noncomputable def b7y(b:Bool)(Gq:Gm)(Tq:Tm):Hr:=if b then Gq.he else Tq.he
noncomputable def a3g(b:Bool)(n t:Int):Int:=if b then 2*(1-t / n)+0 else 2*(t / n)+1
def t2(cl:Cl):Sp:=λvs H Q _=>ExL λA n c os bk gs ts ps Gq Tq tl lt=>∃(b:Bool)(h:Addr)(t:Int),vs=[.ref h]/\HOf A b h/\↑905/\b7y b Gq Tq=.int t/\0<=t/\t<2*(n:Int)/\Q (.int (t % (n:Int))) H
noncomputable abbrev a5h:Stmt:=m8 (top 72) 3
theorem c0w:g2 ["self"] ["self"] (d7 a5h):=↑1
theorem b3h{C:Addr}(D:DefM K C "place" "Hand.place" a5h ["self"])(T:↑18)(G_place_of:↑901 "place_of" 3 ["size","turn"] (a6q cl)):↑904 C "place" 4 ["self"] (t2 cl):=by
 refine D.fn c0w ↑7 ↑3
 ·obtain⟨A,n,c,os,bk,gs,ts,ps,Gq,Tq,tl,lt,b,h,t,rfl,ho,hL,he,t0,t1,k⟩:=h
  refine⟨_,(d5 (i9 (i5 G_place_of hr ↑4 rfl g4 (a9 (z9 (K:=K) ↑6) ↑45)))),?_⟩;fail "h";fail "c";rcases ho with ⟨rfl,rfl⟩|⟨rfl,rfl⟩
  ·have he:Gq.he=.int t:=he
   fail "";rw[he];exact⟨n,t,rfl,y9 ↑2 ↑2 t0 t1 k⟩
  ·have he:Tq.he=.int t:=he
   fail "";rw[he];exact⟨n,t,rfl,y9 ↑2 ↑2 t0 t1 k⟩
def a3i(cl:Cl):Sp:=λvs H Q _=>ExL λA n c os bk gs ts ps Gq Tq tl lt=>∃(b:Bool)(h:Addr)(t:Int),vs=[.ref h]/\HOf A b h/\↑905/\b7y b Gq Tq=.int t/\0<=t/\t<2*(n:Int)/\b=true/\Q (.int (a3g true n t)) H
noncomputable abbrev a1i:Stmt:=m8 (top 88) 13
theorem a8a:g2 ["self"] ["self"] (d7 a1i):=↑1
theorem a8z(D:DefM K cl.Giver "awaited_mark" "Giver.awaited_mark" a1i ["self"])(T:↑18)(G_mark_to_give:↑901 "mark_to_give" 4 ["size","turn"] (a7p cl)):↑902 "awaited_mark" 5 ["self"] (a3i cl):=by
 refine D.fn a8a ↑7 ↑3
 ·obtain⟨A,n,c,os,bk,gs,ts,ps,Gq,Tq,tl,lt,b,h,t,rfl,ho,hL,he,t0,t1,rfl,k⟩:=h
  refine⟨_,(d5 (i9 (i5 G_mark_to_give hr ↑4 rfl g4 (a9 (z9 (K:=K) ↑6) ↑45)))),?_⟩;fail "h";fail "c";rcases ho with ⟨hb,rfl⟩|⟨hb,rfl⟩
  all_goals cases hb
  have he:Gq.he=.int t:=he;fail "";rw[he];exact⟨n,t,rfl,y9 ↑2 ↑2 t0 t1 k⟩
def a3h(cl:Cl):Sp:=λvs H Q _=>ExL λA n c os bk gs ts ps Gq Tq tl lt=>∃(b:Bool)(h:Addr)(t:Int),vs=[.ref h]/\HOf A b h/\↑905/\b7y b Gq Tq=.int t/\0<=t/\t<2*(n:Int)/\b=false/\Q (.int (a3g false n t)) H
noncomputable abbrev a1g:Stmt:=m8 (top 98) 7
theorem a7y:g2 ["self"] ["self"] (d7 a1g):=↑1
theorem a8x(D:DefM K cl.Taker "awaited_mark" "Taker.awaited_mark" a1g ["self"])(T:↑18)(G_full_mark:↑901 "full_mark" 4 ["size","turn"] (a7s cl)):↑903 "awaited_mark" 5 ["self"] (a3h cl):=by
 refine D.fn a7y ↑7 ↑3
 ·obtain⟨A,n,c,os,bk,gs,ts,ps,Gq,Tq,tl,lt,b,h,t,rfl,ho,hL,he,t0,t1,rfl,k⟩:=h
  refine⟨_,(d5 (i9 (i5 G_full_mark hr ↑4 rfl g4 (a9 (z9 (K:=K) ↑6) ↑45)))),?_⟩;fail "h";fail "c";rcases ho with ⟨hb,rfl⟩|⟨hb,rfl⟩
  all_goals cases hb
  have he:Tq.he=.int t:=he;fail "";rw[he];exact⟨n,t,rfl,y9 ↑2 ↑2 t0 t1 k⟩
def a7o(cl:Cl):Sp:=λvs H Q _=>ExL λA n c os bk gs ts ps Gq Tq tl lt=>∃(b:Bool)(h:Addr)(t:Int),vs=[.ref h]/\HOf A b h/\↑905/\b7y b Gq Tq=.int t/\0<=t/\t<2*(n:Int)/\∀H',LH cl H' A n c os bk gs ts ps Gq Tq tl (lt.rd (4*(t % (n:Int)).toNat) (c (4*(t % (n:Int)).toNat)))->KpA A H H'->Q (.bl (decide (c (4*(t % (n:Int)).toNat)=a3g b n t))) H'
abbrev b1a:Stmt:=top 58
theorem c2w:g2 ["hand"] ["hand"] (d7 b1a):=↑1
theorem c3u(D:DefT K mg "may_go_on" b1a ["hand"])(T:↑18)(G_Board_read:↑904 cl.Board "read" 2 ["self","cell"] (u6 cl))(G_mark_cell:↑901 "mark_cell" 1 ["place"] (v5 0))(GP:↑902 "place" 4 ["self"] (t2 cl))(TP:↑903 "place" 4 ["self"] (t2 cl))(GA:↑902 "awaited_mark" 5 ["self"] (a3i cl))(TA:↑903 "awaited_mark" 5 ["self"] (a3h cl)):↑901 "may_go_on" 6 ["hand"] (a7o cl):=by
 refine D.fn c2w ↑7 ↑3
 ·obtain⟨A,n,c,os,bk,gs,ts,ps,Gq,Tq,tl,lt,b,h,t,rfl,ho,hL,he,t0,t1,k⟩:=h
  refine⟨_,(d5 (i9 (a0w v3 (a3m ↑6 T.k_Board G_Board_read hr ↑4 g4 (a9 (i5 G_mark_cell hr ↑4 rfl g4 (a9 ↑44 d9)) d9)) (a0h (k:=5) (pv 0) hr ↑4 g4) ↑32))),?_⟩;fail "h";fail "c";have p0:=Int.emod_nonneg t (show(n:Int)≠0 by lia)
  have p1:=Int.emod_lt_of_pos t (show(0:Int)<n by lia)
  have ho':=ho;rcases ho' with ⟨rfl,rfl⟩|⟨rfl,rfl⟩
  ·fail ""
   refine d6k ?_;fail "";refine⟨A.gv,cl.Giver,dxg,_,_,_,rfl,eg,rfl,T.k_Giver,GP,?_⟩;fail "";refine⟨A,n,c,os,bk,gs,ts,ps,Gq,Tq,tl,lt,true,A.gv,t,rfl,ho,hL,he,t0,t1,?_⟩;fail "";fail "f";obtain⟨z1,z2⟩:=hL.wasRead ht kp ett hB' hLast.1 (4*(t % (n:Int)).toNat) ↑2 ↑2;obtain⟨dxg2,eg2⟩:=z1.gv;rw[show(4*(t % (n:Int))+0).toNat=4*(t % (n:Int)).toNat by lia,a0b c ↑2]
   fail "e";refine⟨A.gv,cl.Giver,dxg2,_,_,_,rfl,eg2,rfl,T.k_Giver,GA,?_⟩;fail "";refine⟨A,n,c,os,bk,gs,ts,ps,Gq,Tq,tl,_,true,A.gv,t,rfl,ho,z1,he,t0,t1,rfl,?_⟩;fail "";rw[show decide (V.int (c (4*(t % (n:Int)).toNat))=V.int (a3g true n t))=decide (c (4*(t % (n:Int)).toNat)=a3g true n t) by simp]
   exact k H' z1 z2
  ·fail ""
   refine d6k ?_;fail "";refine⟨A.tk,cl.Taker,dxt,_,_,_,rfl,et,rfl,T.k_Taker,TP,?_⟩;fail "";refine⟨A,n,c,os,bk,gs,ts,ps,Gq,Tq,tl,lt,false,A.tk,t,rfl,ho,hL,he,t0,t1,?_⟩;fail "";fail "f";obtain⟨z1,z2⟩:=hL.wasRead ht kp ett hB' hLast.1 (4*(t % (n:Int)).toNat) ↑2 ↑2;obtain⟨dxt2,et2⟩:=z1.tk;rw[show(4*(t % (n:Int))+0).toNat=4*(t % (n:Int)).toNat by lia,a0b c ↑2]
   fail "e";refine⟨A.tk,cl.Taker,dxt2,_,_,_,rfl,et2,rfl,T.k_Taker,TA,?_⟩;fail "";refine⟨A,n,c,os,bk,gs,ts,ps,Gq,Tq,tl,_,false,A.tk,t,rfl,ho,z1,he,t0,t1,rfl,?_⟩;fail "";rw[show decide (V.int (c (4*(t % (n:Int)).toNat))=V.int (a3g false n t))=decide (c (4*(t % (n:Int)).toNat)=a3g false n t) by simp]
   exact k H' z1 z2
def a9l(cl:Cl):Sp:=λvs H Q _=>ExL λA n c os bk gs ts ps Gq Tq tl lt=>∃(b:Bool)(h:Addr)(t:Int),vs=[.ref h]/\HOf A b h/\↑905/\b7y b Gq Tq=.int t/\0<=t/\t<2*(n:Int)/\∀H',LH cl H' A n c os bk gs ts ps Gq Tq tl (lt.rd (4*(t % (n:Int)).toNat) (c (4*(t % (n:Int)).toNat)))->KpA A H H'->Q (.str (if c (4*(t % (n:Int)).toNat)=a3g b n t then "number" else "wish")) H'
abbrev b7i:Stmt:=top 63
theorem c9n:g2 ["hand"] ["hand"] (d7 b7i):=↑1
theorem d0a(D:DefT K mg "at_look" b7i ["hand"])(T:↑18)(G_may_go_on:↑901 "may_go_on" 6 ["hand"] (a7o cl)):↑901 "at_look" 7 ["hand"] (a9l cl):=by
 refine D.fn c9n ↑7 ↑3
 ·obtain⟨A,n,c,os,bk,gs,ts,ps,Gq,Tq,tl,lt,b,h,t,rfl,ho,hL,he,t0,t1,k⟩:=h
  refine⟨_,(d5 (i9 (a5k (a6h (i5 G_may_go_on hr ↑4 rfl g4 ↑16)) g6 g6))),?_⟩;fail "";refine⟨A,n,c,os,bk,gs,ts,ps,Gq,Tq,tl,lt,b,h,t,rfl,ho,hL,he,t0,t1,λH' z1 z2=>?_⟩;have q:=k H' z1 z2;fail "";fail "j"
  ·rw[if_pos y] at q;fail "";exact q
  ·rw[if_neg y] at q;fail "";exact q
def a6x(cl:Cl):Sp:=λvs H Q _=>ExL λA n c os bk gs ts ps Gq Tq tl lt=>∃(b:Bool)(h:Addr)(t:Int),vs=[.ref h]/\HOf A b h/\↑905/\b7y b Gq Tq=.int t/\0<=t/\t<2*(n:Int)/\∀H',LH cl H' A n c os bk gs ts ps Gq Tq tl (lt.rd (4*(t % (n:Int)).toNat) (c (4*(t % (n:Int)).toNat)))->KpA A H H'->Q (.str (if c (4*(t % (n:Int)).toNat)=a3g b n t then "unwish" else "sleep")) H'
abbrev b4l:Stmt:=top 65
theorem c5y:g2 ["hand"] ["hand"] (d7 b4l):=↑1
theorem c6w(D:DefT K mg "at_again" b4l ["hand"])(T:↑18)(G_may_go_on:↑901 "may_go_on" 6 ["hand"] (a7o cl)):↑901 "at_again" 7 ["hand"] (a6x cl):=by
 refine D.fn c5y ↑7 ↑3
 ·obtain⟨A,n,c,os,bk,gs,ts,ps,Gq,Tq,tl,lt,b,h,t,rfl,ho,hL,he,t0,t1,k⟩:=h
  refine⟨_,(d5 (i9 (a5k (a6h (i5 G_may_go_on hr ↑4 rfl g4 ↑16)) g6 g6))),?_⟩;fail "";refine⟨A,n,c,os,bk,gs,ts,ps,Gq,Tq,tl,lt,b,h,t,rfl,ho,hL,he,t0,t1,λH' z1 z2=>?_⟩;have q:=k H' z1 z2;fail "";fail "j"
  ·rw[if_pos y] at q;fail "";exact q
  ·rw[if_neg y] at q;fail "";exact q
def a9i(cl:Cl):Sp:=λvs H Q _=>ExL λA n c os bk gs ts ps Gq Tq tl lt=>∃(b:Bool)(h:Addr)(t:Int),vs=[.ref h]/\HOf A b h/\↑905/\b7y b Gq Tq=.int t/\0<=t/\t<2*(n:Int)/\∀H',LH cl H' A n (Pr.put c (4*n+b6c b) t) os bk gs ts ps Gq Tq tl (lt.wr (4*n+b6c b) t)->KpA A H H'->Q (.str "again") H'
abbrev b7d:Stmt:=top 64
theorem c9i:g2 ["hand"] ["hand"] (d7 b7d):=↑1
theorem c9v(D:DefT K mg "at_wish" b7d ["hand"])(T:↑18)(G_write_card:↑901 "write_card" 3 ["hand","number"] (a3z cl)):↑901 "at_wish" 4 ["hand"] (a9i cl):=by
 refine D.fn c9i ↑7 ↑3
 ·obtain⟨A,n,c,os,bk,gs,ts,ps,Gq,Tq,tl,lt,b,h,t,rfl,ho,hL,he,t0,t1,k⟩:=h
  refine⟨_,(b9 (i3 (i5 G_write_card hr ↑4 rfl g4 (a9 (pv 0) ↑45)))
   ↑29),?_⟩
  fail "h";fail "c";have ho':=ho;rcases ho' with ⟨rfl,rfl⟩|⟨rfl,rfl⟩
  ·have he:Gq.he=.int t:=he
   fail "";rw[he];refine⟨A,n,c,os,bk,gs,ts,ps,Gq,Tq,tl,lt,true,A.gv,t,rfl,ho,hL,λH' z1 z2=>?_⟩;fail "";exact k H' z1 z2
  ·have he:Tq.he=.int t:=he
   fail "";rw[he];refine⟨A,n,c,os,bk,gs,ts,ps,Gq,Tq,tl,lt,false,A.tk,t,rfl,ho,hL,λH' z1 z2=>?_⟩;fail "";exact k H' z1 z2
theorem MethT.lift{C:Addr}{m:Str}{j k:Nat}{qs:List Str}{sp:Sp}(M:↑904 C m j qs sp)(h:j<=k):↑904 C m k qs sp:=by
 obtain⟨f,fd,F,hm,hb⟩:=M.ex;exact⟨f,fd,F.mono h,hm,hb⟩
theorem RwsX.pick{A:Ad}{H:Hp}{a:Addr}{os:List ↑26}(h:RwsX A H a os){i:Int}(h0:0<=i)(hi:i<os.length):∃xs p,H a=some (.lst xs)/\atI xs i=some (.ref p)/\H p=some (.lst ((os.getD i.toNat []).map V.int)):=by
 obtain⟨ps,e,l,r⟩:=h;have hp:i.toNat<ps.length:=by lia
 have ho:i.toNat<os.length:=by lia
 refine⟨_,ps[i.toNat],e,?_,?_⟩
 ·unfold atI
  rw[List.length_map,b9q h0 ↑2];show(ps.map V.ref)[i.toNat]?=_;rw[List.getElem?_map,List.getElem?_eq_getElem hp]
  rfl
 ·have z:=(r _ _ _ (List.getElem?_eq_getElem hp) (List.getElem?_eq_getElem ho)).2
  rw[z,List.getD_eq_getElem?_getD,List.getElem?_eq_getElem ho]
  rfl
theorem RwsX.len{A:Ad}{H:Hp}{a:Addr}{os:List ↑26}(h:RwsX A H a os):∃xs,H a=some (.lst xs)/\xs.length=os.length:=by
 obtain⟨ps,e,l,_⟩:=h;exact⟨_,e,by rw[List.length_map];exact l⟩
def a7l(nu le:Int):Bool:=decide (nu=-1) || decide (le<=0)
def a1w(nu le:Int):Int:=if a7l nu le then nu+1 else nu
noncomputable def b0d(os:List ↑26)(nu le:Int):Int:=if a7l nu le then 0 else ((os.getD nu.toNat []).length:Int)-le
noncomputable def a7m(os:List ↑26)(nu le:Int):Int:=((os.getD (a1w nu le).toNat []).length:Int)-b0d os nu le-1
noncomputable def b4t(os:List ↑26)(nu le:Int):Bool:=decide (0<=a1w nu le/\a1w nu le<os.length) && decide (0<=b0d os nu le/\b0d os nu le<((os.getD (a1w nu le).toNat []).length:Int))
def b0f(os:List ↑26)(nu le:Int):Prop:=a7l nu le=true\/(0<=nu/\nu<os.length)
def a0u(cl:Cl):Sp:=λvs H Q _=>ExL λA n c os bk gs ts ps Gq Tq tl lt=>vs=[.ref A.gv]/\↑905/\Q (.bl (a7l Gq.nu Gq.le)) H
noncomputable abbrev a1h:Stmt:=m8 (top 88) 4
theorem a7z:g2 ["self"] ["self"] (d7 a1h):=↑1
theorem a8y(D:DefM K cl.Giver "begins_order" "Giver.begins_order" a1h ["self"])(T:↑18):↑902 "begins_order" 1 ["self"] (a0u cl):=by
 refine D.fn a7z ↑7 ↑3
 ·obtain⟨A,n,c,os,bk,gs,ts,ps,Gq,Tq,tl,lt,rfl,hL,k⟩:=h
  refine⟨_,(d5 (i9 (e4k (a0w v3 ↑6 (v9 T.m_NO_ORDER rfl) ↑32) (b9j (a0w e4l ↑6 d8 ↑32))))),?_⟩;obtain⟨dxg,eg⟩:=hL.gv;fail "c";unfold a7l at k;fail "";rw[show decide (V.int Gq.nu=V.int (-1))=decide (Gq.nu=-1) by simp]
  fail "j"
  ·rw[decide_eq_true y,Bool.true_or] at k;exact k
  ·rw[decide_eq_false y,Bool.false_or] at k
   fail "";exact k
def o8(cl:Cl):Sp:=λvs H Q _=>ExL λA n c os bk gs ts ps Gq Tq tl lt=>vs=[.ref A.gv]/\↑905/\Q (.int (a1w Gq.nu Gq.le)) H
noncomputable abbrev a2g:Stmt:=m8 (top 88) 5
theorem b0t:g2 ["self"] ["self"] (d7 a2g):=↑1
theorem b2b(D:DefM K cl.Giver "next_order" "Giver.next_order" a2g ["self"])(T:↑18)(G_begins_order:↑902 "begins_order" 1 ["self"] (a0u cl)):↑902 "next_order" 2 ["self"] (o8 cl):=by
 refine D.fn b0t ↑7 ↑3
 ·obtain⟨A,n,c,os,bk,gs,ts,ps,Gq,Tq,tl,lt,rfl,hL,k⟩:=h
  refine⟨_,(d5 (i9 (a5k (a6h (a0h (k:=1) (pv 0) hr ↑4 g4)) (g7 j9 ↑6 d8) ↑6))),?_⟩;obtain⟨dxg,eg⟩:=hL.gv;fail "c";unfold a1w at k;fail "e";refine⟨A.gv,cl.Giver,dxg,_,_,_,rfl,eg,rfl,T.k_Giver,G_begins_order,?_⟩;fail "";refine⟨A,n,c,os,bk,gs,ts,ps,Gq,Tq,tl,lt,rfl,hL,?_⟩;fail "";refine d3g (λy=>?_) (λy=>?_)
  ·rw[y] at k;fail "";exact k
  ·rw[y] at k;fail "";exact k
def a0p(cl:Cl):Sp:=λvs H Q _=>ExL λA n c os bk gs ts ps Gq Tq tl lt=>vs=[.ref A.gv]/\↑905/\b0f os Gq.nu Gq.le/\Q (.int (b0d os Gq.nu Gq.le)) H
noncomputable abbrev a3a:Stmt:=m8 (top 88) 6
theorem b2y:g2 ["self"] ["self"] (d7 a3a):=↑1
theorem b3i(D:DefM K cl.Giver "next_part" "Giver.next_part" a3a ["self"])(T:↑18)(G_begins_order:↑902 "begins_order" 1 ["self"] (a0u cl)):↑902 "next_part" 2 ["self"] (a0p cl):=by
 refine D.fn b2y ↑7 ↑3
 ·obtain⟨A,n,c,os,bk,gs,ts,ps,Gq,Tq,tl,lt,rfl,hL,kn,k⟩:=h
  refine⟨_,(d5 (i9 (a5k (a6h (a0h (k:=1) (pv 0) hr ↑4 g4)) d8 (g7 a3n (k0 ↑34 (by rfl) T.z_len PySem.boot_len (a9 (l7 ↑12 ↑6 ↑6 ↑10) d9)) ↑6)))),?_⟩
  obtain⟨dxg,eg⟩:=hL.gv;fail "c";unfold b0d at k;fail "e";refine⟨A.gv,cl.Giver,dxg,_,_,_,rfl,eg,rfl,T.k_Giver,G_begins_order,?_⟩;fail "";refine⟨A,n,c,os,bk,gs,ts,ps,Gq,Tq,tl,lt,rfl,hL,?_⟩;fail "";refine d3g (λy=>?_) (λy=>?_)
  ·rw[y] at k;fail "";exact k
  ·rw[y] at k
   rcases kn with kn|kn
   ·rw[y] at kn;cases kn
   obtain⟨xs,p,ex,hp,ep⟩:=hL.kept.pick kn.1 kn.2;fail "";refine w9 ex hp ?_;fail "";rw[List.length_map];exact k
def a2a(cl:Cl):Sp:=λvs H Q _=>ExL λA n c os bk gs ts ps Gq Tq tl lt=>vs=[.ref A.gv]/\↑905/\(b0f os Gq.nu Gq.le/\0<=a1w Gq.nu Gq.le/\a1w Gq.nu Gq.le<os.length)/\Q (.int (a7m os Gq.nu Gq.le)) H
noncomputable abbrev a3b:Stmt:=m8 (top 88) 7
theorem b2z:g2 ["self"] ["self"] (d7 a3b):=↑1
theorem b3j(D:DefM K cl.Giver "next_left" "Giver.next_left" a3b ["self"])(T:↑18)(G_next_order:↑902 "next_order" 2 ["self"] (o8 cl))(G_next_part:↑902 "next_part" 2 ["self"] (a0p cl)):↑902 "next_left" 3 ["self"] (a2a cl):=by
 refine D.fn b2z ↑7 ↑3
 ·obtain⟨A,n,c,os,bk,gs,ts,ps,Gq,Tq,tl,lt,rfl,hL,kn,k⟩:=h
  refine⟨_,(d5 (i9 (g7 a3n (g7 a3n (k0 ↑34 (by rfl) T.z_len PySem.boot_len (a9 (l7 ↑12 ↑6 (a0h (k:=2) (pv 0) hr ↑4 g4) ↑10) d9)) (a0h (k:=2) (pv 0) hr ↑4 g4)) d8))),?_⟩
  obtain⟨dxg,eg⟩:=hL.gv;fail "c";unfold a7m at k;obtain⟨xs,p,ex,hp,ep⟩:=hL.kept.pick kn.2.1 kn.2.2;fail "e";refine⟨A.gv,cl.Giver,dxg,_,_,_,rfl,eg,rfl,T.k_Giver,G_next_order,?_⟩;fail "";refine⟨A,n,c,os,bk,gs,ts,ps,Gq,Tq,tl,lt,rfl,hL,?_⟩;refine w9 ex hp ?_;fail "";rw[List.length_map];refine d6k ?_;fail "";refine⟨A.gv,cl.Giver,dxg,_,_,_,rfl,eg,rfl,T.k_Giver,G_next_part,?_⟩;fail "";refine⟨A,n,c,os,bk,gs,ts,ps,Gq,Tq,tl,lt,rfl,hL,kn.1,?_⟩;fail "";exact k
def a6a(cl:Cl):Sp:=λvs H Q _=>ExL λA n c os bk gs ts ps Gq Tq tl lt=>vs=[.ref A.gv]/\↑905/\b0f os Gq.nu Gq.le/\Q (.bl (b4t os Gq.nu Gq.le)) H
noncomputable abbrev a3w:Stmt:=m8 (top 88) 8
theorem a6f:g2 ["self","order"] ["self"] (d7 a3w):=↑1
theorem b4s(D:DefM K cl.Giver "has_part" "Giver.has_part" a3w ["self"])(T:↑18)(G_next_order:↑902 "next_order" 2 ["self"] (o8 cl))(G_next_part:↑902 "next_part" 2 ["self"] (a0p cl)):↑902 "has_part" 3 ["self"] (a6a cl):=by
 refine D.fn a6f ↑7 ↑3
 ·obtain⟨A,n,c,os,bk,gs,ts,ps,Gq,Tq,tl,lt,rfl,hL,kn,k⟩:=h
  refine⟨_,(b9 (i6 (i:=1) a6f.nd rfl ↑23 (a0h (k:=2) (pv 0) hr ↑4 g4))
   (d5 (i9 (c3m (c8b rfl T.z_range (pv 1) (a9 (k0 ↑34 (by rfl) T.z_len PySem.boot_len ↑45) d9)) (b9j (c8b rfl T.z_range (a0h (k:=2) (pv 0) hr ↑4 g4) (a9 (k0 ↑34 (by rfl) T.z_len PySem.boot_len (a9 (l7 ↑12 ↑6 (pv 1) ↑10) d9)) d9))))))),?_⟩
  obtain⟨dxg,eg⟩:=hL.gv;fail "c";unfold b4t at k;obtain⟨xs,ex,lx⟩:=hL.kept.len;fail "e";refine⟨A.gv,cl.Giver,dxg,_,_,_,rfl,eg,rfl,T.k_Giver,G_next_order,?_⟩;fail "";refine⟨A,n,c,os,bk,gs,ts,ps,Gq,Tq,tl,lt,rfl,hL,?_⟩;fail "";refine d3h ?_;fail "";rw[lx];refine c8n ?_;fail "";fail "j"
  ·rw[show decide (0<=a1w Gq.nu Gq.le/\a1w Gq.nu Gq.le<os.length)=true from decide_eq_true y,Bool.true_and] at k
   fail "";refine d3h ?_;fail "e";refine⟨A.gv,cl.Giver,dxg,_,_,_,rfl,eg,rfl,T.k_Giver,G_next_part,?_⟩;fail "";refine⟨A,n,c,os,bk,gs,ts,ps,Gq,Tq,tl,lt,rfl,hL,kn,?_⟩;obtain⟨xs',p,ex',hp,ep⟩:=hL.kept.pick y.1 y.2;fail "";refine w9 ex' hp ?_;fail "";rw[List.length_map];refine c8n ?_;exact k
  ·rw[show decide (0<=a1w Gq.nu Gq.le/\a1w Gq.nu Gq.le<os.length)=false from decide_eq_false y,Bool.false_and] at k
   exact k
def a7k(cl:Cl):Sp:=λvs H Q _=>ExL λA n c os bk gs ts ps Gq Tq tl lt=>vs=[.ref A.gv]/\↑905/\(Gq.st="look"->b0f os Gq.nu Gq.le)/\Q (.bl (decide (Gq.st="look") && !b4t os Gq.nu Gq.le)) H
noncomputable abbrev a4t:Stmt:=m8 (top 88) 16
theorem b5w:g2 ["self"] ["self"] (d7 a4t):=↑1
theorem b6b(D:DefM K cl.Giver "resting" "Giver.resting" a4t ["self"])(T:↑18)(G_has_part:↑902 "has_part" 3 ["self"] (a6a cl)):↑902 "resting" 4 ["self"] (a7k cl):=by
 refine D.fn b5w ↑7 ↑3
 ·obtain⟨A,n,c,os,bk,gs,ts,ps,Gq,Tq,tl,lt,rfl,hL,kn,k⟩:=h
  refine⟨_,(d5 (i9 (c3m (a0w v3 ↑6 g6 ↑32) (b9j (e1n (a0h (k:=3) (pv 0) hr ↑4 g4)))))),?_⟩;obtain⟨dxg,eg⟩:=hL.gv;fail "c";fail "";rw[show decide (V.str Gq.st=V.str "look")=decide (Gq.st="look") by simp]
  fail "j"
  ·rw[decide_eq_true y,Bool.true_and] at k
   fail "e";refine⟨A.gv,cl.Giver,dxg,_,_,_,rfl,eg,rfl,T.k_Giver,G_has_part,?_⟩;fail "";refine⟨A,n,c,os,bk,gs,ts,ps,Gq,Tq,tl,lt,rfl,hL,kn y,?_⟩;fail "";exact k
  ·rw[decide_eq_false y,Bool.false_and] at k
   exact k
structure DefV(K:↑28)(f:Addr)(x:Str)(st:Stmt)(ps:List Str):Prop where
 ex:∃fd:FuncData,Fun K x x st f fd/\Binds K fd ps []
theorem DefV.fn{f:Addr}{x:Str}{st:Stmt}{N ps:List Str}{k:Nat}{sp:Sp}(D:DefV K f x st ps)(S:g2 N ps (d7 st))(len:∀vs H Q E,sp vs H Q E->vs.length=ps.length)(hbody:∀(f:Addr) (cdv:Value) (A:Around) (outer:List Env) (s:Shared) (H:Hp) (vs:List V) (Q:VK) (E:XK),Room k (A.deeper (PyProof.Rows.envOfC x (d7 st) s.heap.objs.size f cdv))->sp vs H Q E ->
   ∃t,PSs (c7j (CXK P w) P w K mg base N x (d7 st) f cdv A outer s H E) (a0d st) t/\t { nx:=λ_ H'=>Q .non H',rt:=Q } (L2.start N vs) H):FnV P w K mg base f (k+1) ps sp:=by
 obtain⟨fd,F,hb⟩:=D.ex;exact⟨fd,F.okX S len (hbody f),F.kp,hb⟩
theorem FnT.toV{x:Str}{k:Nat}{ps:List Str}{sp:Sp}{f:Addr}(F:↑901 x k ps sp)(hm:mg x=some (.ref f)):FnV P w K mg base f k ps sp:=by
 obtain⟨f',fd,F,hm',hk,hb⟩:=F.ex;rw[hm] at hm';cases hm';exact⟨fd,F,hk,hb⟩
theorem d7f{f:Str}{ta:TE}{v:V}{σ:St}{H:Hp}{Q:St->Hp->Prop}(q:ta σ H λx H1=>∃a C dx fs,x=.ref a/\H1 a=some ↑40/\Cls K C/\NoAttr K C f/\fs.length<1000/\Q σ (upd H1 a (.ins C dx (b8p f v fs)))):e6k K ta f v σ H Q:=q
abbrev ahd(n t:Int):Int:=((t + -1) % (2*n)) % n
def a1f(cl:Cl):Sp:=λvs H Q _=>ExL λA n c os bk gs ts ps Gq Tq tl lt=>∃(t:Int),vs=[.ref A.gv]/\↑905/\Gq.he=.int t/\0<=t/\t<2*(n:Int)/\Q (.int (ahd n t)) H
noncomputable abbrev a1t:Stmt:=m8 (top 88) 3
theorem a3y:g2 ["self","size"] ["self"] (d7 a1t):=↑1
theorem b0c(D:DefM K cl.Giver "place_ahead" "Giver.place_ahead" a1t ["self"])(T:↑18)(G_place_of:↑901 "place_of" 3 ["size","turn"] (a6q cl))(G_onward:↑901 "onward" 3 ["size","turn","many"] (a4f cl)):↑902 "place_ahead" 4 ["self"] (a1f cl):=by
 refine D.fn a3y ↑7 ↑3
 ·obtain⟨A,n,c,os,bk,gs,ts,ps,Gq,Tq,tl,lt,t,rfl,hL,he,t0,t1,k⟩:=h
  refine⟨_,(b9 (i6 (i:=1) a3y.nd rfl ↑23 (z9 (K:=K) ↑6))
   (d5 (i9 (i5 G_place_of hr ↑4 rfl g4 (a9 (pv 1) (a9 (i5 G_onward hr ↑4 rfl g4 (a9 (pv 1) (a9 ↑6 (a9 (c6f b6i d8) d9)))) d9)))))),?_⟩
  obtain⟨dxg,eg⟩:=hL.gv;fail "a";fail "";rw[he];refine⟨n,t,_,rfl,y9 ↑2 ↑2 t0 t1 ?_⟩;fail "";exact⟨n,_,rfl,y9 ↑2 ↑2 o0 o1 k⟩
def b3o(cl:Cl):Sp:=λvs H Q _=>ExL λA n c os bk gs ts ps Gq Tq tl lt=>∃(t:Int),vs=[.ref A.gv]/\↑905/\Gq.he=.int t/\0<=t/\t<2*(n:Int)/\∀H',LH cl H' A n c os bk gs ts ps { Gq with nu:=c (4*(ahd n t).toNat+1) } Tq tl (lt.rd (4*(ahd n t).toNat+1) (c (4*(ahd n t).toNat+1)))->KpA A H H'->Q (.str "lacks") H'
abbrev b7e:Stmt:=top 78
theorem c9j:g2 ["giver"] ["giver"] (d7 b7e):=↑1
theorem c9w(D:DefT K mg "at_told" b7e ["giver"])(T:↑18)(G_Board_read:↑904 cl.Board "read" 2 ["self","cell"] (u6 cl))(G_number_cell:↑901 "number_cell" 1 ["place"] (v5 1))(G_Giver_place_ahead:↑902 "place_ahead" 4 ["self"] (a1f cl)):↑901 "at_told" 5 ["giver"] (b3o cl):=by
 refine D.fn c9j ↑7 ↑3
 ·obtain⟨A,n,c,os,bk,gs,ts,ps,Gq,Tq,tl,lt,t,rfl,hL,he,t0,t1,k⟩:=h
  refine⟨_,(b9 (j3 (K:=K) (pv 0) (a3m ↑6 T.k_Board G_Board_read hr ↑4 g4 (a9 (i5 G_number_cell hr ↑4 rfl g4 (a9 ↑44 d9)) d9)))
   ↑29),?_⟩
  obtain⟨dxg,eg⟩:=hL.gv;fail "a";fail "e";refine⟨A.gv,cl.Giver,dxg,_,_,_,rfl,eg,rfl,T.k_Giver,G_Giver_place_ahead,?_⟩;fail "";refine⟨A,n,c,os,bk,gs,ts,ps,Gq,Tq,tl,lt,t,rfl,hL,he,t0,t1,?_⟩;fail "";fail "f";obtain⟨z1,z2⟩:=hL.wasRead ht kp ett hB' hLast.1 (4*(ahd n t).toNat+1) ↑2 ↑2;obtain⟨dxg2,eg2⟩:=z1.gv;rw[show(4*ahd n t+1).toNat=4*(ahd n t).toNat+1 by lia,a0b c ↑2]
  fail "";exact k _ (z1.setG (dx:=dxg2) (G':={ Gq with nu:=c (4*(ahd n t).toNat+1) })) (z2.trans (KpA.upd (j:=2) (by lia)))
def b0r(cl:Cl):Sp:=λvs H Q _=>ExL λA n c os bk gs ts ps Gq Tq tl lt=>∃(t:Int),vs=[.ref A.gv]/\↑905/\Gq.he=.int t/\0<=t/\t<2*(n:Int)/\∀H',LH cl H' A n c os bk gs ts ps { Gq with le:=c (4*(ahd n t).toNat+2) } Tq tl (lt.rd (4*(ahd n t).toNat+2) (c (4*(ahd n t).toNat+2)))->KpA A H H'->Q (.str "look") H'
abbrev b4j:Stmt:=top 79
theorem c5w:g2 ["giver"] ["giver"] (d7 b4j):=↑1
theorem c6u(D:DefT K mg "at_lacks" b4j ["giver"])(T:↑18)(G_Board_read:↑904 cl.Board "read" 2 ["self","cell"] (u6 cl))(G_left_cell:↑901 "left_cell" 1 ["place"] (v5 2))(G_Giver_place_ahead:↑902 "place_ahead" 4 ["self"] (a1f cl)):↑901 "at_lacks" 5 ["giver"] (b0r cl):=by
 refine D.fn c5w ↑7 ↑3
 ·obtain⟨A,n,c,os,bk,gs,ts,ps,Gq,Tq,tl,lt,t,rfl,hL,he,t0,t1,k⟩:=h
  refine⟨_,(b9 (j3 (K:=K) (pv 0) (a3m ↑6 T.k_Board G_Board_read hr ↑4 g4 (a9 (i5 G_left_cell hr ↑4 rfl g4 (a9 ↑44 d9)) d9)))
   ↑29),?_⟩
  obtain⟨dxg,eg⟩:=hL.gv;fail "a";fail "e";refine⟨A.gv,cl.Giver,dxg,_,_,_,rfl,eg,rfl,T.k_Giver,G_Giver_place_ahead,?_⟩;fail "";refine⟨A,n,c,os,bk,gs,ts,ps,Gq,Tq,tl,lt,t,rfl,hL,he,t0,t1,?_⟩;fail "";fail "f";obtain⟨z1,z2⟩:=hL.wasRead ht kp ett hB' hLast.1 (4*(ahd n t).toNat+2) ↑2 ↑2;obtain⟨dxg2,eg2⟩:=z1.gv;rw[show(4*ahd n t+2).toNat=4*(ahd n t).toNat+2 by lia,a0b c ↑2]
  fail "";exact k _ (z1.setG (dx:=dxg2) (G':={ Gq with le:=c (4*(ahd n t).toNat+2) })) (z2.trans (KpA.upd (j:=2) (by lia)))
def a0o(cl:Cl):Sp:=λvs H Q _=>ExL λA n c os bk gs ts ps Gq Tq tl lt=>∃(t:Int),vs=[.ref A.gv]/\↑905/\Gq.he=.int t/\0<=t/\t<2*(n:Int)/\∀H',LH cl H' A n (Pr.put c (4*(t % (n:Int)).toNat+1) (a1w Gq.nu Gq.le)) os bk gs ts ps Gq Tq tl (lt.wr (4*(t % (n:Int)).toNat+1) (a1w Gq.nu Gq.le))->KpA A H H'->Q (.str "left") H'
abbrev a2x:Stmt:=top 80
theorem b2v:g2 ["giver"] ["giver"] (d7 a2x):=↑1
theorem b3e{fa:Addr}(D:DefV K fa "at_number" a2x ["giver"])(T:↑18)(G_Board_write:↑904 cl.Board "write" 2 ["self","cell","number"] (u5 cl))(G_number_cell:↑901 "number_cell" 1 ["place"] (v5 1))(GP:↑902 "place" 4 ["self"] (t2 cl))(G_next_order:↑902 "next_order" 2 ["self"] (o8 cl)):FnV P w K mg base fa 5 ["giver"] (a0o cl):=by
 refine D.fn b2v ↑7 ↑3
 ·obtain⟨A,n,c,os,bk,gs,ts,ps,Gq,Tq,tl,lt,t,rfl,hL,he,t0,t1,k⟩:=h
  refine⟨_,(b9 (i3 (a3m ↑6 T.k_Board G_Board_write hr ↑4 g4 (a9 (i5 G_number_cell hr ↑4 rfl g4 (a9 ↑44 d9)) (a9 (a0h (k:=2) (pv 0) hr ↑4 g4) d9))))
   ↑29),?_⟩
  obtain⟨dxg,eg⟩:=hL.gv;fail "a";fail "e";refine⟨A.gv,cl.Giver,dxg,_,_,_,rfl,eg,rfl,T.k_Giver,GP,?_⟩;fail "";refine⟨A,n,c,os,bk,gs,ts,ps,Gq,Tq,tl,lt,true,A.gv,t,rfl,.inl ⟨rfl,rfl⟩,hL,he,t0,t1,?_⟩;fail "";refine⟨_,rfl,?_⟩;fail "e";refine⟨A.gv,cl.Giver,dxg,_,_,_,rfl,eg,rfl,T.k_Giver,G_next_order,?_⟩;fail "";refine⟨A,n,c,os,bk,gs,ts,ps,Gq,Tq,tl,lt,rfl,hL,?_⟩;fail "";refine⟨A.bd,A.l,n,_,many,last,_,_,rfl,hB,?_⟩;rw[if_pos ⟨by lia,by rw[hlen];lia⟩]
  intro tt H' ht kp ett hB';rw[show(4*(t % (n:Int))+1).toNat=4*(t % (n:Int)).toNat+1 by lia] at hB'
  obtain⟨z1,z2⟩:=hL.wrote (k:=4*(t % (n:Int)).toNat+1) ↑2 ht kp (by rw[ett];rw[show(4*(t % (n:Int))+1)=((4*(t % (n:Int)).toNat+1:Nat):Int) by lia]) hB' hLast.1
  fail "";exact k H' z1 z2
def a1m(cl:Cl):Sp:=λvs H Q _=>ExL λA n c os bk gs ts ps Gq Tq tl lt=>∃(t:Int),vs=[.ref A.gv]/\↑905/\Gq.he=.int t/\0<=t/\t<2*(n:Int)/\(b0f os Gq.nu Gq.le/\0<=a1w Gq.nu Gq.le/\a1w Gq.nu Gq.le<os.length)/\∀H',LH cl H' A n (Pr.put c (4*(t % (n:Int)).toNat+2) (a7m os Gq.nu Gq.le)) os bk gs ts ps Gq Tq tl (lt.wr (4*(t % (n:Int)).toNat+2) (a7m os Gq.nu Gq.le))->KpA A H H'->Q (.str "thing") H'
abbrev a4q:Stmt:=top 82
theorem b5u:g2 ["giver"] ["giver"] (d7 a4q):=↑1
theorem b5z{fa:Addr}(D:DefV K fa "at_left" a4q ["giver"])(T:↑18)(G_Board_write:↑904 cl.Board "write" 2 ["self","cell","number"] (u5 cl))(G_left_cell:↑901 "left_cell" 1 ["place"] (v5 2))(GP:↑902 "place" 4 ["self"] (t2 cl))(G_next_left:↑902 "next_left" 3 ["self"] (a2a cl)):FnV P w K mg base fa 5 ["giver"] (a1m cl):=by
 refine D.fn b5u ↑7 ↑3
 ·obtain⟨A,n,c,os,bk,gs,ts,ps,Gq,Tq,tl,lt,t,rfl,hL,he,t0,t1,kn,k⟩:=h
  refine⟨_,(b9 (i3 (a3m ↑6 T.k_Board G_Board_write hr ↑4 g4 (a9 (i5 G_left_cell hr ↑4 rfl g4 (a9 ↑44 d9)) (a9 (a0h (k:=3) (pv 0) hr ↑4 g4) d9))))
   ↑29),?_⟩
  obtain⟨dxg,eg⟩:=hL.gv;fail "a";fail "e";refine⟨A.gv,cl.Giver,dxg,_,_,_,rfl,eg,rfl,T.k_Giver,GP,?_⟩;fail "";refine⟨A,n,c,os,bk,gs,ts,ps,Gq,Tq,tl,lt,true,A.gv,t,rfl,.inl ⟨rfl,rfl⟩,hL,he,t0,t1,?_⟩;fail "";refine⟨_,rfl,?_⟩;fail "e";refine⟨A.gv,cl.Giver,dxg,_,_,_,rfl,eg,rfl,T.k_Giver,G_next_left,?_⟩;fail "";refine⟨A,n,c,os,bk,gs,ts,ps,Gq,Tq,tl,lt,rfl,hL,kn,?_⟩;fail "";refine⟨A.bd,A.l,n,_,many,last,_,_,rfl,hB,?_⟩;rw[if_pos ⟨by lia,by rw[hlen];lia⟩]
  intro tt H' ht kp ett hB';rw[show(4*(t % (n:Int))+2).toNat=4*(t % (n:Int)).toNat+2 by lia] at hB'
  obtain⟨z1,z2⟩:=hL.wrote (k:=4*(t % (n:Int)).toNat+2) ↑2 ht kp (by rw[ett];rw[show(4*(t % (n:Int))+2)=((4*(t % (n:Int)).toNat+2:Nat):Int) by lia]) hB' hLast.1
  fail "";exact k H' z1 z2
def a1a(cl:Cl):Sp:=λvs H Q _=>ExL λA n c os bk gs ts ps Gq Tq tl lt=>∃(t:Int),vs=[.ref A.gv]/\↑905/\Gq.he=.int t/\0<=t/\t<2*(n:Int)/\(b0f os Gq.nu Gq.le/\(0<=a1w Gq.nu Gq.le/\a1w Gq.nu Gq.le<os.length)/\0<=b0d os Gq.nu Gq.le/\b0d os Gq.nu Gq.le<((os.getD (a1w Gq.nu Gq.le).toNat []).length:Int))/\∀H',LH cl H' A n (Pr.put c (4*(t % (n:Int)).toNat+3) ((os.getD (a1w Gq.nu Gq.le).toNat []).getD (b0d os Gq.nu Gq.le).toNat 0)) os bk gs ts ps Gq Tq tl (lt.wr (4*(t % (n:Int)).toNat+3) ((os.getD (a1w Gq.nu Gq.le).toNat []).getD (b0d os Gq.nu Gq.le).toNat 0))->KpA A H H'->Q (.str "mark") H'
abbrev a3t:Stmt:=top 84
theorem a6c:g2 ["giver","order"] ["giver"] (d7 a3t):=↑1
theorem b4p{fa:Addr}(D:DefV K fa "at_thing" a3t ["giver"])(T:↑18)(G_Board_write:↑904 cl.Board "write" 2 ["self","cell","number"] (u5 cl))(G_thing_cell:↑901 "thing_cell" 1 ["place"] (v5 3))(GP:↑902 "place" 4 ["self"] (t2 cl))(G_next_order:↑902 "next_order" 2 ["self"] (o8 cl))(G_next_part:↑902 "next_part" 2 ["self"] (a0p cl)):FnV P w K mg base fa 5 ["giver"] (a1a cl):=by
 refine D.fn a6c ↑7 ↑3
 ·obtain⟨A,n,c,os,bk,gs,ts,ps,Gq,Tq,tl,lt,t,rfl,hL,he,t0,t1,kn,k⟩:=h
  refine⟨_,(b9 (i6 (i:=1) a6c.nd rfl ↑23 (l7 ↑12 ↑6 (a0h (k:=2) (pv 0) hr ↑4 g4) ↑10))
   (b9 (i3 (a3m ↑6 T.k_Board G_Board_write hr ↑4 g4 (a9 (i5 G_thing_cell hr ↑4 rfl g4 (a9 ↑44 d9)) (a9 (l7 ↑12 (pv 1) (a0h (k:=2) (pv 0) hr ↑4 g4) ↑10) d9))))
   ↑29)),?_⟩
  obtain⟨dxg,eg⟩:=hL.gv;fail "a";obtain⟨xs,p,ex,hp,ep⟩:=hL.kept.pick kn.2.1.1 kn.2.1.2;fail "e";refine⟨A.gv,cl.Giver,dxg,_,_,_,rfl,eg,rfl,T.k_Giver,G_next_order,?_⟩;fail "";refine⟨A,n,c,os,bk,gs,ts,ps,Gq,Tq,tl,lt,rfl,hL,?_⟩;refine w9 ex hp ?_;fail "e";refine⟨A.gv,cl.Giver,dxg,_,_,_,rfl,eg,rfl,T.k_Giver,GP,?_⟩;fail "";refine⟨A,n,c,os,bk,gs,ts,ps,Gq,Tq,tl,lt,true,A.gv,t,rfl,.inl ⟨rfl,rfl⟩,hL,he,t0,t1,?_⟩;fail "";refine⟨_,rfl,?_⟩;fail "e";refine⟨A.gv,cl.Giver,dxg,_,_,_,rfl,eg,rfl,T.k_Giver,G_next_part,?_⟩;fail "";refine⟨A,n,c,os,bk,gs,ts,ps,Gq,Tq,tl,lt,rfl,hL,kn.1,?_⟩;refine w9 ep (b9x kn.2.2.1 kn.2.2.2) ?_;fail "";refine⟨A.bd,A.l,n,_,many,last,_,_,rfl,hB,?_⟩;rw[if_pos ⟨by lia,by rw[hlen];lia⟩]
  intro tt H' ht kp ett hB';rw[show(4*(t % (n:Int))+3).toNat=4*(t % (n:Int)).toNat+3 by lia] at hB'
  obtain⟨z1,z2⟩:=hL.wrote (k:=4*(t % (n:Int)).toNat+3) ↑2 ht kp (by rw[ett];rw[show(4*(t % (n:Int))+3)=((4*(t % (n:Int)).toNat+3:Nat):Int) by lia]) hB' hLast.1
  fail "";exact k H' z1 z2
def b3p(cl:Cl):Sp:=λvs H Q _=>ExL λA n c os bk gs ts ps Gq Tq tl lt=>∃(t:Int),vs=[.ref A.gv]/\↑905/\Gq.he=.int t/\0<=t/\t<2*(n:Int)/\∀H',LH cl H' A n (Pr.put c (4*(t % (n:Int)).toNat+0) (2*(t / (n:Int))+1)) os bk gs ts ps Gq Tq tl (lt.wr (4*(t % (n:Int)).toNat+0) (2*(t / (n:Int))+1))->KpA A H H'->Q (.str "card") H'
abbrev b7h:Stmt:=top 86
theorem c9m:g2 ["giver"] ["giver"] (d7 b7h):=↑1
theorem c9z(D:DefT K mg "at_mark" b7h ["giver"])(T:↑18)(G_Board_write:↑904 cl.Board "write" 2 ["self","cell","number"] (u5 cl))(G_mark_cell:↑901 "mark_cell" 1 ["place"] (v5 0))(GP:↑902 "place" 4 ["self"] (t2 cl))(G_full_mark:↑901 "full_mark" 4 ["size","turn"] (a7s cl)):↑901 "at_mark" 5 ["giver"] (b3p cl):=by
 refine D.fn c9m ↑7 ↑3
 ·obtain⟨A,n,c,os,bk,gs,ts,ps,Gq,Tq,tl,lt,t,rfl,hL,he,t0,t1,k⟩:=h
  refine⟨_,(b9 (i3 (a3m ↑6 T.k_Board G_Board_write hr ↑4 g4 (a9 (i5 G_mark_cell hr ↑4 rfl g4 (a9 ↑44 d9)) (a9 (i5 G_full_mark hr ↑4 rfl g4 (a9 (z9 (K:=K) ↑6) ↑45)) d9))))
   ↑29),?_⟩
  obtain⟨dxg,eg⟩:=hL.gv;fail "a";fail "e";refine⟨A.gv,cl.Giver,dxg,_,_,_,rfl,eg,rfl,T.k_Giver,GP,?_⟩;fail "";refine⟨A,n,c,os,bk,gs,ts,ps,Gq,Tq,tl,lt,true,A.gv,t,rfl,.inl ⟨rfl,rfl⟩,hL,he,t0,t1,?_⟩;fail "";refine⟨_,rfl,?_⟩;fail "";rw[he];refine⟨n,t,rfl,y9 ↑2 ↑2 t0 t1 ?_⟩;fail "";refine⟨A.bd,A.l,n,_,many,last,_,_,rfl,hB,?_⟩;rw[if_pos ⟨by lia,by rw[hlen];lia⟩]
  intro tt H' ht kp ett hB';rw[show(4*(t % (n:Int))+0).toNat=4*(t % (n:Int)).toNat+0 by lia] at hB'
  obtain⟨z1,z2⟩:=hL.wrote (k:=4*(t % (n:Int)).toNat+0) ↑2 ht kp (by rw[ett];rw[show(4*(t % (n:Int))+0)=((4*(t % (n:Int)).toNat+0:Nat):Int) by lia]) hB' hLast.1
  fail "";exact k H' z1 z2
def a1e(cl:Cl):Sp:=λvs H Q _=>ExL λA n c os bk gs ts ps Gq Tq tl lt=>∃(t:Int),vs=[.ref A.gv]/\↑905/\Gq.he=.int t/\0<=t/\t<2*(n:Int)/\Q (.int t) H
noncomputable abbrev a1s:Stmt:=m8 (top 88) 14
theorem a9y:g2 ["self"] ["self"] (d7 a1s):=↑1
theorem b0b(D:DefM K cl.Giver "turn_served" "Giver.turn_served" a1s ["self"])(T:↑18):↑902 "turn_served" 1 ["self"] (a1e cl):=by
 refine D.fn a9y ↑7 ↑3
 ·obtain⟨A,n,c,os,bk,gs,ts,ps,Gq,Tq,tl,lt,t,rfl,hL,he,t0,t1,k⟩:=h
  refine⟨_,(d5 (i9 ↑6)),?_⟩;obtain⟨dxg,eg⟩:=hL.gv;fail "a";fail "";rw[he];exact k
theorem c7p{row:List Int}{H:Hp}{E:XK}{k:Nat->Hp->Prop}{f:Nat}(h:a5o (toB row)=some f)(q:∀H',Same H H'->k f H'):d7q cl row H E k:=by
 refine⟨λf' H' s e=>?_,λH' s e=>?_⟩
 ·rw[h] at e;cases e;exact q H' s
 ·rw[h] at e;cases e
def a5d(K:↑28)(cl:Cl):Sp:=λvs H Q _=>ExL λA n c os bk gs ts ps Gq Tq tl lt=>∃(t:Int)(m:Addr)(ms:List Int)(f:Nat),vs=[.ref A.gv,.ref m]/\↑905/\H m=some (.lst (ms.map V.int))/\ms.length=n/\a2o ms=true/\a5o (toB (ms.map d5t))=some f/\∀H',LH cl H' A n c os bk gs ts ps { Gq with he:=.int (f:Nat) } Tq tl lt->KpA A H H'->Q .non H'
noncomputable abbrev a3c:Stmt:=m8 (top 88) 12
theorem b3a:g2 ["self","marks"] ["self","marks"] (d7 a3c):=↑1
theorem b3k(D:DefM K cl.Giver "know_turn" "Giver.know_turn" a3c ["self","marks"])(T:↑18)(G_giver_turn:↑901 "giver_turn" 5 ["marks"] (b2m K cl)):↑902 "know_turn" 6 ["self","marks"] (a5d K cl):=by
 refine D.fn b3a ↑7 ↑3
 ·obtain⟨A,n,c,os,bk,gs,ts,ps,Gq,Tq,tl,lt,t,m,ms,f,rfl,hL,em,lm,mo,fr,k⟩:=h
  refine⟨_,(d5 (j3 (K:=K) (pv 0) (i5 G_giver_turn hr ↑4 rfl g4 ↑15))),?_⟩;obtain⟨dxg,eg⟩:=hL.gv;fail "c";fail "";refine⟨m,ms,rfl,SqL.of em,⟨_,em⟩,c4r ↑2 ↑2 mo (c7p fr λH1 s1=>?_)⟩;have z1:=hL.same s1;obtain⟨dxg2,eg2⟩:=z1.gv;fail "";exact k _ (z1.setG (dx:=dxg2) (G':={ Gq with he:=.int (f:Nat) })) ((KpA.of s1).trans (KpA.upd (j:=2) (by lia)))
def a5r(cl:Cl):Sp:=λvs H Q _=>ExL λA n c os bk gs ts ps Gq Tq tl lt=>∃(t:Int),vs=[.ref A.gv]/\↑905/\Gq.he=.int t/\0<=t/\t<2*(n:Int)/\(b0f os Gq.nu Gq.le/\0<=a1w Gq.nu Gq.le/\a1w Gq.nu Gq.le<os.length)/\∀H',LH cl H' A n c os bk gs ts ps { Gq with he:=.int ((t+1) % (2*(n:Int))),nu:=a1w Gq.nu Gq.le,le:=a7m os Gq.nu Gq.le } Tq tl lt->KpA A H H'->Q (.str "look") H'
noncomputable abbrev a7f:Stmt:=m8 (top 88) 15
theorem b8l:g2 ["self"] ["self"] (d7 a7f):=↑1
theorem b8x(D:DefM K cl.Giver "go_on" "Giver.go_on" a7f ["self"])(T:↑18)(G_next_order:↑902 "next_order" 2 ["self"] (o8 cl))(G_next_left:↑902 "next_left" 3 ["self"] (a2a cl))(G_onward:↑901 "onward" 3 ["size","turn","many"] (a4f cl)):↑902 "go_on" 4 ["self"] (a5r cl):=by
 refine D.fn b8l ↑7 ↑3
 ·obtain⟨A,n,c,os,bk,gs,ts,ps,Gq,Tq,tl,lt,t,rfl,hL,he,t0,t1,kn,k⟩:=h
  refine⟨_,(b9 (a8u (a5j (a9 (a0h (k:=2) (pv 0) hr ↑4 g4) (a9 (a0h (k:=3) (pv 0) hr ↑4 g4) d9))) (c6e (K:=K) rfl (a3e (d1t (K:=K) (pv 0)) (a3e (d1t (K:=K) (pv 0)) c6d))))
   (b9 (j3 (K:=K) (pv 0) (i5 G_onward hr ↑4 rfl g4 (a9 (z9 (K:=K) ↑6) (a9 ↑6 ↑22))))
   ↑29)),?_⟩
  obtain⟨dxg,eg⟩:=hL.gv;fail "a";fail "e";refine⟨A.gv,cl.Giver,dxg,_,_,_,rfl,eg,rfl,T.k_Giver,G_next_order,?_⟩;fail "";refine⟨A,n,c,os,bk,gs,ts,ps,Gq,Tq,tl,lt,rfl,hL,?_⟩;fail "e";refine⟨A.gv,cl.Giver,dxg,_,_,_,rfl,eg,rfl,T.k_Giver,G_next_left,?_⟩;fail "";refine⟨A,n,c,os,bk,gs,ts,ps,Gq,Tq,tl,lt,rfl,hL,kn,?_⟩;fail "";refine⟨by show 2<=sizeLine;decide,λp hp=>?_⟩
  have z1:=hL.same (g3 (o:=.tup [.int (a1w Gq.nu Gq.le),.int (a7m os Gq.nu Gq.le)]) hp);obtain⟨dxg2,eg2⟩:=z1.gv;refine⟨p,_,rfl,SqT.of d6,rfl,_,_,rfl,d7f ?_⟩;fail "";refine⟨_,_,rfl,d7f ?_⟩;fail "";refine⟨rfl,?_⟩;have z2:=z1.setG (dx:=dxg2) (G':={ Gq with nu:=a1w Gq.nu Gq.le })
  have z3:=z2.setG (dx:=dxg2) (G':={ Gq with nu:=a1w Gq.nu Gq.le,le:=a7m os Gq.nu Gq.le })
  have ka:KpA A H _:=((KpA.of (g3 (o:=.tup [.int (a1w Gq.nu Gq.le),.int (a7m os Gq.nu Gq.le)]) hp)).trans (KpA.upd (A:=A) (j:=2) (o:=gvO cl dxg2 A { Gq with nu:=a1w Gq.nu Gq.le }) (by lia))).trans (KpA.upd (A:=A) (j:=2) (o:=gvO cl dxg2 A { Gq with nu:=a1w Gq.nu Gq.le,le:=a7m os Gq.nu Gq.le }) (by lia))
  refine c4w (by assumption) ?_
  revert z3 ka
  change _->_->e3x _ _ _ _ (upd (upd (upd H p (.tup [.int (a1w Gq.nu Gq.le),.int (a7m os Gq.nu Gq.le)])) A.gv (gvO cl dxg2 A { Gq with nu:=a1w Gq.nu Gq.le })) A.gv (gvO cl dxg2 A { Gq with nu:=a1w Gq.nu Gq.le,le:=a7m os Gq.nu Gq.le }))
  generalize upd (upd (upd H p (.tup [.int (a1w Gq.nu Gq.le),.int (a7m os Gq.nu Gq.le)])) A.gv (gvO cl dxg2 A { Gq with nu:=a1w Gq.nu Gq.le })) A.gv (gvO cl dxg2 A { Gq with nu:=a1w Gq.nu Gq.le,le:=a7m os Gq.nu Gq.le })=H3
  intro z3 ka;obtain⟨dxg3,eg3⟩:=z3.gv;obtain⟨many3,last3,hB3,hLast3⟩:=z3.brd;obtain⟨⟨dxb3,eb3⟩,el3,hlen3,_,_⟩:=id hB3;fail "";rw[he];refine⟨n,t,_,rfl,y9 ↑2 ↑2 t0 t1 ?_⟩;fail "";exact k _ (z3.setG (dx:=dxg3) (G':={ Gq with he:=.int ((t+1) % (2*(n:Int))),nu:=a1w Gq.nu Gq.le,le:=a7m os Gq.nu Gq.le })) (ka.trans (KpA.upd (j:=2) (by lia)))
section
variable{H H':Hp}{A:Ad}{n:Nat}{c:Pr.Cells}{os bk:List ↑26}{gs ts ps:List Int}{Gq:Gm}{Tq:Tm}{tl:List Tr}{lt:Lt}
theorem LH.setPa{qs:List Int}(h:↑905):LH cl (upd H A.pa (.lst (qs.map V.int))) A n c os bk gs ts qs Gq Tq tl lt:=by
 have ne:∀i,i<8->i≠7->A.o i≠A.pa:=λi h8 h2=>h.nd i 7 h8 ↑2 h2;obtain⟨m,l,hB,hL⟩:=h.brd;refine⟨⟨m,l,hB.keep (ps:=[A.pa]) (Kp.upd (by simp)) (by simpa using ne 0 ↑2 ↑2) (by simpa using ne 1 ↑2 ↑2),hL.kpa (KpA.upd (j:=7) ↑2)⟩,?_,?_,?_,?_,h.kept.set (j:=7) ↑2 rfl (ne 5 ↑2 ↑2),h.book.set (j:=7) ↑2 rfl (ne 6 ↑2 ↑2),d6,?_,h.nd,h.om,h.fo.updO h.nd 7 ↑2 ↑2 ↑2 ↑2⟩
 ·obtain⟨d,z⟩:=h.gv;exact⟨d,by rw[c9 (ne 2 ↑2 ↑2)];exact z⟩
 ·obtain⟨d,z⟩:=h.tk;exact⟨d,by rw[c9 (ne 3 ↑2 ↑2)];exact z⟩
 ·rw[c9 (h.om 7 ↑2).1];exact h.mg
 ·rw[c9 (h.om 7 ↑2).2];exact h.mt
 ·exact h.tr.kpa (KpA.upd (j:=7) ↑2) λo z=>by rw[c9 (ne 4 ↑2 ↑2)];exact z
theorem LH.setTr{xs:List V}{p:Addr}{t:Tr}(h:↑905)(ex:H A.kt=some (.lst xs))(op:∀j,j<8->p≠A.o j)(fp:¬ A.fo p)(ep:H p=some (d4h t)):LH cl (upd H A.kt (.lst (xs++[.ref p]))) A n c os bk gs ts ps Gq Tq (tl++[t]) lt:=by
 have ne:∀i,i<8->i≠4->A.o i≠A.kt:=λi h8 h2=>h.nd i 4 h8 ↑2 h2;obtain⟨m,l,hB,hL⟩:=h.brd;refine⟨⟨m,l,hB.keep (ps:=[A.kt]) (Kp.upd (by simp)) (by simpa using ne 0 ↑2 ↑2) (by simpa using ne 1 ↑2 ↑2),hL.kpa (KpA.upd (j:=4) ↑2)⟩,?_,?_,?_,?_,h.kept.set (j:=4) ↑2 rfl (ne 5 ↑2 ↑2),h.book.set (j:=4) ↑2 rfl (ne 6 ↑2 ↑2),?_,?_,h.nd,h.om,h.fo.updO h.nd 4 ↑2 ↑2 ↑2 ↑2⟩
 ·obtain⟨d,z⟩:=h.gv;exact⟨d,by rw[c9 (ne 2 ↑2 ↑2)];exact z⟩
 ·obtain⟨d,z⟩:=h.tk;exact⟨d,by rw[c9 (ne 3 ↑2 ↑2)];exact z⟩
 ·rw[c9 (h.om 4 ↑2).1];exact h.mg
 ·rw[c9 (h.om 4 ↑2).2];exact h.mt
 ·rw[c9 (ne 7 ↑2 ↑2)];exact h.pa
 ·obtain⟨qs,e,l,r⟩:=h.tr
  rw[e] at ex;cases ex;refine⟨qs++[p],by rw[d6,List.map_append];rfl,by rw[List.length_append,List.length_append,l];rfl,λi q u hq hu=>?_⟩
  by_cases y:i<qs.length
  ·rw[List.getElem?_append_left y] at hq
   rw[List.getElem?_append_left ↑2] at hu;obtain⟨r1,r2,r3⟩:=r i q u hq hu;exact⟨r1,r2,by rw[c9 (r1 4 ↑2)];exact r3⟩
  ·rw[List.getElem?_append_right ↑2] at hq hu
   have i0:i-qs.length=0:=by
    by_cases z:i-qs.length=0
    ·exact z
    ·rw[List.getElem?_eq_none (by simp;lia)] at hq;cases hq
   rw[i0] at hq;rw[<- l,i0] at hu;cases hq;cases hu;exact⟨op,fp,by rw[c9 (op 4 ↑2)];exact ep⟩
noncomputable def Ad.setPa(A:Ad)(p:Addr):Ad:={ A with o:=λj=>if j=7 then p else A.o j }
theorem Ad.setPa_o{A:Ad}{p:Addr}{j:Nat}(h:j≠7):(A.setPa p).o j=A.o j:=if_neg h
theorem Ad.setPa_7{A:Ad}{p:Addr}:(A.setPa p).o 7=p:=by
 show(if 7=7 then p else A.o 7)=p;exact if_pos rfl
theorem LH.move{p dx:Addr}{bk':List ↑26}(h:↑905)(k:Kp [A.kk,A.tk] H H')(hp:H p=none)(ep:H' p=some (.lst []))(et:H' A.tk=some (tkO cl dx (A.setPa p) Tq))(hk:RwsX (A.setPa p) H' A.kk bk')(hf:∀x,A.fo x->Unr H' A.kk x):LH cl H' (A.setPa p) n c os bk' gs ts [] Gq Tq tl lt:=by
 have ne:∀i,i<8->i≠6->i≠3->A.o i ∉ [A.kk,A.tk]:=λi h8 h6 h3=>by
  simp only[List.mem_cons,List.not_mem_nil,or_false,not_or];exact⟨h.nd i 6 h8 ↑2 h6,h.nd i 3 h8 ↑2 h3⟩
 have offp:=h.off hp;obtain⟨m,l,hB,hL⟩:=h.brd;have kz:KpA A H H':=KpA.kp k λx hx=>by
  simp only[List.mem_cons,List.not_mem_nil,or_false] at hx;rcases hx with rfl|rfl
  ·exact⟨6,by lia,rfl⟩
  ·exact⟨3,by lia,rfl⟩
 refine⟨⟨m,l,hB.keep k (ne 0 ↑2 ↑2 ↑2) (ne 1 ↑2 ↑2 ↑2),hL.1,hL.2.1,λq0 z=>?_⟩,?_,⟨dx,et⟩,k _ _ h.mg ?_,k _ _ h.mt ?_,?_,hk,ep,?_,?_,?_,?_⟩
 ·obtain⟨t,e,n1,q⟩:=hL.2.2 q0 z
  refine⟨t,e,λj hj=>?_,kz _ _ q n1⟩;by_cases e7:j=7
  ·subst e7;rw[Ad.setPa_7];exact i4 q hp
  ·rw[Ad.setPa_o e7];exact n1 j hj
 ·obtain⟨d,z⟩:=h.gv
  exact⟨d,k _ _ z (ne 2 ↑2 ↑2 ↑2)⟩
 ·simp only[List.mem_cons,List.not_mem_nil,or_false,not_or];exact⟨(h.om 6 ↑2).1,(h.om 3 ↑2).1⟩
 ·simp only[List.mem_cons,List.not_mem_nil,or_false,not_or];exact⟨(h.om 6 ↑2).2,(h.om 3 ↑2).2⟩
 ·obtain⟨qs,e,l,r⟩:=h.kept
  refine⟨qs,k _ _ e (ne 5 ↑2 ↑2 ↑2),l,λi q o hq ho=>?_⟩;obtain⟨a,b⟩:=r i q o hq ho;refine⟨λj hj=>?_,kz _ _ b a⟩;by_cases e7:j=7
  ·subst e7;rw[Ad.setPa_7];exact i4 b hp
  ·rw[Ad.setPa_o e7];exact a j hj
 ·refine h.tr.gen (λo z=>k _ _ z (ne 4 ↑2 ↑2 ↑2)) λq o e n1 f=>⟨λj hj=>?_,f,kz _ _ e n1⟩
  by_cases e7:j=7
  ·subst e7;rw[Ad.setPa_7];exact i4 e hp
  ·rw[Ad.setPa_o e7];exact n1 j hj
 ·intro i j hi hj hij
  by_cases i7:i=7
  ·subst i7
   rw[Ad.setPa_7,Ad.setPa_o (Ne.symm hij)];exact offp j hj
  ·rw[Ad.setPa_o i7]
   by_cases j7:j=7
   ·subst j7
    rw[Ad.setPa_7];exact(offp i hi).symm
   ·rw[Ad.setPa_o j7]
    exact h.nd i j hi hj hij
 ·intro i hi
  by_cases i7:i=7
  ·subst i7
   rw[Ad.setPa_7];exact⟨i4 h.mg hp,i4 h.mt hp⟩
  ·rw[Ad.setPa_o i7]
   exact h.om i hi
 ·intro x hx
  obtain⟨⟨o,a⟩,b,c1,d,e,f,g⟩:=h.fo x hx;obtain⟨o5,z5⟩:=h.has 5 ↑2;obtain⟨o0,z0⟩:=h.has 0 ↑2;have y5:H' A.kg=H A.kg:=(k _ _ z5 (ne 5 ↑2 ↑2 ↑2)).trans z5.symm;have y0:H' A.bd=H A.bd:=(k _ _ z0 (ne 0 ↑2 ↑2 ↑2)).trans z0.symm;refine⟨⟨o,kz _ _ a b⟩,λj hj=>?_,c1,d,(λxs z=>e xs (y5 ▸ z)),hf x hx,(λC dx fs z=>g C dx fs (y0 ▸ z))⟩;by_cases e7:j=7
  ·subst e7;rw[Ad.setPa_7];exact i4 a hp
  ·rw[Ad.setPa_o e7];exact b j hj
def Nx(A A':Ad)(H:Hp):Prop:=(∀j,j<7->A'.o j=A.o j)/\(A'.o 7=A.o 7\/H (A'.o 7)=none)/\A'.fo=A.fo
theorem Nx.refl(A:Ad)(H:Hp):Nx A A H:=⟨λ_ _=>rfl,.inl rfl,rfl⟩
theorem Nx.pa{p:Addr}(hp:H p=none):Nx A (A.setPa p) H:=⟨λj hj=>Ad.setPa_o ↑2,.inr (by rw[Ad.setPa_7];exact hp),rfl⟩
end
def a0n(cl:Cl):Sp:=λvs H Q _=>ExL λA n c os bk gs ts ps Gq Tq tl lt=>∃(t:Int),vs=[.ref A.tk]/\↑905/\Tq.he=.int t/\0<=t/\t<2*(n:Int)/\∀H',LH cl H' A n c os bk gs ts ps Gq { Tq with nu:=c (4*(t % (n:Int)).toNat+1) } tl (lt.rd (4*(t % (n:Int)).toNat+1) (c (4*(t % (n:Int)).toNat+1)))->KpA A H H'->Q (.str "left") H'
abbrev a2w:Stmt:=top 90
theorem b2u:g2 ["taker"] ["taker"] (d7 a2w):=↑1
theorem b3d{fa:Addr}(D:DefV K fa "at_number" a2w ["taker"])(T:↑18)(G_Board_read:↑904 cl.Board "read" 2 ["self","cell"] (u6 cl))(G_number_cell:↑901 "number_cell" 1 ["place"] (v5 1))(TP:↑903 "place" 4 ["self"] (t2 cl)):FnV P w K mg base fa 5 ["taker"] (a0n cl):=by
 refine D.fn b2u ↑7 ↑3
 ·obtain⟨A,n,c,os,bk,gs,ts,ps,Gq,Tq,tl,lt,t,rfl,hL,he,t0,t1,k⟩:=h
  refine⟨_,(b9 (j3 (K:=K) (pv 0) (a3m ↑6 T.k_Board G_Board_read hr ↑4 g4 (a9 (i5 G_number_cell hr ↑4 rfl g4 (a9 ↑44 d9)) d9)))
   ↑29),?_⟩
  obtain⟨dxt,et⟩:=hL.tk;fail "c";have p0:=Int.emod_nonneg t (show(n:Int)≠0 by lia)
  have p1:=Int.emod_lt_of_pos t (show(0:Int)<n by lia)
  fail "e";refine⟨A.tk,cl.Taker,dxt,_,_,_,rfl,et,rfl,T.k_Taker,TP,?_⟩;fail "";refine⟨A,n,c,os,bk,gs,ts,ps,Gq,Tq,tl,lt,false,A.tk,t,rfl,.inr ⟨rfl,rfl⟩,hL,he,t0,t1,?_⟩;fail "";fail "f";obtain⟨z1,z2⟩:=hL.wasRead ht kp ett hB' hLast.1 (4*(t % (n:Int)).toNat+1) ↑2 ↑2;obtain⟨dxt2,et2⟩:=z1.tk;rw[show(4*(t % (n:Int))+1).toNat=4*(t % (n:Int)).toNat+1 by lia,a0b c ↑2]
  fail "";exact k _ (z1.setT (dx:=dxt2) (T':={ Tq with nu:=c (4*(t % (n:Int)).toNat+1) })) (z2.trans (KpA.upd (j:=3) (by lia)))
def a1l(cl:Cl):Sp:=λvs H Q _=>ExL λA n c os bk gs ts ps Gq Tq tl lt=>∃(t:Int),vs=[.ref A.tk]/\↑905/\Tq.he=.int t/\0<=t/\t<2*(n:Int)/\∀H',LH cl H' A n c os bk gs ts ps Gq { Tq with le:=c (4*(t % (n:Int)).toNat+2) } tl (lt.rd (4*(t % (n:Int)).toNat+2) (c (4*(t % (n:Int)).toNat+2)))->KpA A H H'->Q (.str "thing") H'
abbrev a4p:Stmt:=top 92
theorem b5t:g2 ["taker"] ["taker"] (d7 a4p):=↑1
theorem b5y{fa:Addr}(D:DefV K fa "at_left" a4p ["taker"])(T:↑18)(G_Board_read:↑904 cl.Board "read" 2 ["self","cell"] (u6 cl))(G_left_cell:↑901 "left_cell" 1 ["place"] (v5 2))(TP:↑903 "place" 4 ["self"] (t2 cl)):FnV P w K mg base fa 5 ["taker"] (a1l cl):=by
 refine D.fn b5t ↑7 ↑3
 ·obtain⟨A,n,c,os,bk,gs,ts,ps,Gq,Tq,tl,lt,t,rfl,hL,he,t0,t1,k⟩:=h
  refine⟨_,(b9 (j3 (K:=K) (pv 0) (a3m ↑6 T.k_Board G_Board_read hr ↑4 g4 (a9 (i5 G_left_cell hr ↑4 rfl g4 (a9 ↑44 d9)) d9)))
   ↑29),?_⟩
  obtain⟨dxt,et⟩:=hL.tk;fail "c";have p0:=Int.emod_nonneg t (show(n:Int)≠0 by lia)
  have p1:=Int.emod_lt_of_pos t (show(0:Int)<n by lia)
  fail "e";refine⟨A.tk,cl.Taker,dxt,_,_,_,rfl,et,rfl,T.k_Taker,TP,?_⟩;fail "";refine⟨A,n,c,os,bk,gs,ts,ps,Gq,Tq,tl,lt,false,A.tk,t,rfl,.inr ⟨rfl,rfl⟩,hL,he,t0,t1,?_⟩;fail "";fail "f";obtain⟨z1,z2⟩:=hL.wasRead ht kp ett hB' hLast.1 (4*(t % (n:Int)).toNat+2) ↑2 ↑2;obtain⟨dxt2,et2⟩:=z1.tk;rw[show(4*(t % (n:Int))+2).toNat=4*(t % (n:Int)).toNat+2 by lia,a0b c ↑2]
  fail "";exact k _ (z1.setT (dx:=dxt2) (T':={ Tq with le:=c (4*(t % (n:Int)).toNat+2) })) (z2.trans (KpA.upd (j:=3) (by lia)))
def b3q(cl:Cl):Sp:=λvs H Q _=>ExL λA n c os bk gs ts ps Gq Tq tl lt=>∃(t:Int),vs=[.ref A.tk]/\↑905/\Tq.nf=.int t/\0<=t/\t<2*(n:Int)/\∀H',LH cl H' A n (Pr.put c (4*(t % (n:Int)).toNat+0) (2*(t / (n:Int))+0)) os bk gs ts ps Gq Tq tl (lt.wr (4*(t % (n:Int)).toNat+0) (2*(t / (n:Int))+0))->KpA A H H'->Q (.str "card") H'
abbrev b7k:Stmt:=top 96
theorem b3v:g2 ["taker","size","place"] ["taker"] (d7 b7k):=↑1
theorem d0c(D:DefT K mg "at_free" b7k ["taker"])(T:↑18)(G_Board_write:↑904 cl.Board "write" 2 ["self","cell","number"] (u5 cl))(G_mark_cell:↑901 "mark_cell" 1 ["place"] (v5 0))(G_place_of:↑901 "place_of" 3 ["size","turn"] (a6q cl))(G_free_mark:↑901 "free_mark" 4 ["size","turn"] (b5h cl)):↑901 "at_free" 5 ["taker"] (b3q cl):=by
 refine D.fn b3v ↑7 ↑3
 ·obtain⟨A,n,c,os,bk,gs,ts,ps,Gq,Tq,tl,lt,t,rfl,hL,he,t0,t1,k⟩:=h
  refine⟨_,(b9 (i6 (i:=1) b3v.nd rfl ↑23 (z9 (K:=K) ↑6))
   (b9 (i6 (i:=2) b3v.nd rfl ↑23 (i5 G_place_of hr ↑4 rfl g4 (a9 (pv 1) ↑45)))
   (b9 (i3 (a3m ↑6 T.k_Board G_Board_write hr ↑4 g4 (a9 (i5 G_mark_cell hr ↑4 rfl g4 (a9 (pv 2) d9)) (a9 (i5 G_free_mark hr ↑4 rfl g4 (a9 (pv 1) ↑45)) d9))))
   ↑29))),?_⟩
  obtain⟨dxt,et⟩:=hL.tk;fail "c";have p0:=Int.emod_nonneg t (show(n:Int)≠0 by lia)
  have p1:=Int.emod_lt_of_pos t (show(0:Int)<n by lia)
  fail "";rw[he];refine⟨n,t,rfl,y9 ↑2 ↑2 t0 t1 ?_⟩;fail "";refine⟨_,rfl,?_⟩;fail "";rw[he];refine⟨n,t,rfl,y9 ↑2 ↑2 t0 t1 ?_⟩;fail "";refine⟨A.bd,A.l,n,_,many,last,_,_,rfl,hB,?_⟩;rw[if_pos ⟨by lia,by rw[hlen];lia⟩]
  intro tt H' ht kp ett hB';rw[show(4*(t % (n:Int))+0).toNat=4*(t % (n:Int)).toNat+0 by lia] at hB'
  obtain⟨z1,z2⟩:=hL.wrote (k:=4*(t % (n:Int)).toNat+0) ↑2 ht kp (by rw[ett];rw[show(4*(t % (n:Int))+0)=((4*(t % (n:Int)).toNat+0:Nat):Int) by lia]) hB' hLast.1
  fail "";exact k H' z1 z2
def a7j(cl:Cl):Sp:=λvs H Q _=>ExL λA n c os bk gs ts ps Gq Tq tl lt=>∃(t:Int),vs=[.ref A.tk]/\↑905/\Q (.bl false) H
noncomputable abbrev a4r:Stmt:=m8 (top 98) 10
theorem b5v:g2 ["self"] ["self"] (d7 a4r):=↑1
theorem b6a(D:DefM K cl.Taker "resting" "Taker.resting" a4r ["self"])(T:↑18):↑903 "resting" 1 ["self"] (a7j cl):=by
 refine D.fn b5v ↑7 ↑3
 ·obtain⟨A,n,c,os,bk,gs,ts,ps,Gq,Tq,tl,lt,t,rfl,hL,k⟩:=h
  refine⟨_,↑37,?_⟩;obtain⟨dxt,et⟩:=hL.tk;fail "c";fail "";exact k
def a1d(cl:Cl):Sp:=λvs H Q _=>ExL λA n c os bk gs ts ps Gq Tq tl lt=>∃(t:Int),vs=[.ref A.tk]/\↑905/\Tq.nf=.int t/\0<=t/\t<2*(n:Int)/\Q (.int ((t+(n:Int)) % (2*(n:Int)))) H
noncomputable abbrev a1r:Stmt:=m8 (top 98) 8
theorem a9x:g2 ["self"] ["self"] (d7 a1r):=↑1
theorem b0a(D:DefM K cl.Taker "turn_served" "Taker.turn_served" a1r ["self"])(T:↑18)(G_onward:↑901 "onward" 3 ["size","turn","many"] (a4f cl)):↑903 "turn_served" 4 ["self"] (a1d cl):=by
 refine D.fn a9x ↑7 ↑3
 ·obtain⟨A,n,c,os,bk,gs,ts,ps,Gq,Tq,tl,lt,t,rfl,hL,he,t0,t1,k⟩:=h
  refine⟨_,(d5 (i9 (i5 G_onward hr ↑4 rfl g4 (a9 (z9 (K:=K) ↑6) (a9 ↑6 (a9 (z9 (K:=K) ↑6) d9)))))),?_⟩;obtain⟨dxt,et⟩:=hL.tk;fail "c";fail "";rw[he];exact⟨n,t,_,rfl,y9 ↑2 ↑2 t0 t1 k⟩
def a5a(K:↑28)(cl:Cl):Sp:=λvs H Q _=>ExL λA n c os bk gs ts ps Gq Tq tl lt=>∃(t:Int)(m:Addr)(ms:List Int)(f:Nat),vs=[.ref A.tk,.ref m]/\↑905/\H m=some (.lst (ms.map V.int))/\ms.length=n/\a2o ms=true/\a5o (toB (ms.map tbI))=some f/\∀H',LH cl H' A n c os bk gs ts ps Gq { Tq with he:=.int (f:Nat),nf:=.int (f:Nat) } tl lt->KpA A H H'->Q .non H'
noncomputable abbrev a2y:Stmt:=m8 (top 98) 6
theorem b2w:g2 ["self","marks"] ["self","marks"] (d7 a2y):=↑1
theorem b3f(D:DefM K cl.Taker "know_turn" "Taker.know_turn" a2y ["self","marks"])(T:↑18)(G_taker_turn:↑901 "taker_turn" 5 ["marks"] (b2k K cl)):↑903 "know_turn" 6 ["self","marks"] (a5a K cl):=by
 refine D.fn b2w ↑7 ↑3
 ·obtain⟨A,n,c,os,bk,gs,ts,ps,Gq,Tq,tl,lt,t,m,ms,f,rfl,hL,em,lm,mo,fr,k⟩:=h
  refine⟨_,(b9 (j3 (K:=K) (pv 0) (i5 G_taker_turn hr ↑4 rfl g4 ↑15))
   (d5 (j3 (K:=K) (pv 0) ↑6))),?_⟩
  obtain⟨dxt,et⟩:=hL.tk;fail "c";fail "";refine⟨m,ms,rfl,SqL.of em,⟨_,em⟩,c4r ↑2 ↑2 mo (c7p fr λH1 s1=>?_)⟩;have z1:=hL.same s1;obtain⟨dxt2,et2⟩:=z1.tk;have z2:=z1.setT (dx:=dxt2) (T':={ Tq with he:=.int (f:Nat) })
  fail "";exact k _ (z2.setT (dx:=dxt2) (T':={ Tq with he:=.int (f:Nat),nf:=.int (f:Nat) })) (((KpA.of s1).trans (KpA.upd (j:=3) (by lia))).trans (KpA.upd (j:=3) (by lia)))
def a5q(cl:Cl):Sp:=λvs H Q _=>ExL λA n c os bk gs ts ps Gq Tq tl lt=>∃(t:Int)(f:Int),vs=[.ref A.tk]/\↑905/\Tq.he=.int t/\Tq.nf=.int f/\0<=f/\f<2*(n:Int)/\∀H',(if f=t then LH cl H' A n c os bk gs ts ps Gq { Tq with he:=.int ((f+1) % (2*(n:Int))),nf:=.int ((f+1) % (2*(n:Int))) } tl lt else LH cl H' A n c os bk gs ts ps Gq { Tq with nf:=.int ((f+1) % (2*(n:Int))) } tl lt)->KpA A H H'->Q (.str (if f=t then "look" else "free")) H'
noncomputable abbrev a7e:Stmt:=m8 (top 98) 9
theorem b0l:g2 ["self","all_freed"] ["self"] (d7 a7e):=↑1
theorem b8w(D:DefM K cl.Taker "go_on" "Taker.go_on" a7e ["self"])(T:↑18)(G_onward:↑901 "onward" 3 ["size","turn","many"] (a4f cl)):↑903 "go_on" 4 ["self"] (a5q cl):=by
 refine D.fn b0l ↑7 ↑3
 ·obtain⟨A,n,c,os,bk,gs,ts,ps,Gq,Tq,tl,lt,t,f,rfl,hL,he,hf,t0,t1,k⟩:=h
  refine⟨_,(b9 (i6 (i:=1) b0l.nd rfl ↑23 (a0w v3 ↑6 ↑6 ↑32))
   (b9 (j3 (K:=K) (pv 0) (i5 G_onward hr ↑4 rfl g4 (a9 (z9 (K:=K) ↑6) (a9 ↑6 ↑22))))
   (b9 (m4 (b9i (a6h (pv 1)))
     ↑29
     m3)
   (b9 (j3 (K:=K) (pv 0) ↑6)
   ↑29)))),?_⟩
  obtain⟨dxt,et⟩:=hL.tk;fail "c";fail "";rw[hf,he];refine e6h rfl ?_;fail "";rw[hf];refine⟨n,f,_,rfl,y9 ↑2 ↑2 t0 t1 ?_⟩;have z2:=hL.setT (dx:=dxt) (T':={ Tq with nf:=.int ((f+1) % (2*(n:Int))) })
  fail "";rw[show decide (V.int f=V.int t)=decide (f=t) by simp]
  refine d7e (λy=>?_) (λy=>?_)
  ·fail ""
   have q:=k _ (by rw[if_neg y];exact z2) (KpA.upd (j:=3) ↑2)
   rw[if_neg y] at q;exact q
  ·fail ""
   have q:=k _ (by rw[if_pos y];exact z2.setT (dx:=dxt) (T':={ Tq with he:=.int ((f+1) % (2*(n:Int))),nf:=.int ((f+1) % (2*(n:Int))) })) ((KpA.upd (j:=3) (by lia)).trans (KpA.upd (j:=3) (by lia)))
   rw[if_pos y] at q;exact q
theorem LH.booked{cl:Cl}{H:Hp}{A:Ad}{n:Nat}{c:Pr.Cells}{os bk:List ↑26}{gs ts ps:List Int}{Gq:Gm}{Tq:Tm}{tl:List Tr}{lt:Lt}{p dx:Addr}{bps:List Addr}(h:↑905)(hp:H p=none)(eb:H A.kk=some (.lst (bps.map V.ref))):
  LH cl (upd (upd (upd H A.kk (.lst (bps.map V.ref++[.ref A.pa]))) p (.lst [])) A.tk (tkO cl dx (A.setPa p) Tq)) (A.setPa p) n c os (bk++[ps]) gs ts [] Gq Tq tl lt:=by
 have offp:=h.off hp;have n63:A.kk≠A.tk:=h.nd 6 3 ↑2 ↑2 ↑2;have nkp:A.kk≠p:=(offp 6 ↑2).symm;have npt:p≠A.tk:=offp 3 ↑2;refine h.move (p:=p) (dx:=dx) (λx o e nx=>?_) hp ?_ d6 ?_ ?_
 ·have x1:x≠A.kk:=λz=>nx (by simp[z])
  have x2:x≠A.tk:=λz=>nx (by simp[z])
  rw[c9 x2,c9 (i4 e hp),c9 x1];exact e
 ·rw[c9 npt,d6]
 ·obtain⟨qs,e,l,r⟩:=h.book
  rw[eb] at e;have e:bps=qs:=by
   have:=HO.lst.inj (Option.some.inj e);exact List.map_inj_right (λ_ _ z=>V.ref.inj z) |>.mp this
  subst e;refine⟨bps++[A.pa],by rw[c9 n63,c9 nkp,d6,List.map_append];rfl,by rw[List.length_append,List.length_append,l];rfl,λi q o hq ho=>?_⟩
  have look:∀x o,H x=some o->x≠A.tk->x≠A.kk->upd (upd (upd H A.kk (.lst (bps.map V.ref++[.ref A.pa]))) p (.lst [])) A.tk (tkO cl dx (A.setPa p) Tq) x=some o:=λx o e x2 x1=>by
   rw[c9 x2,c9 (i4 e hp),c9 x1];exact e
  by_cases hi:i<bps.length
  ·rw[List.getElem?_append_left hi] at hq
   rw[List.getElem?_append_left ↑2] at ho;obtain⟨a,b⟩:=r i q o hq ho;refine⟨λj hj=>?_,look _ _ b (a 3 ↑2) (a 6 ↑2)⟩;by_cases e7:j=7
   ·subst e7;rw[Ad.setPa_7];exact i4 b hp
   ·rw[Ad.setPa_o e7];exact a j hj
  ·have hi':i=bps.length:=by
    have:=(List.getElem?_eq_some_iff.mp hq).1;rw[List.length_append] at this;have:i<bps.length+1:=this;lia
   subst hi';rw[List.getElem?_append_right ↑31,Nat.sub_self] at hq;rw[List.getElem?_append_right ↑2,l,Nat.sub_self] at ho;cases hq;cases ho;refine⟨λj hj=>?_,look _ _ h.pa (h.nd 7 3 ↑2 ↑2 ↑2) (h.nd 7 6 ↑2 ↑2 ↑2)⟩;by_cases e7:j=7
   ·subst e7;rw[Ad.setPa_7];exact i4 h.pa hp
   ·rw[Ad.setPa_o e7];exact h.nd 7 j ↑2 hj (Ne.symm e7)
 ·intro x hx xs z
  rw[c9 n63,c9 nkp,d6] at z;cases z;obtain⟨_,b,_,_,_,f,_⟩:=h.fo x hx;intro q;rcases List.mem_append.mp q with q|q
  ·exact f _ eb q
  ·exact b 7 ↑2 (V.ref.inj (List.mem_singleton.mp q))
theorem LH.dropped{cl:Cl}{H:Hp}{A:Ad}{n:Nat}{c:Pr.Cells}{os bk:List ↑26}{gs ts ps:List Int}{Gq:Gm}{Tq:Tm}{tl:List Tr}{lt:Lt}{p dx:Addr}(h:↑905)(hp:H p=none):
  LH cl (upd (upd H p (.lst [])) A.tk (tkO cl dx (A.setPa p) Tq)) (A.setPa p) n c os bk gs ts [] Gq Tq tl lt:=by
 have offp:=h.off hp;have npt:p≠A.tk:=offp 3 ↑2;have look:∀x o,H x=some o->x≠A.tk->upd (upd H p (.lst [])) A.tk (tkO cl dx (A.setPa p) Tq) x=some o:=λx o e x2=>by
  rw[c9 x2,c9 (i4 e hp)];exact e
 refine h.move (p:=p) (dx:=dx) (λx o e nx=>look x o e λz=>nx (by simp[z])) hp ?_ d6 ?_ ?_
 ·rw[c9 npt,d6]
 ·obtain⟨qs,e,l,r⟩:=h.book
  refine⟨qs,look _ _ e (h.nd 6 3 ↑2 ↑2 ↑2),l,λi q o hq ho=>?_⟩;obtain⟨a,b⟩:=r i q o hq ho;refine⟨λj hj=>?_,look _ _ b (a 3 ↑2)⟩;by_cases e7:j=7
  ·subst e7;rw[Ad.setPa_7];exact i4 b hp
  ·rw[Ad.setPa_o e7];exact a j hj
 ·intro x hx xs z
  rw[c9 (h.nd 6 3 ↑2 ↑2 ↑2),c9 (Ne.symm (offp 6 ↑2))] at z;obtain⟨_,_,_,_,_,f,_⟩:=h.fo x hx;exact f xs z
noncomputable def d3w(bk:List ↑26)(nu:Int)(o:List Int):List ↑26:=if nu=bk.length then bk++[o] else bk
def a4i(cl:Cl):Sp:=λvs H Q _=>ExL λA n c os bk gs ts ps Gq Tq tl lt=>vs=[.ref A.tk]/\↑905/\bk.length<=400/\∀p H',H p=none->LH cl H' (A.setPa p) n c os (d3w bk Tq.nu ps) gs ts [] Gq Tq tl lt->KpA A H H'->Q .non H'
noncomputable abbrev a2d:Stmt:=m8 (top 98) 3
theorem b0s:g2 ["self"] ["self"] (d7 a2d):=↑1
theorem b1y(D:DefM K cl.Taker "book_order" "Taker.book_order" a2d ["self"])(T:↑18):↑903 "book_order" 1 ["self"] (a4i cl):=by
 refine D.fn b0s ↑7 ↑3
 ·obtain⟨A,n,c,os,bk,gs,ts,ps,Gq,Tq,tl,lt,rfl,hL,hb,k⟩:=h
  refine⟨_,(b9 (m4 (g9 v3 ↑6 (k0 ↑34 (by rfl) T.z_len PySem.boot_len ↑45) ↑32)
     (d5 (i3 (n9 (K:=K) ↑6 ↑45)))
     m3)
   (d5 (j3 (K:=K) (pv 0) (k8 d9)))),?_⟩
  have h20:2000<=sizeLine:=by decide
  obtain⟨dxt,et⟩:=hL.tk;obtain⟨bps,eb,lb,rb⟩:=id hL.book;have n63:A.tk≠A.kk:=hL.nd 3 6 ↑2 ↑2 ↑2;have npa:=hL.pa;fail "";rw[List.length_map,lb];rw[show decide (V.int Tq.nu=V.int (bk.length:Int))=decide (Tq.nu=(bk.length:Int)) by simp]
  unfold d3w at k;fail "j"
  ·rw[if_pos y] at k
   fail "";refine d6m eb (by rw[List.length_map,lb];lia) ?_
   have et2:upd H A.kk (.lst (bps.map V.ref++[.ref A.pa])) A.tk=some (tkO cl dxt A Tq):=(c9 n63).trans et;fail "";refine⟨Nat.zero_le _,λp hp=>?_⟩;have hp0:H p=none:=by
    by_cases z:p=A.kk
    ·rw[z,d6] at hp;cases hp
    ·rw[c9 z] at hp;exact hp
   fail "";exact k p _ hp0 (hL.booked (dx:=dxt) hp0 eb) (((KpA.upd (j:=6) ↑2).trans (KpA.of (g3 hp))).trans (KpA.upd (j:=3) ↑2))
  ·rw[if_neg y] at k
   fail "";refine⟨Nat.zero_le _,λp hp=>?_⟩;fail "";exact k p _ hp (hL.dropped (dx:=dxt) hp) ((KpA.of (g3 hp)).trans (KpA.upd (j:=3) ↑2))
def a0z(cl:Cl):Sp:=λvs H Q _=>ExL λA n c os bk gs ts ps Gq Tq tl lt=>∃(t:Int),vs=[.ref A.tk]/\↑905/\Tq.he=.int t/\0<=t/\t<2*(n:Int)/\bk.length<=400/\ps.length<=100 /\
 (
  if 0<Tq.le then ∀H',LH cl H' A n c os bk gs ts (ps++[c (4*(t % (n:Int)).toNat+3)]) Gq { Tq with he:=.int ((t+1) % (2*(n:Int))) } tl (lt.rd (4*(t % (n:Int)).toNat+3) (c (4*(t % (n:Int)).toNat+3)))->KpA A H H'->Q (.str "look") H'
  else ∀p H',H p=none->LH cl H' (A.setPa p) n c os (d3w bk Tq.nu (ps++[c (4*(t % (n:Int)).toNat+3)])) gs ts [] Gq Tq tl (lt.rd (4*(t % (n:Int)).toNat+3) (c (4*(t % (n:Int)).toNat+3)))->KpA A H H'->Q (.str "free") H')
abbrev a3s:Stmt:=top 94
theorem b3u:g2 ["taker"] ["taker"] (d7 a3s):=↑1
theorem b4o{fa:Addr}(D:DefV K fa "at_thing" a3s ["taker"])(T:↑18)(G_Board_read:↑904 cl.Board "read" 2 ["self","cell"] (u6 cl))(G_thing_cell:↑901 "thing_cell" 1 ["place"] (v5 3))(TP:↑903 "place" 4 ["self"] (t2 cl))(G_onward:↑901 "onward" 3 ["size","turn","many"] (a4f cl))(G_book_order:↑903 "book_order" 1 ["self"] (a4i cl)):FnV P w K mg base fa 5 ["taker"] (a0z cl):=by
 refine D.fn b3u ↑7 ↑3
 ·obtain⟨A,n,c,os,bk,gs,ts,ps,Gq,Tq,tl,lt,t,rfl,hL,he,t0,t1,hb,hps,k⟩:=h
  refine⟨_,(b9 (i3 (n9 (K:=K) ↑6 (a9 (a3m ↑6 T.k_Board G_Board_read hr ↑4 g4 (a9 (i5 G_thing_cell hr ↑4 rfl g4 (a9 ↑44 d9)) d9)) d9)))
   (b9 (m4 (g9 b8q ↑6 d8 ↑32)
     (
     b9 (j3 (K:=K) (pv 0) (i5 G_onward hr ↑4 rfl g4 (a9 (z9 (K:=K) ↑6) (a9 ↑6 ↑22))))
     ↑29)
     m3)
   (b9 (i3 (a0h (k:=1) (pv 0) hr ↑4 g4))
   ↑29))),?_⟩
  have h20:2000<=sizeLine:=by decide
  obtain⟨dxt,et⟩:=hL.tk;fail "c";have p0:=Int.emod_nonneg t (show(n:Int)≠0 by lia)
  have p1:=Int.emod_lt_of_pos t (show(0:Int)<n by lia)
  have epa:=hL.pa;fail "e";refine⟨A.tk,cl.Taker,dxt,_,_,_,rfl,et,rfl,T.k_Taker,TP,?_⟩;fail "";refine⟨A,n,c,os,bk,gs,ts,ps,Gq,Tq,tl,lt,false,A.tk,t,rfl,.inr ⟨rfl,rfl⟩,hL,he,t0,t1,?_⟩;fail "";fail "f";obtain⟨z1,z2⟩:=hL.wasRead ht kp ett hB' hLast.1 (4*(t % (n:Int)).toNat+3) ↑2 ↑2;rw[show(4*(t % (n:Int))+3).toNat=4*(t % (n:Int)).toNat+3 by lia,a0b c ↑2]
  fail "";refine d6m z1.pa (by rw[List.length_map];lia) ?_
  rw[show(ps.map V.int++[V.int (c (4*(t % (n:Int)).toNat+3))])=(ps++[c (4*(t % (n:Int)).toNat+3)]).map V.int by rw[List.map_append];rfl]
  have z3:=z1.setPa (qs:=ps++[c (4*(t % (n:Int)).toNat+3)]);have k3:KpA A H _:=z2.trans (KpA.upd (A:=A) (j:=7) (o:=.lst ((ps++[c (4*(t % (n:Int)).toNat+3)]).map V.int)) ↑2);have pf:∀p,upd H' A.pa (.lst ((ps++[c (4*(t % (n:Int)).toNat+3)]).map V.int)) p=none->H p=none:=λp hp=>by
   cases e:H p with
   | none=>rfl
   | some o=>
    exfalso
    by_cases off:∀j,j<8->p≠A.o j
    ·have:=k3 p o e off
     rw[hp] at this;cases this
    ·apply off
     intro j hj q;obtain⟨u,hu⟩:=z3.has j hj;rw[<- q,hp] at hu;cases hu
  revert z3 k3 pf
  generalize upd H' A.pa (.lst ((ps++[c (4*(t % (n:Int)).toNat+3)]).map V.int))=H3;intro z3 k3 pf;obtain⟨dxt3,et3⟩:=z3.tk;obtain⟨many3,last3,hB3,hLast3⟩:=z3.brd;obtain⟨⟨dxb3,eb3⟩,el3,hlen3,_,_⟩:=id hB3;fail "";fail "j"
  ·rw[if_pos y] at k
   fail "";rw[he];refine⟨n,t,_,rfl,y9 ↑2 ↑2 t0 t1 ?_⟩;fail "";exact k _ (z3.setT (dx:=dxt3) (T':={ Tq with he:=.int ((t+1) % (2*(n:Int))) })) (k3.trans (KpA.upd (j:=3) (by lia)))
  ·rw[if_neg y] at k
   fail "e";refine⟨A.tk,cl.Taker,dxt3,_,_,_,rfl,et3,rfl,T.k_Taker,G_book_order,?_⟩;fail "";refine⟨A,n,c,os,bk,gs,ts,_,Gq,Tq,tl,_,rfl,z3,hb,λp H4 hp z4 k4=>?_⟩;fail "";exact k p H4 (pf p hp) z4 (k3.trans k4)
abbrev Ad.setMg(A:Ad)(p:Addr):Ad:={ A with mg:=p }
abbrev Ad.setMt(A:Ad)(p:Addr):Ad:={ A with mt:=p }
theorem LH.setMg{cl:Cl}{H:Hp}{A:Ad}{n:Nat}{c:Pr.Cells}{os bk:List ↑26}{gs ts ps:List Int}{Gq:Gm}{Tq:Tm}{tl:List Tr}{lt:Lt}{p dx:Addr}{xs:List Int}{G':Gm}(h:↑905)(ep:H p=some (.lst (xs.map V.int)))(off:∀j,j<8->p≠A.o j)(pf:¬ A.fo p):LH cl (upd H A.gv (gvO cl dx (A.setMg p) G')) (A.setMg p) n c os bk xs ts ps G' Tq tl lt:=by
 have ne:∀i,i<8->i≠2->A.o i≠A.gv:=λi h8 h2=>h.nd i 2 h8 ↑2 h2;obtain⟨m,l,hB,hL⟩:=h.brd;refine⟨⟨m,l,hB.keep (ps:=[A.gv]) (Kp.upd (by simp)) (by simpa using ne 0 ↑2 ↑2) (by simpa using ne 1 ↑2 ↑2),hL.kpa (KpA.upd (j:=2) ↑2)⟩,⟨dx,d6⟩,?_,?_,?_,h.kept.set (j:=2) ↑2 rfl (ne 5 ↑2 ↑2),h.book.set (j:=2) ↑2 rfl (ne 6 ↑2 ↑2),?_,?_,h.nd,λi hi=>⟨off i hi,(h.om i hi).2⟩,λx hx=>?_⟩
 ·obtain⟨d,z⟩:=h.tk;exact⟨d,by rw[c9 (ne 3 ↑2 ↑2)];exact z⟩
 ·rw[c9 (off 2 ↑2)];exact ep
 ·rw[c9 (h.om 2 ↑2).2];exact h.mt
 ·rw[c9 (ne 7 ↑2 ↑2)];exact h.pa
 ·exact h.tr.gen (A':=A.setMg p) (λo z=>by rw[c9 (ne 4 ↑2 ↑2)];exact z) λq o e n1 f=>⟨n1,f,by rw[c9 (n1 2 ↑2)];exact e⟩
 ·obtain⟨a,b,c1,d,e⟩:=h.fo.updO (u:=gvO cl dx (A.setMg p) G') h.nd 2 ↑2 ↑2 ↑2 ↑2 x hx
  exact⟨a,b,(λz=>pf (by have z2:x=p:=z;rw[<- z2];exact hx)),d,e⟩
theorem LH.setMt{cl:Cl}{H:Hp}{A:Ad}{n:Nat}{c:Pr.Cells}{os bk:List ↑26}{gs ts ps:List Int}{Gq:Gm}{Tq:Tm}{tl:List Tr}{lt:Lt}{p dx:Addr}{xs:List Int}{T':Tm}(h:↑905)(ep:H p=some (.lst (xs.map V.int)))(off:∀j,j<8->p≠A.o j)(pf:¬ A.fo p):LH cl (upd H A.tk (tkO cl dx (A.setMt p) T')) (A.setMt p) n c os bk gs xs ps Gq T' tl lt:=by
 have ne:∀i,i<8->i≠3->A.o i≠A.tk:=λi h8 h2=>h.nd i 3 h8 ↑2 h2;obtain⟨m,l,hB,hL⟩:=h.brd;refine⟨⟨m,l,hB.keep (ps:=[A.tk]) (Kp.upd (by simp)) (by simpa using ne 0 ↑2 ↑2) (by simpa using ne 1 ↑2 ↑2),hL.kpa (KpA.upd (j:=3) ↑2)⟩,?_,⟨dx,d6⟩,?_,?_,h.kept.set (j:=3) ↑2 rfl (ne 5 ↑2 ↑2),h.book.set (j:=3) ↑2 rfl (ne 6 ↑2 ↑2),?_,?_,h.nd,λi hi=>⟨(h.om i hi).1,off i hi⟩,λx hx=>?_⟩
 ·obtain⟨d,z⟩:=h.gv;exact⟨d,by rw[c9 (ne 2 ↑2 ↑2)];exact z⟩
 ·rw[c9 (h.om 3 ↑2).1];exact h.mg
 ·rw[c9 (off 3 ↑2)];exact ep
 ·rw[c9 (ne 7 ↑2 ↑2)];exact h.pa
 ·exact h.tr.gen (A':=A.setMt p) (λo z=>by rw[c9 (ne 4 ↑2 ↑2)];exact z) λq o e n1 f=>⟨n1,f,by rw[c9 (n1 3 ↑2)];exact e⟩
 ·obtain⟨a,b,c1,d,e⟩:=h.fo.updO (u:=tkO cl dx (A.setMt p) T') h.nd 3 ↑2 ↑2 ↑2 ↑2 x hx
  exact⟨a,b,c1,(λz=>pf (by have z2:x=p:=z;rw[<- z2];exact hx)),e⟩
theorem LH.fresh{cl:Cl}{H:Hp}{A:Ad}{n:Nat}{c:Pr.Cells}{os bk:List ↑26}{gs ts ps:List Int}{Gq:Gm}{Tq:Tm}{tl:List Tr}{lt:Lt}{H':Hp}(h:LH cl H' A n c os bk gs ts ps Gq Tq tl lt)(k:KpA A H H'){p:Addr}(hp:H' p=none):H p=none:=by
 cases e:H p with
 | none=>rfl
 | some o=>
  exfalso
  by_cases off:∀j,j<8->p≠A.o j
  ·have:=k p o e off
   rw[hp] at this;cases this
  ·apply off
   intro j hj q;obtain⟨u,hu⟩:=h.has j hj;rw[<- q,hp] at hu;cases hu
def a6v(cl:Cl):Sp:=λvs H Q _=>(ExL λA n c os bk gs ts ps Gq Tq tl lt=>vs=[.ref A.gv]/\↑905/\gs.length<n/\(if gs.length+1<n then ∀p H',H p=none->LH cl H' (A.setMg p) n c os bk (gs++[c (4*gs.length)]) ts ps Gq Tq tl (lt.rd (4*gs.length) (c (4*gs.length)))->KpA A H H'->Q (.str "marks") H' else ∃f:Nat,a2o (gs++[c (4*gs.length)])=true/\a5o (toB ((gs++[c (4*gs.length)]).map d5t))=some f/\∀p H',H p=none->LH cl H' (A.setMg p) n c os bk [] ts ps { Gq with he:=.int (f:Nat) } Tq tl (lt.rd (4*gs.length) (c (4*gs.length)))->KpA A H H'->Q (.str "told") H')) \/
 (ExL λA n c os bk gs ts ps Gq Tq tl lt=>vs=[.ref A.tk]/\↑905/\ts.length<n/\(if ts.length+1<n then ∀p H',H p=none->LH cl H' (A.setMt p) n c os bk gs (ts++[c (4*ts.length)]) ps Gq Tq tl (lt.rd (4*ts.length) (c (4*ts.length)))->KpA A H H'->Q (.str "marks") H' else ∃f:Nat,a2o (ts++[c (4*ts.length)])=true/\a5o (toB ((ts++[c (4*ts.length)]).map tbI))=some f/\∀p H',H p=none->LH cl H' (A.setMt p) n c os bk gs [] ps Gq { Tq with he:=.int (f:Nat),nf:=.int (f:Nat) } tl (lt.rd (4*ts.length) (c (4*ts.length)))->KpA A H H'->Q (.str "look") H'))
abbrev b4i:Stmt:=top 62
theorem b6x:g2 ["hand","marks"] ["hand"] (d7 b4i):=↑1
theorem c6t(D:DefT K mg "at_marks" b4i ["hand"])(T:↑18)(G_Board_read:↑904 cl.Board "read" 2 ["self","cell"] (u6 cl))(G_mark_cell:↑901 "mark_cell" 1 ["place"] (v5 0))(GK:↑902 "know_turn" 6 ["self","marks"] (a5d K cl))(TK:↑903 "know_turn" 6 ["self","marks"] (a5a K cl)):↑901 "at_marks" 7 ["hand"] (a6v cl):=by
 refine D.fn b6x (λvs H Q E h=>?_) ↑3
 ·rcases h with ⟨A,n,c,os,bk,gs,ts,ps,Gq,Tq,tl,lt,rfl,_⟩|⟨A,n,c,os,bk,gs,ts,ps,Gq,Tq,tl,lt,rfl,_⟩ <;> rfl
 ·have h20:2000<=sizeLine:=by decide
  refine⟨_,(b9 (i6 (i:=1) b6x.nd rfl ↑23 (g7 c8f ↑6 (k8 (a9 (a3m ↑6 T.k_Board G_Board_read hr ↑4 g4 (a9 (i5 G_mark_cell hr ↑4 rfl g4 (a9 (k0 ↑34 (by rfl) T.z_len PySem.boot_len ↑45) d9)) d9)) d9))))
   (b9 (m4 (g9 b7n (k0 ↑34 (by rfl) T.z_len PySem.boot_len ↑15) (z9 (K:=K) ↑6) ↑32)
     (
     b9 (j3 (K:=K) (pv 0) (pv 1))
     ↑29)
     m3)
   (b9 (i3 (c7z (k:=6) (pv 0) hr ↑4 g4 ↑15))
   (b9 (j3 (K:=K) (pv 0) (k8 d9))
   (d5 (i9 ↑6)))))),?_⟩
  rcases h with h|h
  ·obtain⟨A,n,c,os,bk,gs,ts,ps,Gq,Tq,tl,lt,rfl,hL,hs,k⟩:=h
   fail "h";fail "c";have em:=hL.mg;fail "";rw[List.length_map];fail "f";obtain⟨z1,z2⟩:=hL.wasRead ht kp ett hB' hLast.1 (4*gs.length) ↑2 ↑2;rw[show(4*(gs.length:Int)+0).toNat=4*gs.length by lia,a0b c ↑2]
   fail "";refine⟨b7o,λq1 hq1=>?_⟩;refine d6l (g3 hq1 _ _ z1.mg) d6 (by rw[List.length_map];show gs.length+1<=sizeLine;lia) (λp hp=>?_)
   rw[show(gs.map V.int++[V.int (c (4*gs.length))])=(gs++[c (4*gs.length)]).map V.int by rw[List.map_append];rfl]
   have z3:=(z1.same (g3 (o:=.lst [.int (c (4*gs.length))]) hq1)).same (g3 (o:=.lst ((gs++[c (4*gs.length)]).map V.int)) hp);have k3:KpA A H _:=(z2.trans (KpA.of (g3 (o:=.lst [.int (c (4*gs.length))]) hq1))).trans (KpA.of (g3 (o:=.lst ((gs++[c (4*gs.length)]).map V.int)) hp));have hp0:H p=none:=z1.fresh z2 ((g3 hq1).free hp);have ep:upd (upd H' q1 (.lst [.int (c (4*gs.length))])) p (.lst ((gs++[c (4*gs.length)]).map V.int)) p=_:=d6;have offp:=hL.off hp0
   revert z3 k3 ep
   generalize upd (upd H' q1 (.lst [.int (c (4*gs.length))])) p (.lst ((gs++[c (4*gs.length)]).map V.int))=H3;intro z3 k3 ep;obtain⟨dxg3,eg3⟩:=z3.gv;obtain⟨dxt3,et3⟩:=z3.tk;obtain⟨many3,last3,hB3,hLast3⟩:=z3.brd;obtain⟨⟨dxb3,eb3⟩,el3,hlen3,_,_⟩:=id hB3;fail "";rw[List.length_map,List.length_append,show([c (4*gs.length)]:List Int).length=1 from rfl];fail "j"
   ·rw[if_pos ↑2] at k
    fail "";exact k p _ hp0 (z3.setMg (dx:=dxg3) (G':=Gq) ep offp (hL.nfo hp0)) (k3.trans (KpA.upd (j:=2) ↑2))
   ·rw[if_neg ↑2] at k
    obtain⟨f,mo,fr,k⟩:=k;fail "e";refine⟨A.gv,cl.Giver,dxg3,_,_,_,rfl,eg3,rfl,T.k_Giver,GK,?_⟩;fail "";refine⟨A,n,c,os,bk,gs,ts,ps,Gq,Tq,tl,_,0,p,_,f,rfl,z3,ep,by rw[List.length_append];show gs.length+1=n;lia,mo,fr,λH4 z4 k4=>?_⟩
    obtain⟨dxg4,eg4⟩:=z4.gv;obtain⟨dxt4,et4⟩:=z4.tk;fail "";refine⟨Nat.zero_le _,λp5 hp5=>?_⟩;have z5:=z4.same (g3 (o:=.lst []) hp5);have k5:KpA A H _:=(k3.trans k4).trans (KpA.of (g3 (o:=.lst []) hp5));have hp50:H p5=none:=z4.fresh (k3.trans k4) hp5;have z6:=z5.setMg (dx:=dxg4) (xs:=[]) (G':={ Gq with he:=.int (f:Nat) }) d6 (hL.off hp50) (hL.nfo hp50)
    fail "";exact k p5 _ hp50 z6 (k5.trans (KpA.upd (j:=2) ↑2))
  ·obtain⟨A,n,c,os,bk,gs,ts,ps,Gq,Tq,tl,lt,rfl,hL,hs,k⟩:=h
   fail "h";fail "c";have em:=hL.mt;fail "";rw[List.length_map];fail "f";obtain⟨z1,z2⟩:=hL.wasRead ht kp ett hB' hLast.1 (4*ts.length) ↑2 ↑2;rw[show(4*(ts.length:Int)+0).toNat=4*ts.length by lia,a0b c ↑2]
   fail "";refine⟨b7o,λq1 hq1=>?_⟩;refine d6l (g3 hq1 _ _ z1.mt) d6 (by rw[List.length_map];show ts.length+1<=sizeLine;lia) (λp hp=>?_)
   rw[show(ts.map V.int++[V.int (c (4*ts.length))])=(ts++[c (4*ts.length)]).map V.int by rw[List.map_append];rfl]
   have z3:=(z1.same (g3 (o:=.lst [.int (c (4*ts.length))]) hq1)).same (g3 (o:=.lst ((ts++[c (4*ts.length)]).map V.int)) hp);have k3:KpA A H _:=(z2.trans (KpA.of (g3 (o:=.lst [.int (c (4*ts.length))]) hq1))).trans (KpA.of (g3 (o:=.lst ((ts++[c (4*ts.length)]).map V.int)) hp));have hp0:H p=none:=z1.fresh z2 ((g3 hq1).free hp);have ep:upd (upd H' q1 (.lst [.int (c (4*ts.length))])) p (.lst ((ts++[c (4*ts.length)]).map V.int)) p=_:=d6;have offp:=hL.off hp0
   revert z3 k3 ep
   generalize upd (upd H' q1 (.lst [.int (c (4*ts.length))])) p (.lst ((ts++[c (4*ts.length)]).map V.int))=H3;intro z3 k3 ep;obtain⟨dxg3,eg3⟩:=z3.gv;obtain⟨dxt3,et3⟩:=z3.tk;obtain⟨many3,last3,hB3,hLast3⟩:=z3.brd;obtain⟨⟨dxb3,eb3⟩,el3,hlen3,_,_⟩:=id hB3;fail "";rw[List.length_map,List.length_append,show([c (4*ts.length)]:List Int).length=1 from rfl];fail "j"
   ·rw[if_pos ↑2] at k
    fail "";exact k p _ hp0 (z3.setMt (dx:=dxt3) (T':=Tq) ep offp (hL.nfo hp0)) (k3.trans (KpA.upd (j:=3) ↑2))
   ·rw[if_neg ↑2] at k
    obtain⟨f,mo,fr,k⟩:=k;fail "e";refine⟨A.tk,cl.Taker,dxt3,_,_,_,rfl,et3,rfl,T.k_Taker,TK,?_⟩;fail "";refine⟨A,n,c,os,bk,gs,ts,ps,Gq,Tq,tl,_,0,p,_,f,rfl,z3,ep,by rw[List.length_append];show ts.length+1=n;lia,mo,fr,λH4 z4 k4=>?_⟩
    obtain⟨dxg4,eg4⟩:=z4.gv;obtain⟨dxt4,et4⟩:=z4.tk;fail "";refine⟨Nat.zero_le _,λp5 hp5=>?_⟩;have z5:=z4.same (g3 (o:=.lst []) hp5);have k5:KpA A H _:=(k3.trans k4).trans (KpA.of (g3 (o:=.lst []) hp5));have hp50:H p5=none:=z4.fresh (k3.trans k4) hp5;have z6:=z5.setMt (dx:=dxt4) (xs:=[]) (T':={ Tq with he:=.int (f:Nat),nf:=.int (f:Nat) }) d6 (hL.off hp50) (hL.nfo hp50)
    fail "";exact k p5 _ hp50 z6 (k5.trans (KpA.upd (j:=3) ↑2))
def a9n(cl:Cl):Sp:=λvs H Q _=>(ExL λA n c os bk gs ts ps Gq Tq tl lt=>∃(t:Int),vs=[.ref A.gv]/\↑905/\Gq.he=.int t/\0<=t/\t<2*(n:Int)/\(b0f os Gq.nu Gq.le/\0<=a1w Gq.nu Gq.le/\a1w Gq.nu Gq.le<os.length)/\(if c (4*n+1)=t then ∀H',LH cl H' A n c os bk gs ts ps Gq Tq tl (lt.rd (4*n+1) (c (4*n+1)))->KpA A H H'->Q (.str "ring") H' else ∀H',LH cl H' A n c os bk gs ts ps { Gq with he:=.int ((t+1) % (2*(n:Int))),nu:=a1w Gq.nu Gq.le,le:=a7m os Gq.nu Gq.le } Tq tl (lt.rd (4*n+1) (c (4*n+1)))->KpA A H H'->Q (.str "look") H')) \/
 (ExL λA n c os bk gs ts ps Gq Tq tl lt=>∃(t f:Int),vs=[.ref A.tk]/\↑905/\Tq.he=.int t/\Tq.nf=.int f/\0<=f/\f<2*(n:Int)/\(if c (4*n+0)=(f+(n:Int)) % (2*(n:Int)) then ∀H',LH cl H' A n c os bk gs ts ps Gq Tq tl (lt.rd (4*n+0) (c (4*n+0)))->KpA A H H'->Q (.str "ring") H' else ∀H',(if f=t then LH cl H' A n c os bk gs ts ps Gq { Tq with he:=.int ((f+1) % (2*(n:Int))),nf:=.int ((f+1) % (2*(n:Int))) } tl (lt.rd (4*n+0) (c (4*n+0))) else LH cl H' A n c os bk gs ts ps Gq { Tq with nf:=.int ((f+1) % (2*(n:Int))) } tl (lt.rd (4*n+0) (c (4*n+0))))->KpA A H H'->Q (.str (if f=t then "look" else "free")) H'))
abbrev b7l:Stmt:=top 69
theorem b9g:g2 ["hand","card"] ["hand"] (d7 b7l):=↑1
theorem d0d(D:DefT K mg "at_card" b7l ["hand"])(T:↑18)(G_Board_read:↑904 cl.Board "read" 2 ["self","cell"] (u6 cl))(G_card_cell:↑901 "card_cell" 2 ["size","hand"] (a4x cl))(GS:↑902 "turn_served" 4 ["self"] (a1e cl))(TS:↑903 "turn_served" 4 ["self"] (a1d cl))(GG:↑902 "go_on" 4 ["self"] (a5r cl))(TG:↑903 "go_on" 4 ["self"] (a5q cl)):↑901 "at_card" 5 ["hand"] (a9n cl):=by
 refine D.fn b9g (λvs H Q E h=>?_) ↑3
 ·rcases h with ⟨A,n,c,os,bk,gs,ts,ps,Gq,Tq,tl,lt,t,rfl,_⟩|⟨A,n,c,os,bk,gs,ts,ps,Gq,Tq,tl,lt,t,f,rfl,_⟩ <;> rfl
 ·skip
  refine⟨_,(b9 (i6 (i:=1) b9g.nd rfl ↑23 (a3m ↑6 T.k_Board G_Board_read hr ↑4 g4 (a9 (i5 G_card_cell hr ↑4 rfl g4 (a9 (z9 (K:=K) ↑6) ↑45)) d9)))
   (d5 (i9 (a5k (g9 v3 (pv 1) ↑44 ↑32) g6 ↑44)))),?_⟩
  rcases h with h|h
  ·obtain⟨A,n,c,os,bk,gs,ts,ps,Gq,Tq,tl,lt,t,rfl,hL,he,t0,t1,kn,k⟩:=h
   fail "h";fail "c";fail "";refine⟨n,_,rfl,b4v n2 n8 (by first|exact .inl rfl|exact .inr rfl) ?_⟩
   fail "";rw[hI1];refine⟨A.bd,A.l,n,_,many,last,_,rfl,hB,?_⟩;rw[if_pos ⟨by lia,by rw[hlen];lia⟩]
   intro tt H' ht kp ett hB';obtain⟨z1,z2⟩:=hL.wasRead ht kp ett hB' hLast.1 (4*n+1) ↑2 ↑2;obtain⟨dxg1,eg1⟩:=z1.gv;obtain⟨dxt1,et1⟩:=z1.tk;rw[show(4*(n:Int)+1).toNat=4*n+1 by lia,a0b c ↑2]
   fail "e";refine⟨A.gv,cl.Giver,dxg1,_,_,_,rfl,eg1,rfl,T.k_Giver,GS,?_⟩;fail "";refine⟨A,n,c,os,bk,gs,ts,ps,Gq,Tq,tl,_,t,rfl,z1,he,t0,t1,?_⟩;fail "";rw[show decide (V.int (c (4*n+1))=V.int t)=decide (c (4*n+1)=t) by simp]
   fail "j"
   ·rw[if_pos y] at k;fail "";exact k H' z1 z2
   ·rw[if_neg y] at k
    fail "e";refine⟨A.gv,cl.Giver,dxg1,_,_,_,rfl,eg1,rfl,T.k_Giver,GG,?_⟩;fail "";exact⟨A,n,c,os,bk,gs,ts,ps,Gq,Tq,tl,_,t,rfl,z1,he,t0,t1,kn,λH2 z3 k3=>k H2 z3 (z2.trans k3)⟩
  ·obtain⟨A,n,c,os,bk,gs,ts,ps,Gq,Tq,tl,lt,t,f,rfl,hL,he,hf,t0,t1,k⟩:=h
   fail "h";fail "c";fail "";refine⟨n,_,rfl,b4v n2 n8 (by first|exact .inl rfl|exact .inr rfl) ?_⟩
   fail "";rw[hI0];refine⟨A.bd,A.l,n,_,many,last,_,rfl,hB,?_⟩;rw[if_pos ⟨by lia,by rw[hlen];lia⟩]
   intro tt H' ht kp ett hB';obtain⟨z1,z2⟩:=hL.wasRead ht kp ett hB' hLast.1 (4*n+0) ↑2 ↑2;obtain⟨dxg1,eg1⟩:=z1.gv;obtain⟨dxt1,et1⟩:=z1.tk;rw[show(4*(n:Int)+0).toNat=4*n+0 by lia,a0b c ↑2]
   fail "e";refine⟨A.tk,cl.Taker,dxt1,_,_,_,rfl,et1,rfl,T.k_Taker,TS,?_⟩;fail "";refine⟨A,n,c,os,bk,gs,ts,ps,Gq,Tq,tl,_,f,rfl,z1,hf,t0,t1,?_⟩;fail "";rw[show decide (V.int (c (4*n+0))=V.int ((f+(n:Int)) % (2*(n:Int))))=decide (c (4*n+0)=(f+(n:Int)) % (2*(n:Int))) by simp]
   fail "j"
   ·rw[if_pos y] at k;fail "";exact k H' z1 z2
   ·rw[if_neg y] at k
    fail "e";refine⟨A.tk,cl.Taker,dxt1,_,_,_,rfl,et1,rfl,T.k_Taker,TG,?_⟩;fail "";exact⟨A,n,c,os,bk,gs,ts,ps,Gq,Tq,tl,_,t,f,rfl,z1,he,hf,t0,t1,λH2 z3 k3=>k H2 z3 (z2.trans k3)⟩
def a9j(cl:Cl):Sp:=λvs H Q _=>(ExL λA n c os bk gs ts ps Gq Tq tl lt=>∃(t:Int),vs=[.ref A.gv]/\↑905/\Gq.he=.int t/\0<=t/\t<2*(n:Int)/\(b0f os Gq.nu Gq.le/\0<=a1w Gq.nu Gq.le/\a1w Gq.nu Gq.le<os.length)/\∀H',LH cl H' A n (Pr.put c (4*n+b3l true) 1) os bk gs ts ps { Gq with he:=.int ((t+1) % (2*(n:Int))),nu:=a1w Gq.nu Gq.le,le:=a7m os Gq.nu Gq.le } Tq tl (lt.wr (4*n+b3l true) 1)->KpA A H H'->Q (.str "look") H') \/
 (ExL λA n c os bk gs ts ps Gq Tq tl lt=>∃(t f:Int),vs=[.ref A.tk]/\↑905/\Tq.he=.int t/\Tq.nf=.int f/\0<=f/\f<2*(n:Int)/\∀H',(if f=t then LH cl H' A n (Pr.put c (4*n+b3l false) 1) os bk gs ts ps Gq { Tq with he:=.int ((f+1) % (2*(n:Int))),nf:=.int ((f+1) % (2*(n:Int))) } tl (lt.wr (4*n+b3l false) 1) else LH cl H' A n (Pr.put c (4*n+b3l false) 1) os bk gs ts ps Gq { Tq with nf:=.int ((f+1) % (2*(n:Int))) } tl (lt.wr (4*n+b3l false) 1))->KpA A H H'->Q (.str (if f=t then "look" else "free")) H')
abbrev b7f:Stmt:=top 70
theorem c9k:g2 ["hand"] ["hand"] (d7 b7f):=↑1
theorem c9x(D:DefT K mg "at_ring" b7f ["hand"])(T:↑18)(G_ring_other:↑901 "ring_other" 4 ["hand"] (a6p cl))(GS:↑902 "turn_served" 4 ["self"] (a1e cl))(TS:↑903 "turn_served" 4 ["self"] (a1d cl))(GG:↑902 "go_on" 4 ["self"] (a5r cl))(TG:↑903 "go_on" 4 ["self"] (a5q cl)):↑901 "at_ring" 5 ["hand"] (a9j cl):=by
 refine D.fn c9k (λvs H Q E h=>?_) ↑3
 ·rcases h with ⟨A,n,c,os,bk,gs,ts,ps,Gq,Tq,tl,lt,t,rfl,_⟩|⟨A,n,c,os,bk,gs,ts,ps,Gq,Tq,tl,lt,t,f,rfl,_⟩ <;> rfl
 ·skip
  refine⟨_,(b9 (i3 (i5 G_ring_other hr ↑4 rfl g4 ↑16))
   (d5 (i9 ↑44))),?_⟩
  rcases h with h|h
  ·obtain⟨A,n,c,os,bk,gs,ts,ps,Gq,Tq,tl,lt,t,rfl,hL,he,t0,t1,kn,k⟩:=h
   fail "";refine⟨A,n,c,os,bk,gs,ts,ps,Gq,Tq,tl,lt,true,A.gv,rfl,.inl ⟨rfl,rfl⟩,hL,λH' z1 z2=>?_⟩;obtain⟨dxg1,eg1⟩:=z1.gv;fail "e";refine⟨A.gv,cl.Giver,dxg1,_,_,_,rfl,eg1,rfl,T.k_Giver,GG,?_⟩;fail "";exact⟨A,n,_,os,bk,gs,ts,ps,Gq,Tq,tl,_,t,rfl,z1,he,t0,t1,kn,λH2 z3 k3=>k H2 z3 (z2.trans k3)⟩
  ·obtain⟨A,n,c,os,bk,gs,ts,ps,Gq,Tq,tl,lt,t,f,rfl,hL,he,hf,t0,t1,k⟩:=h
   fail "";refine⟨A,n,c,os,bk,gs,ts,ps,Gq,Tq,tl,lt,false,A.tk,rfl,.inr ⟨rfl,rfl⟩,hL,λH' z1 z2=>?_⟩;obtain⟨dxt1,et1⟩:=z1.tk;fail "e";refine⟨A.tk,cl.Taker,dxt1,_,_,_,rfl,et1,rfl,T.k_Taker,TG,?_⟩;fail "";exact⟨A,n,_,os,bk,gs,ts,ps,Gq,Tq,tl,_,t,f,rfl,z1,he,hf,t0,t1,λH2 z3 k3=>k H2 z3 (z2.trans k3)⟩
end
section
open PySem L2 Pr
section
variable{P:Program}{w:World}{K:Frag}{mg:Str->Option Value}{base:Heap}{cl:Cl}
noncomputable def a0a:Stg->Str
 | .rouse=>"rouse"|.clear=>"clear"|.mute=>"mute"|.marks=>"marks"|.told=>"told"|.lacks=>"lacks"|.look=>"look"|.wish=>"wish"|.again=>"again"|.sleep=>"sleep"|.hush=>"hush"|.unwish=>"unwish"
 | .number=>"number"|.left=>"left"|.thing=>"thing"|.mark=>"mark"|.card=>"card"|.ring=>"ring"|.free=>"free"
noncomputable def gTx(x:Stg)(L:Ln):Tc :=
 match x with
 | .rouse=>⟨true,4*L.n+3,1⟩
 | .clear=>⟨true,4*L.n,-1⟩
 | .mute=>⟨true,4*L.n+2,0⟩
 | .marks=>⟨false,4*L.gseen.length,L.c (4*L.gseen.length)⟩
 | .told=>⟨false,4*((L.g+2*L.n-1) % L.n)+1,L.c (4*((L.g+2*L.n-1) % L.n)+1)⟩
 | .lacks=>⟨false,4*((L.g+2*L.n-1) % L.n)+2,L.c (4*((L.g+2*L.n-1) % L.n)+2)⟩
 | .look=>⟨false,4*(L.g % L.n),L.c (4*(L.g % L.n))⟩
 | .wish=>⟨true,4*L.n,((L.g % (2*L.n):Nat):Int)⟩
 | .again=>⟨false,4*(L.g % L.n),L.c (4*(L.g % L.n))⟩
 | .sleep=>⟨false,4*L.n+2,L.c (4*L.n+2)⟩
 | .hush=>⟨true,4*L.n+2,0⟩
 | .unwish=>⟨true,4*L.n,-1⟩
 | .number=>⟨true,4*(L.g % L.n)+1,(i8 L.os L.g:Int)⟩
 | .left=>⟨true,4*(L.g % L.n)+2,(j2 L.os L.g:Int)⟩
 | .thing=>⟨true,4*(L.g % L.n)+3,x9 L.os L.g⟩
 | .mark=>⟨true,4*(L.g % L.n),2*(lap L.n L.g:Int)+1⟩
 | .card=>⟨false,4*L.n+1,L.c (4*L.n+1)⟩
 | .ring=>⟨true,4*L.n+3,1⟩
 | .free=>⟨false,0,0⟩
noncomputable def gT(L:Ln):Tc:=gTx L.gs L
noncomputable def tTx(x:Stg)(L:Ln):Tc :=
 match x with
 | .rouse=>⟨true,4*L.n+2,1⟩
 | .clear=>⟨true,4*L.n+1,-1⟩
 | .mute=>⟨true,4*L.n+3,0⟩
 | .marks=>⟨false,4*L.tseen.length,L.c (4*L.tseen.length)⟩
 | .look=>⟨false,4*(L.t % L.n),L.c (4*(L.t % L.n))⟩
 | .wish=>⟨true,4*L.n+1,((L.t % (2*L.n):Nat):Int)⟩
 | .again=>⟨false,4*(L.t % L.n),L.c (4*(L.t % L.n))⟩
 | .sleep=>⟨false,4*L.n+3,L.c (4*L.n+3)⟩
 | .hush=>⟨true,4*L.n+3,0⟩
 | .unwish=>⟨true,4*L.n+1,-1⟩
 | .number=>⟨false,4*(L.t % L.n)+1,L.c (4*(L.t % L.n)+1)⟩
 | .left=>⟨false,4*(L.t % L.n)+2,L.c (4*(L.t % L.n)+2)⟩
 | .thing=>⟨false,4*(L.t % L.n)+3,L.c (4*(L.t % L.n)+3)⟩
 | .free=>⟨true,4*(L.f % L.n),2*(lap L.n L.f:Int)⟩
 | .card=>⟨false,4*L.n,L.c (4*L.n)⟩
 | .ring=>⟨true,4*L.n+2,1⟩
 | .told|.lacks|.mark=>⟨false,0,0⟩
noncomputable def tT(L:Ln):Tc:=tTx L.ts L
noncomputable def Stg.come:Stg->Bool
 | .rouse|.clear|.mute|.marks=>true
 | _=>false
noncomputable def n5(os:List ↑26):Nat->Int
 | 0=>-1
 | i+1=>(i8 os i:Int)
noncomputable def v7(os:List ↑26):Nat->Int
 | 0=>0
 | i+1=>(j2 os i:Int)
def gi(L:Ln):Nat:=if L.gs.frees then L.g-1 else L.g
structure GRel(L:Ln)(G:Gm):Prop where
 st:G.st=a0a L.gs
 he:Stg.come L.gs=false->G.he=.int ((gi L % (2*L.n):Nat):Int)
 nu:Stg.come L.gs=false->L.gs≠.told->G.nu=n5 L.os (gi L)
 le:Stg.come L.gs=false->L.gs≠.told->L.gs≠.lacks->G.le=v7 L.os (gi L)
 no:Stg.come L.gs=true->G.he=.non
theorem noC{p:Prop}{b:Bool}(h:b=false:=by rfl):b=true->p:=λz=>by rw[h] at z;cases z
structure TRel(L:Ln)(T:Tm)(ps:List Int):Prop where
 st:T.st=a0a L.ts
 he:Stg.come L.ts=false->T.he=.int ((L.t % (2*L.n):Nat):Int)
 nf:Stg.come L.ts=false->T.nf=.int (((if L.ts.frees then L.f-1 else L.f) % (2*L.n):Nat):Int)
 nu:L.ts=.left\/L.ts=.thing->T.nu=(i8 L.os L.t:Int)
 le:L.ts=.thing->T.le=(j2 L.os L.t:Int)
 pa:ps=if Stg.come L.ts=true\/L.ts=.free\/L.ts.frees=true then [] else v4 L.os L.f (L.t-L.f)
 no:Stg.come L.ts=true->T.he=.non/\T.nf=.non
theorem a3q{os:List ↑26}{i:Nat}:a7l (n5 os i) (v7 os i)=true ↔ i=0 \/ ∃j,i=j+1/\j2 os j=0:=by
 unfold a7l;cases i with
 | zero=>simp[n5]
 | succ j=>
  have e1:n5 os (j+1)=(i8 os j:Int):=rfl;have e2:v7 os (j+1)=(j2 os j:Int):=rfl;rw[e1,e2,Bool.or_eq_true,decide_eq_true_eq,decide_eq_true_eq];constructor
  ·intro h
   rcases h with h|h
   ·exact absurd h ↑2
   ·exact .inr ⟨j,rfl,by lia⟩
  ·intro h
   rcases h with h|⟨j',h,z⟩
   ·exact absurd h ↑2
   ·have:j'=j:=by lia
    subst this;exact .inr ↑2
theorem a9r{n:Nat}{os:List ↑26}{i:Nat}(hi:i<=tot os):b0f os (n5 os i) (v7 os i):=by
 by_cases z:a7l (n5 os i) (v7 os i)=true
 ·exact .inl z
 ·right
  cases i with
  | zero=>exact absurd (a3q.mpr ↑23) z
  | succ j=>
   have:=a3p (os:=os) (i:=j) ↑2;show 0<=(i8 os j:Int)/\(i8 os j:Int)<_;lia
theorem a4u{n:Nat}{os:List ↑26}{i:Nat}(gd:Good n os)(hi:i<tot os):a1w (n5 os i) (v7 os i)=(i8 os i:Int):=by
 unfold a1w;cases i with
 | zero=>
  rw[a3q.mpr ↑23,d2j gd hi]
  rfl
 | succ j=>
  by_cases z:j2 os j=0
  ·rw[a3q.mpr (.inr ⟨j,rfl,z⟩)]
   rw[(next_order gd hi z).1];show(i8 os j:Int)+1=_;lia
  ·have b:a7l (n5 os (j+1)) (v7 os (j+1))=false:=by
    cases e:a7l (n5 os (j+1)) (v7 os (j+1)) with
    | false=>rfl
    | true=>
     rcases a3q.mp e with y|⟨j',y,q⟩
     ·lia
     ·have:j'=j:=by lia
      subst this;exact absurd q z
   rw[b];rw[(next_part (os:=os) (i:=j) ↑2 ↑2).2.1]
   rfl
theorem d5m{n:Nat}{os:List ↑26}(gd:Good n os):a1w (n5 os (tot os)) (v7 os (tot os))=(os.length:Int):=by
 unfold a1w;cases e:tot os with
 | zero=>
  have:os=[]:=by
   cases os with
   | nil=>rfl
   | cons o os=>rw[a4w] at e;have:=gd.head;lia
  subst this
  rfl
 | succ j=>
  have nl:=a3p (os:=os) (i:=j) ↑2;obtain⟨a,b⟩:=y7 (n:=0) (os:=os) (i:=j) ↑2;have c:=a9w os (i8 os j+1);have l0:j2 os j=0:=by lia
  rw[a3q.mpr (.inr ⟨j,rfl,l0⟩)];show(i8 os j:Int)+1=_;have:¬ i8 os j+1<os.length:=λz=>by
   have:=c9c gd z;have:=a9w os (i8 os j+1+1);lia
  lia
theorem a5l{os:List ↑26}{i:Nat}(hi:i<tot os):∃o,os[i8 os i]?=some o/\os.getD (i8 os i) []=o/\beg os (i8 os i+1)=beg os (i8 os i)+o.length:=by
 have h:=a3p hi;refine⟨os[i8 os i],List.getElem?_eq_getElem h,by rw[List.getD_eq_getElem?_getD,List.getElem?_eq_getElem h];rfl,c9a (List.getElem?_eq_getElem h)⟩
theorem c8h{n:Nat}{os:List ↑26}{i:Nat}(gd:Good n os)(hi:i<tot os):b0d os (n5 os i) (v7 os i)=((i-beg os (i8 os i):Nat):Int):=by
 unfold b0d;cases i with
 | zero=>
  rw[a3q.mpr ↑23];rw[if_pos rfl,Nat.zero_sub]
  rfl
 | succ j=>
  by_cases z:j2 os j=0
  ·rw[a3q.mpr (.inr ⟨j,rfl,z⟩),if_pos rfl,(next_order gd hi z).1,(next_order gd hi z).2,Nat.sub_self]
   rfl
  ·have b:a7l (n5 os (j+1)) (v7 os (j+1))=false:=by
    cases e:a7l (n5 os (j+1)) (v7 os (j+1)) with
    | false=>rfl
    | true=>
     rcases a3q.mp e with y|⟨j',y,q⟩
     ·lia
     ·have:j'=j:=by lia
      subst this;exact absurd q z
   rw[b];obtain⟨o,eo,eg,es⟩:=a5l (os:=os) (i:=j) ↑2;obtain⟨h1,h2⟩:=y7 (n:=0) (os:=os) (i:=j) ↑2;rw[(next_part (os:=os) (i:=j) ↑2 ↑2).2.1];show(if false=true then 0 else ((os.getD (i8 os j:Int).toNat []).length:Int)-(j2 os j:Int))=_;rw[if_neg ↑4,Int.toNat_natCast,eg];lia
theorem c1z{n:Nat}{os:List ↑26}{i:Nat}(gd:Good n os)(hi:i<tot os):a7m os (n5 os i) (v7 os i)=(j2 os i:Int):=by
 unfold a7m;rw[a4u gd hi,c8h gd hi,Int.toNat_natCast];obtain⟨o,eo,eg,es⟩:=a5l hi;obtain⟨h1,h2⟩:=y7 (n:=0) hi;rw[eg];lia
theorem b7s{n:Nat}{os:List ↑26}{i:Nat}(gd:Good n os)(hi:i<tot os):(os.getD (a1w (n5 os i) (v7 os i)).toNat []).getD (b0d os (n5 os i) (v7 os i)).toNat 0=x9 os i/\0<=b0d os (n5 os i) (v7 os i)/\b0d os (n5 os i) (v7 os i)<((os.getD (a1w (n5 os i) (v7 os i)).toNat []).length:Int):=by
 rw[a4u gd hi,c8h gd hi,Int.toNat_natCast,Int.toNat_natCast];obtain⟨o,eo,eg,es⟩:=a5l hi;obtain⟨h1,h2⟩:=y7 (n:=0) hi;rw[eg];refine⟨?_,by lia,by lia⟩
 rw[<- b6k eo (i-beg os (i8 os i)) ↑2,show beg os (i8 os i)+(i-beg os (i8 os i))=i by lia]
theorem d0j{n:Nat}{os:List ↑26}{i:Nat}(gd:Good n os)(hi:i<=tot os):b4t os (n5 os i) (v7 os i)=decide (i<tot os):=by
 unfold b4t;by_cases z:i<tot os
 ·obtain⟨_,p0,p1⟩:=b7s gd z
  have o:=a4u gd z;have:=a3p z;rw[decide_eq_true z,decide_eq_true (show 0<=a1w (n5 os i) (v7 os i)/\a1w (n5 os i) (v7 os i)<(os.length:Int) by lia),decide_eq_true ⟨p0,p1⟩]
  rfl
 ·have e:i=tot os:=by lia
  subst e;rw[decide_eq_false z,d5m gd,decide_eq_false ↑2,Bool.false_and]
theorem a1z{n i:Nat}:(((i % (2*n):Nat):Int) / (n:Int))=(lap n i:Int):=by
 rw[<- c7o n i]
 push_cast
 rfl
theorem k7{n i:Nat}:((((i % (2*n):Nat):Int) % (n:Int))).toNat=i % n:=by
 rw[<- Int.natCast_emod,Int.toNat_natCast,b9b]
theorem a0l{n i:Nat}(hn:0<n):(0:Int)<=((i % (2*n):Nat):Int)/\((i % (2*n):Nat):Int)<2*(n:Int):=by
 have:=b6j (i:=i) hn;lia
theorem a0k{n i:Nat}:((((i % (2*n):Nat):Int)+1) % (2*(n:Int)))=(((i+1) % (2*n):Nat):Int):=by
 push_cast
 rw[Int.emod_add_emod]
theorem c2p{n i:Nat}:((((i % (2*n):Nat):Int)+(n:Int)) % (2*(n:Int)))=(((i+n) % (2*n):Nat):Int):=by
 push_cast
 rw[Int.emod_add_emod]
theorem b9c{n i:Nat}(hn:0<n):(ahd n ((i % (2*n):Nat):Int)).toNat=(i+2*n-1) % n:=by
 unfold ahd;have e1:(((i % (2*n):Nat):Int) + -1) % (2*(n:Int))=(((i+2*n-1) % (2*n):Nat):Int):=by
  have:((i+2*n-1:Nat):Int)=(i:Int) + -1+2*(n:Int):=by lia
  push_cast
  rw[Int.emod_add_emod,this,Int.add_emod_right]
 rw[e1,k7]
section
variable{H:Hp}{A:Ad}{L:Ln}{ps:List Int}{Gq:Gm}{Tq:Tm}{tl:List Tr}{lt:Lt}{Q:VK}{E:XK}
def e0b(cl:Cl)(H:Hp)(A:Ad)(L L':Ln)(ps:List Int)(Tq:Tm)(tl:List Tr)(lt:Lt)(Q:VK):Prop:=∀H' A' Gq',LH cl H' A' L.n L'.c L.os L.bk L'.gseen L.tseen ps Gq' Tq tl lt->GRel L' { Gq' with st:=a0a L'.gs }->KpA A H H'->Nx A A' H->Q (.str (a0a L'.gs)) H'
theorem d3a{x:Stg}(e:L.gs=x)(h:x.frees=false):gi L=L.g:=by unfold gi;rw[e,h];rfl
theorem d0m{x:Stg}(e:L.gs=x)(h:x.frees=true):gi L=L.g-1:=by unfold gi;rw[e,h];rfl
theorem d6e(hL:↑5)(ok:Ok L)(hg:GRel L Gq)(e:L.gs=.rouse)(k:↑11):a6u cl [.ref A.gv] H Q E:=by
 rw[show gT L=gTx .rouse L from congrArg (gTx · L) e] at k
 have es:gstep L={ L.put (4*L.n+3) (1) with gs:=.clear }:=by unfold gstep;rw[e]
 rw[es] at k;refine⟨A,L.n,L.c,L.os,L.bk,L.gseen,L.tseen,ps,Gq,Tq,tl,lt,true,A.gv,rfl,.inl ⟨rfl,rfl⟩,hL,λH' z kz=>?_⟩;exact k H' A Gq z ⟨rfl,λy=>↑27,λy=>↑27,λy=>↑27,λ_=>hg.no (by rw[e];rfl)⟩ kz (Nx.refl A H)
theorem d6h(hL:↑5)(ok:Ok L)(hg:GRel L Gq)(e:L.gs=.clear)(k:↑11):a6w cl [.ref A.gv] H Q E:=by
 rw[show gT L=gTx .clear L from congrArg (gTx · L) e] at k
 have es:gstep L={ L.put (4*L.n) (-1) with gs:=.mute }:=by unfold gstep;rw[e]
 rw[es] at k;refine⟨A,L.n,L.c,L.os,L.bk,L.gseen,L.tseen,ps,Gq,Tq,tl,lt,true,A.gv,rfl,.inl ⟨rfl,rfl⟩,hL,λH' z kz=>?_⟩;exact k H' A Gq z ⟨rfl,λy=>↑27,λy=>↑27,λy=>↑27,λ_=>hg.no (by rw[e];rfl)⟩ kz (Nx.refl A H)
theorem d9l(hL:↑5)(ok:Ok L)(hg:GRel L Gq)(e:L.gs=.mute)(k:↑11):a9k cl [.ref A.gv] H Q E:=by
 rw[show gT L=gTx .mute L from congrArg (gTx · L) e] at k
 have es:gstep L={ L.put (4*L.n+2) (0) with gs:=.marks }:=by unfold gstep;rw[e]
 rw[es] at k;refine⟨A,L.n,L.c,L.os,L.bk,L.gseen,L.tseen,ps,Gq,Tq,tl,lt,true,A.gv,rfl,.inl ⟨rfl,rfl⟩,hL,λH' z kz=>?_⟩;exact k H' A Gq z ⟨rfl,λy=>↑27,λy=>↑27,λy=>↑27,λ_=>hg.no (by rw[e];rfl)⟩ kz (Nx.refl A H)
theorem d9p(hL:↑5)(ok:Ok L)(hg:GRel L Gq)(e:L.gs=.hush)(k:↑11):a9m cl [.ref A.gv] H Q E:=by
 rw[show gT L=gTx .hush L from congrArg (gTx · L) e] at k
 fail "b";have es:gstep L={ L.put (4*L.n+2) (0) with gs:=.unwish }:=by unfold gstep;rw[e]
 rw[es] at k;refine⟨A,L.n,L.c,L.os,L.bk,L.gseen,L.tseen,ps,Gq,Tq,tl,lt,true,A.gv,rfl,.inl ⟨rfl,rfl⟩,hL,λH' z kz=>?_⟩;fail "g"
theorem d3b(hL:↑5)(ok:Ok L)(hg:GRel L Gq)(e:L.gs=.unwish)(k:↑11):a4z cl [.ref A.gv] H Q E:=by
 rw[show gT L=gTx .unwish L from congrArg (gTx · L) e] at k
 fail "b";have es:gstep L={ L.put (4*L.n) (-1) with gs:=.look }:=by unfold gstep;rw[e]
 rw[es] at k;refine⟨A,L.n,L.c,L.os,L.bk,L.gseen,L.tseen,ps,Gq,Tq,tl,lt,true,A.gv,rfl,.inl ⟨rfl,rfl⟩,hL,λH' z kz=>?_⟩;fail "g"
theorem d6d(hL:↑5)(ok:Ok L)(hg:GRel L Gq)(e:L.gs=.sleep)(k:↑11):a6t cl [.ref A.gv] H Q E:=by
 rw[show gT L=gTx .sleep L from congrArg (gTx · L) e] at k
 fail "b";refine⟨A,L.n,L.c,L.os,L.bk,L.gseen,L.tseen,ps,Gq,Tq,tl,lt,true,A.gv,rfl,.inl ⟨rfl,rfl⟩,hL,λH' z kz=>?_⟩;by_cases y:L.c (4*L.n+2)=0
 ·have es:gstep L=L:=by unfold gstep;rw[e];exact if_pos y
  rw[es] at k;have q:=k H' A Gq z (by rw[e];exact⟨by rw[e],λ_=>by rw[g0];exact he0,λ_ _=>by rw[g0];exact nu0,λ_ _ _=>by rw[g0];exact le0,λy=>absurd y (by rw[e];decide)⟩) kz (Nx.refl A H)
  rw[e] at q;rw[show(if L.c (4*L.n+a5w true)=0 then ("sleep":Str) else "hush")="sleep" from if_pos y];exact q
 ·have es:gstep L={ L with gs:=.hush }:=by unfold gstep;rw[e];exact if_neg y
  rw[es] at k;rw[show(if L.c (4*L.n+a5w true)=0 then ("sleep":Str) else "hush")="hush" from if_neg y];fail "g"
theorem d9n(hL:↑5)(ok:Ok L)(hg:GRel L Gq)(e:L.gs=.look)(hp:L.g<tot L.os)(k:↑11):a9l cl [.ref A.gv] H Q E:=by
 rw[show gT L=gTx .look L from congrArg (gTx · L) e] at k
 fail "b";have w0:L.c (4*((((L.g % (2*L.n):Nat):Int) % (L.n:Int))).toNat)=a3g true L.n ((L.g % (2*L.n):Nat):Int) ↔ L.c (4*(L.g % L.n))=2*(1-(lap L.n L.g:Int)):=by
  rw[k7];unfold a3g;rw[if_pos rfl,a1z,Int.add_zero]
 refine⟨A,L.n,L.c,L.os,L.bk,L.gseen,L.tseen,ps,Gq,Tq,tl,lt,true,A.gv,_,rfl,.inl ⟨rfl,rfl⟩,hL,he0,tn.1,tn.2,λH' z kz=>?_⟩;rw[k7] at z;by_cases y:L.c (4*(L.g % L.n))=2*(1-(lap L.n L.g:Int))
 ·have es:gstep L={ L with gs:=.number }:=by unfold gstep;rw[e];show(if L.g<tot L.os then _ else _)=_;rw[if_pos hp];exact if_pos y
  rw[es] at k;rw[if_pos (w0.mpr y)];fail "g"
 ·have es:gstep L={ L with gs:=.wish }:=by unfold gstep;rw[e];show(if L.g<tot L.os then _ else _)=_;rw[if_pos hp];exact if_neg y
  rw[es] at k;rw[if_neg λz=>y (w0.mp z)];fail "g"
theorem d6i(hL:↑5)(ok:Ok L)(hg:GRel L Gq)(e:L.gs=.again)(k:↑11):a6x cl [.ref A.gv] H Q E:=by
 rw[show gT L=gTx .again L from congrArg (gTx · L) e] at k
 fail "b";have w0:L.c (4*((((L.g % (2*L.n):Nat):Int) % (L.n:Int))).toNat)=a3g true L.n ((L.g % (2*L.n):Nat):Int) ↔ L.c (4*(L.g % L.n))=2*(1-(lap L.n L.g:Int)):=by
  rw[k7];unfold a3g;rw[if_pos rfl,a1z,Int.add_zero]
 refine⟨A,L.n,L.c,L.os,L.bk,L.gseen,L.tseen,ps,Gq,Tq,tl,lt,true,A.gv,_,rfl,.inl ⟨rfl,rfl⟩,hL,he0,tn.1,tn.2,λH' z kz=>?_⟩;rw[k7] at z;by_cases y:L.c (4*(L.g % L.n))=2*(1-(lap L.n L.g:Int))
 ·have es:gstep L={ L with gs:=.unwish }:=by unfold gstep;rw[e];exact if_pos y
  rw[es] at k;rw[if_pos (w0.mpr y)];fail "g"
 ·have es:gstep L={ L with gs:=.sleep }:=by unfold gstep;rw[e];exact if_neg y
  rw[es] at k;rw[if_neg λz=>y (w0.mp z)];fail "g"
theorem d9i(hL:↑5)(ok:Ok L)(hg:GRel L Gq)(e:L.gs=.wish)(k:↑11):a9i cl [.ref A.gv] H Q E:=by
 rw[show gT L=gTx .wish L from congrArg (gTx · L) e] at k
 fail "b";have es:gstep L={ L.put (4*L.n) ((L.g % (2*L.n):Nat):Int) with gs:=.again }:=by unfold gstep;rw[e]
 rw[es] at k;refine⟨A,L.n,L.c,L.os,L.bk,L.gseen,L.tseen,ps,Gq,Tq,tl,lt,true,A.gv,_,rfl,.inl ⟨rfl,rfl⟩,hL,he0,tn.1,tn.2,λH' z kz=>?_⟩;fail "g"
theorem b3r(ok:Ok L):L.c (4*((L.g+2*L.n-1) % L.n)+1)=n5 L.os L.g/\L.c (4*((L.g+2*L.n-1) % L.n)+2)=v7 L.os L.g:=by
 have c0:=ok.core;have n2:=c0.n2;cases hG:L.g with
 | zero=>
  have z:=c0.slip0 hG;have e1:(0+2*L.n-1) % L.n=L.n-1:=by
   rw[show 0+2*L.n-1=(L.n-1)+L.n by lia,Nat.add_mod_right,Nat.mod_eq_of_lt ↑2]
  rw[e1];exact z
 | succ j=>
  have z:=c0.slip j ↑2 (.inl ↑2);have e1:(j+1+2*L.n-1) % L.n=j % L.n:=by
   rw[show j+1+2*L.n-1=j+L.n+L.n by lia,Nat.add_mod_right,Nat.add_mod_right]
  rw[e1];exact⟨z.1,z.2.1⟩
theorem d9j(hL:↑5)(ok:Ok L)(hg:GRel L Gq)(e:L.gs=.told)(k:↑11):b3o cl [.ref A.gv] H Q E:=by
 rw[show gT L=gTx .told L from congrArg (gTx · L) e] at k
 have hn:0<L.n:=ok.hn;have g0:gi L=L.g:=d3a e ↑4;have he0:Gq.he=.int ((L.g % (2*L.n):Nat):Int):=by rw[<- g0];exact hg.he (by rw[e];decide)
 have tn:=a0l (i:=L.g) hn;have c0:=ok.core;have ea:=b9c (i:=L.g) hn;have sa:=b3r ok;have es:gstep L={ L with gs:=.lacks }:=by unfold gstep;rw[e]
 rw[es] at k;refine⟨A,L.n,L.c,L.os,L.bk,L.gseen,L.tseen,ps,Gq,Tq,tl,lt,_,rfl,hL,he0,tn.1,tn.2,λH' z kz=>?_⟩;rw[ea] at z;exact k H' A _ z ⟨rfl,λ_=>he0,λ_ _=>sa.1,λ_ _ y=>absurd rfl y,noC⟩ kz (Nx.refl A H)
theorem d6g(hL:↑5)(ok:Ok L)(hg:GRel L Gq)(e:L.gs=.lacks)(k:↑11):b0r cl [.ref A.gv] H Q E:=by
 rw[show gT L=gTx .lacks L from congrArg (gTx · L) e] at k
 have hn:0<L.n:=ok.hn;have g0:gi L=L.g:=d3a e ↑4;have he0:Gq.he=.int ((L.g % (2*L.n):Nat):Int):=by rw[<- g0];exact hg.he (by rw[e];decide)
 have tn:=a0l (i:=L.g) hn;have c0:=ok.core;have ea:=b9c (i:=L.g) hn;have sa:=b3r ok;have nu0:Gq.nu=n5 L.os L.g:=by rw[<- g0];exact hg.nu (by rw[e];decide) (by rw[e];decide)
 have es:gstep L={ L with gs:=.look }:=by unfold gstep;rw[e]
 rw[es] at k;refine⟨A,L.n,L.c,L.os,L.bk,L.gseen,L.tseen,ps,Gq,Tq,tl,lt,_,rfl,hL,he0,tn.1,tn.2,λH' z kz=>?_⟩;rw[ea] at z;exact k H' A _ z ⟨rfl,λ_=>he0,λ_ _=>nu0,λ_ _ _=>sa.2,noC⟩ kz (Nx.refl A H)
theorem d3c(hL:↑5)(ok:Ok L)(hg:GRel L Gq)(e:L.gs=.number)(k:↑11):a0o cl [.ref A.gv] H Q E:=by
 rw[show gT L=gTx .number L from congrArg (gTx · L) e] at k
 fail "b";have gd:=ok.core.good;have rm:=ok.gv.room (by rw[e];rfl)
 have kn:b0f L.os Gq.nu Gq.le/\0<=a1w Gq.nu Gq.le/\a1w Gq.nu Gq.le<L.os.length:=by
  rw[nu0,le0];have:=a4u gd rm.1;have:=a3p rm.1;exact⟨a9r (n:=L.n) ↑2,by lia,by lia⟩
 have es:gstep L={ L.put (4*(L.g % L.n)+1) ((i8 L.os L.g:Int)) with gs:=.left }:=by unfold gstep;rw[e]
 rw[es] at k;refine⟨A,L.n,L.c,L.os,L.bk,L.gseen,L.tseen,ps,Gq,Tq,tl,lt,_,rfl,hL,he0,tn.1,tn.2,λH' z kz=>?_⟩;rw[k7,nu0,le0,a4u gd rm.1] at z;fail "g"
theorem d9o(hL:↑5)(ok:Ok L)(hg:GRel L Gq)(e:L.gs=.left)(k:↑11):a1m cl [.ref A.gv] H Q E:=by
 rw[show gT L=gTx .left L from congrArg (gTx · L) e] at k
 fail "b";have gd:=ok.core.good;have rm:=ok.gv.room (by rw[e];rfl)
 have kn:b0f L.os Gq.nu Gq.le/\0<=a1w Gq.nu Gq.le/\a1w Gq.nu Gq.le<L.os.length:=by
  rw[nu0,le0];have:=a4u gd rm.1;have:=a3p rm.1;exact⟨a9r (n:=L.n) ↑2,by lia,by lia⟩
 have es:gstep L={ L.put (4*(L.g % L.n)+2) ((j2 L.os L.g:Int)) with gs:=.thing }:=by unfold gstep;rw[e]
 rw[es] at k;refine⟨A,L.n,L.c,L.os,L.bk,L.gseen,L.tseen,ps,Gq,Tq,tl,lt,_,rfl,hL,he0,tn.1,tn.2,kn,λH' z kz=>?_⟩;rw[k7,nu0,le0,c1z gd rm.1] at z;fail "g"
theorem d6c(hL:↑5)(ok:Ok L)(hg:GRel L Gq)(e:L.gs=.thing)(k:↑11):a1a cl [.ref A.gv] H Q E:=by
 rw[show gT L=gTx .thing L from congrArg (gTx · L) e] at k
 fail "b";have gd:=ok.core.good;have rm:=ok.gv.room (by rw[e];rfl)
 have kn:b0f L.os Gq.nu Gq.le/\0<=a1w Gq.nu Gq.le/\a1w Gq.nu Gq.le<L.os.length:=by
  rw[nu0,le0];have:=a4u gd rm.1;have:=a3p rm.1;exact⟨a9r (n:=L.n) ↑2,by lia,by lia⟩
 have th:0<=b0d L.os Gq.nu Gq.le/\b0d L.os Gq.nu Gq.le<((L.os.getD (a1w Gq.nu Gq.le).toNat []).length:Int):=by rw[nu0,le0];exact(b7s gd rm.1).2
 have es:gstep L={ L.put (4*(L.g % L.n)+3) (x9 L.os L.g) with gs:=.mark }:=by unfold gstep;rw[e]
 rw[es] at k;refine⟨A,L.n,L.c,L.os,L.bk,L.gseen,L.tseen,ps,Gq,Tq,tl,lt,_,rfl,hL,he0,tn.1,tn.2,⟨kn.1,kn.2,th⟩,λH' z kz=>?_⟩;rw[k7,nu0,le0,(b7s gd rm.1).1] at z;fail "g"
theorem d9m(hL:↑5)(ok:Ok L)(hg:GRel L Gq)(e:L.gs=.mark)(k:↑11):b3p cl [.ref A.gv] H Q E:=by
 rw[show gT L=gTx .mark L from congrArg (gTx · L) e] at k
 fail "b";have es:gstep L={ L.put (4*(L.g % L.n)) (2*(lap L.n L.g:Int)+1) with gs:=.card,g:=L.g+1 }:=by unfold gstep;rw[e]
 rw[es] at k;refine⟨A,L.n,L.c,L.os,L.bk,L.gseen,L.tseen,ps,Gq,Tq,tl,lt,_,rfl,hL,he0,tn.1,tn.2,λH' z kz=>?_⟩;rw[k7,a1z,Nat.add_zero] at z;have gi1:gi { L.put (4*(L.g % L.n)) (2*(lap L.n L.g:Int)+1) with gs:=.card,g:=L.g+1 }=L.g:=by
  unfold gi;show(if Stg.frees .card=true then L.g+1-1 else L.g+1)=L.g;rw[if_pos (show Stg.frees .card=true from rfl)];lia
 exact k H' A Gq z ⟨rfl,λ_=>by rw[gi1];exact he0,λ_ _=>by rw[gi1];exact nu0,λ_ _ _=>by rw[gi1];exact le0,noC⟩ kz (Nx.refl A H)
theorem d9q(hL:↑5)(ok:Ok L)(hg:GRel L Gq)(e:L.gs=.card)(k:↑11):a9n cl [.ref A.gv] H Q E:=by
 rw[show gT L=gTx .card L from congrArg (gTx · L) e] at k
 have hn:0<L.n:=ok.hn;have gp:0<L.g:=ok.gv.pos (by rw[e];rfl)
 have g0:gi L=L.g-1:=d0m e ↑4;have he0:Gq.he=.int (((L.g-1) % (2*L.n):Nat):Int):=by rw[<- g0];exact hg.he (by rw[e];decide)
 have tn:=a0l (i:=L.g-1) hn;have nu0:Gq.nu=n5 L.os (L.g-1):=by rw[<- g0];exact hg.nu (by rw[e];decide) (by rw[e];decide)
 have le0:Gq.le=v7 L.os (L.g-1):=by rw[<- g0];exact hg.le (by rw[e];decide) (by rw[e];decide) (by rw[e];decide)
 have gd:=ok.core.good;have gt:=ok.core.gt;have lt':L.g-1<tot L.os:=by lia
 have kn:b0f L.os Gq.nu Gq.le/\0<=a1w Gq.nu Gq.le/\a1w Gq.nu Gq.le<L.os.length:=by
  rw[nu0,le0];have:=a4u gd lt';have:=a3p lt';exact⟨a9r (n:=L.n) ↑2,by lia,by lia⟩
 have en:n5 L.os L.g=(i8 L.os (L.g-1):Int):=by rw[show L.g=(L.g-1)+1 by lia];rfl
 have el:v7 L.os L.g=(j2 L.os (L.g-1):Int):=by rw[show L.g=(L.g-1)+1 by lia];rfl
 have et:(((L.g-1+1) % (2*L.n):Nat):Int)=((L.g % (2*L.n):Nat):Int):=by rw[show L.g-1+1=L.g by lia]
 refine .inl ⟨A,L.n,L.c,L.os,L.bk,L.gseen,L.tseen,ps,Gq,Tq,tl,lt,_,rfl,hL,he0,tn.1,tn.2,kn,?_⟩;by_cases y:L.c (4*L.n+1)=(((L.g-1) % (2*L.n):Nat):Int)
 ·have es:gstep L={ L with gs:=.ring }:=by unfold gstep;rw[e];exact if_pos y
  rw[es] at k;rw[if_pos y];intro H' z kz;fail "g"
 ·have es:gstep L={ L with gs:=.look }:=by unfold gstep;rw[e];exact if_neg y
  rw[es] at k;rw[if_neg y];intro H' z kz;rw[a0k,nu0,le0,a4u gd lt',c1z gd lt',et] at z;exact k H' A _ z ⟨rfl,λ_=>rfl,λ_ _=>en.symm,λ_ _ _=>el.symm,noC⟩ kz (Nx.refl A H)
theorem d9k(hL:↑5)(ok:Ok L)(hg:GRel L Gq)(e:L.gs=.ring)(k:↑11):a9j cl [.ref A.gv] H Q E:=by
 rw[show gT L=gTx .ring L from congrArg (gTx · L) e] at k
 have hn:0<L.n:=ok.hn;have gp:0<L.g:=ok.gv.pos (by rw[e];rfl)
 have g0:gi L=L.g-1:=d0m e ↑4;have he0:Gq.he=.int (((L.g-1) % (2*L.n):Nat):Int):=by rw[<- g0];exact hg.he (by rw[e];decide)
 have tn:=a0l (i:=L.g-1) hn;have nu0:Gq.nu=n5 L.os (L.g-1):=by rw[<- g0];exact hg.nu (by rw[e];decide) (by rw[e];decide)
 have le0:Gq.le=v7 L.os (L.g-1):=by rw[<- g0];exact hg.le (by rw[e];decide) (by rw[e];decide) (by rw[e];decide)
 have gd:=ok.core.good;have gt:=ok.core.gt;have lt':L.g-1<tot L.os:=by lia
 have kn:b0f L.os Gq.nu Gq.le/\0<=a1w Gq.nu Gq.le/\a1w Gq.nu Gq.le<L.os.length:=by
  rw[nu0,le0];have:=a4u gd lt';have:=a3p lt';exact⟨a9r (n:=L.n) ↑2,by lia,by lia⟩
 have en:n5 L.os L.g=(i8 L.os (L.g-1):Int):=by rw[show L.g=(L.g-1)+1 by lia];rfl
 have el:v7 L.os L.g=(j2 L.os (L.g-1):Int):=by rw[show L.g=(L.g-1)+1 by lia];rfl
 have et:(((L.g-1+1) % (2*L.n):Nat):Int)=((L.g % (2*L.n):Nat):Int):=by rw[show L.g-1+1=L.g by lia]
 have es:gstep L={ L.put (4*L.n+3) 1 with gs:=.look }:=by unfold gstep;rw[e]
 rw[es] at k;refine .inl ⟨A,L.n,L.c,L.os,L.bk,L.gseen,L.tseen,ps,Gq,Tq,tl,lt,_,rfl,hL,he0,tn.1,tn.2,kn,λH' z kz=>?_⟩;rw[a0k,nu0,le0,a4u gd lt',c1z gd lt',et] at z;exact k H' A _ z ⟨rfl,λ_=>rfl,λ_ _=>en.symm,λ_ _ _=>el.symm,noC⟩ kz (Nx.refl A H)
end
theorem b1v{n g:Nat}(hn:0<n){xs:List Int}(l:xs.length=n)(h:∀(q:Nat) (m:Int),xs[q]?=some m->m=(b6d n g q:Int)):toB xs=c2m n (g % (2*n)):=by
 have hp:=Nat.mod_lt g hn;have hl:=b5s n g;apply List.ext_getElem?;intro q;unfold toB c2m;rw[b9b,c7o,List.getElem?_map];by_cases hq:q<n
 ·have e:=List.getElem?_eq_getElem (l:=xs) (show q<xs.length by lia)
  have z:=h q _ e;rw[e,z];unfold b6d;show some ((((if q<g % n then lap n g else 1-lap n g:Nat):Int)) == 1)=_;by_cases y:q<g % n
  ·rw[if_pos y,List.getElem?_append_left (by rw[List.length_replicate];exact y),List.getElem?_replicate,if_pos y]
   congr 1
   rw[Bool.eq_iff_iff];simp only[beq_iff_eq];lia
  ·rw[if_neg y,List.getElem?_append_right (by rw[List.length_replicate];lia),List.length_replicate,List.getElem?_replicate,if_pos ↑2]
   congr 1
   rw[Bool.eq_iff_iff];simp only[beq_iff_eq,Bool.not_eq_true',beq_eq_false_iff_ne];lia
 ·rw[List.getElem?_eq_none ↑2,List.getElem?_eq_none (by rw[List.length_append,List.length_replicate,List.length_replicate];lia)]
  rfl
theorem b9a:(List.range 7).all (λk=>(List.range (2*(k+2))).all λt=>a5o (c2m (k+2) t) == some t)=true:=by decide +kernel
theorem a9t{n t:Nat}(n2:2<=n)(n8:n<=8)(ht:t<2*n):a5o (c2m n t)=some t:=by
 have h:=List.all_eq_true.mp b9a (n-2) (List.mem_range.mpr ↑2);rw[show n-2+2=n by lia] at h
 have h:=List.all_eq_true.mp h t (List.mem_range.mpr ht)
 simpa using h
theorem b6f{xs:List Int}{x:Int}{q:Nat}{m:Int}(h:(xs++[x])[q]?=some m):(q<xs.length/\xs[q]?=some m)\/(q=xs.length/\m=x):=by
 by_cases z:q<xs.length
 ·rw[List.getElem?_append_left z] at h
  exact .inl ⟨z,h⟩
 ·have hq:q=xs.length:=by
   have:=(List.getElem?_eq_some_iff.mp h).1;rw[List.length_append] at this;have:q<xs.length+1:=this;lia
  subst hq;rw[List.getElem?_append_right ↑31,Nat.sub_self] at h;cases h;exact .inr ⟨rfl,rfl⟩
theorem d0z{xs:List Int}(h:∀(q:Nat) (m:Int),xs[q]?=some m->0<=m/\m<=3):a2o xs=true:=by
 refine List.all_eq_true.mpr λx hx=>?_;obtain⟨i,hi⟩:=List.getElem?_of_mem hx;have:=h i x hi
 simpa using this
section
variable{H:Hp}{A:Ad}{L:Ln}{ps:List Int}{Gq:Gm}{Tq:Tm}{tl:List Tr}{lt:Lt}{Q:VK}{E:XK}
theorem Nx.ofMg{p:Addr}:Nx A (A.setMg p) H:=⟨λ_ _=>rfl,.inl rfl,rfl⟩
theorem Nx.ofMt{p:Addr}:Nx A (A.setMt p) H:=⟨λ_ _=>rfl,.inl rfl,rfl⟩
theorem d6f(hL:↑5)(ok:Ok L)(hg:GRel L Gq)(e:L.gs=.marks)(k:↑11):a6v cl [.ref A.gv] H Q E:=by
 rw[show gT L=gTx .marks L from congrArg (gTx · L) e] at k
 have hn:0<L.n:=ok.hn;have n2:=ok.core.n2;have n8:=ok.core.n8;have sl:=ok.gv.seen.1;have sg:=ok.gv.seen.2;refine .inl ⟨A,L.n,L.c,L.os,L.bk,L.gseen,L.tseen,ps,Gq,Tq,tl,lt,rfl,hL,sl,?_⟩;by_cases y:L.gseen.length+1<L.n
 ·have es:gstep L={ L with gseen:=L.gseen++[L.c (4*L.gseen.length)] }:=by unfold gstep;rw[e];exact if_pos y
  rw[es] at k;rw[if_pos y];intro p H' hp z kz;have q:=k H' (A.setMg p) Gq z ⟨(by rw[e]),(λy=>by rw[e] at y;cases y),(λy=>by rw[e] at y;cases y),(λy=>by rw[e] at y;cases y),hg.no⟩ kz Nx.ofMg
  have e3:a0a L.gs="marks":=by rw[e];rfl
  change Q (.str (a0a L.gs)) H' at q;rw[e3] at q;exact q
 ·have es:gstep L={ L with gseen:=[],gs:=.told }:=by unfold gstep;rw[e];exact if_neg y
  rw[es] at k;rw[if_neg y];have all:∀(q:Nat)(m:Int),(L.gseen++[L.c (4*L.gseen.length)])[q]?=some m->m / 2=(b6d L.n L.g q:Int)/\0<=m/\m<=3:=λq m h=>by
   rcases b6f h with ⟨_,z⟩|⟨rfl,rfl⟩
   ·exact sg q m z
   ·exact⟨ok.core.mks.laps hn sl,ok.core.mks.range hn sl⟩
  refine⟨L.g % (2*L.n),d0z λq m h=>(all q m h).2,?_,λp H' hp z kz=>?_⟩
  ·rw[b1v hn (by rw[List.length_map,List.length_append];show L.gseen.length+1=L.n;lia) (λq m h=>?_),a9t n2 n8 (b6j hn)]
   rw[List.getElem?_map] at h;cases e2:(L.gseen++[L.c (4*L.gseen.length)])[q]? with
   | none=>rw[e2] at h;cases h
   | some m'=>
    rw[e2] at h;cases h;exact(all q m' e2).1
  ·exact k H' (A.setMg p) _ z ⟨rfl,λ_=>rfl,λ_ y=>absurd rfl y,λ_ y=>absurd rfl y,noC⟩ kz Nx.ofMg
def e0a(cl:Cl)(H:Hp)(A:Ad)(L L':Ln)(Gq:Gm)(tl:List Tr)(lt:Lt)(Q:VK):Prop:=∀H' A' Tq' ps',LH cl H' A' L.n L'.c L.os L'.bk L.gseen L'.tseen ps' Gq Tq' tl lt->TRel L' { Tq' with st:=a0a L'.ts } ps'->KpA A H H'->Nx A A' H->Q (.str (a0a L'.ts)) H'
theorem b9l{x:Stg}(h1:x≠.left)(h2:x≠.thing){a:Int}{b:Int}:x=.left\/x=.thing->a=b:=λy=>by rcases y with y|y;exact absurd y h1;exact absurd y h2
theorem d4p(hL:↑5)(ok:Ok L)(ht:TRel L Tq ps)(e:L.ts=.rouse)(k:↑14):a6u cl [.ref A.tk] H Q E:=by
 rw[show tT L=tTx .rouse L from congrArg (tTx · L) e] at k
 have es:tstep L={ L.put (4*L.n+2) (1) with ts:=.clear }:=by unfold tstep;rw[e]
 rw[es] at k;refine⟨A,L.n,L.c,L.os,L.bk,L.gseen,L.tseen,ps,Gq,Tq,tl,lt,false,A.tk,rfl,.inr ⟨rfl,rfl⟩,hL,λH' z kz=>?_⟩;have p0:ps=[]:=by rw[ht.pa];exact if_pos (.inl (by rw[e];rfl))
 exact k H' A Tq ps z ⟨rfl,(λy=>↑27),(λy=>↑27),b9l (x:=.clear) ↑4 ↑4,(λy=>(nomatch (show Stg.clear=Stg.thing from y))),(by rw[p0];rfl),λ_=>ht.no (by rw[e];rfl)⟩ kz (Nx.refl A H)
theorem d4r(hL:↑5)(ok:Ok L)(ht:TRel L Tq ps)(e:L.ts=.clear)(k:↑14):a6w cl [.ref A.tk] H Q E:=by
 rw[show tT L=tTx .clear L from congrArg (tTx · L) e] at k
 have es:tstep L={ L.put (4*L.n+1) (-1) with ts:=.mute }:=by unfold tstep;rw[e]
 rw[es] at k;refine⟨A,L.n,L.c,L.os,L.bk,L.gseen,L.tseen,ps,Gq,Tq,tl,lt,false,A.tk,rfl,.inr ⟨rfl,rfl⟩,hL,λH' z kz=>?_⟩;have p0:ps=[]:=by rw[ht.pa];exact if_pos (.inl (by rw[e];rfl))
 exact k H' A Tq ps z ⟨rfl,(λy=>↑27),(λy=>↑27),b9l (x:=.mute) ↑4 ↑4,(λy=>(nomatch (show Stg.mute=Stg.thing from y))),(by rw[p0];rfl),λ_=>ht.no (by rw[e];rfl)⟩ kz (Nx.refl A H)
theorem d7u(hL:↑5)(ok:Ok L)(ht:TRel L Tq ps)(e:L.ts=.mute)(k:↑14):a9k cl [.ref A.tk] H Q E:=by
 rw[show tT L=tTx .mute L from congrArg (tTx · L) e] at k
 have es:tstep L={ L.put (4*L.n+3) (0) with ts:=.marks }:=by unfold tstep;rw[e]
 rw[es] at k;refine⟨A,L.n,L.c,L.os,L.bk,L.gseen,L.tseen,ps,Gq,Tq,tl,lt,false,A.tk,rfl,.inr ⟨rfl,rfl⟩,hL,λH' z kz=>?_⟩;have p0:ps=[]:=by rw[ht.pa];exact if_pos (.inl (by rw[e];rfl))
 exact k H' A Tq ps z ⟨rfl,(λy=>↑27),(λy=>↑27),b9l (x:=.marks) ↑4 ↑4,(λy=>(nomatch (show Stg.marks=Stg.thing from y))),(by rw[p0];rfl),λ_=>ht.no (by rw[e];rfl)⟩ kz (Nx.refl A H)
theorem d7x(hL:↑5)(ok:Ok L)(ht:TRel L Tq ps)(e:L.ts=.hush)(k:↑14):a9m cl [.ref A.tk] H Q E:=by
 rw[show tT L=tTx .hush L from congrArg (tTx · L) e] at k
 fail "d";have es:tstep L={ L.put (4*L.n+3) (0) with ts:=.unwish }:=by unfold tstep;rw[e]
 rw[es] at k;refine⟨A,L.n,L.c,L.os,L.bk,L.gseen,L.tseen,ps,Gq,Tq,tl,lt,false,A.tk,rfl,.inr ⟨rfl,rfl⟩,hL,λH' z kz=>?_⟩;exact k H' A Tq ps z ⟨rfl,λ_=>he0,λ_=>nf0,b9l (x:=.unwish) ↑4 ↑4,(λy=>(nomatch (show Stg.unwish=Stg.thing from y))),pa0,noC⟩ kz (Nx.refl A H)
theorem d0w(hL:↑5)(ok:Ok L)(ht:TRel L Tq ps)(e:L.ts=.unwish)(k:↑14):a4z cl [.ref A.tk] H Q E:=by
 rw[show tT L=tTx .unwish L from congrArg (tTx · L) e] at k
 fail "d";have es:tstep L={ L.put (4*L.n+1) (-1) with ts:=.look }:=by unfold tstep;rw[e]
 rw[es] at k;refine⟨A,L.n,L.c,L.os,L.bk,L.gseen,L.tseen,ps,Gq,Tq,tl,lt,false,A.tk,rfl,.inr ⟨rfl,rfl⟩,hL,λH' z kz=>?_⟩;exact k H' A Tq ps z ⟨rfl,λ_=>he0,λ_=>nf0,b9l (x:=.look) ↑4 ↑4,(λy=>(nomatch (show Stg.look=Stg.thing from y))),pa0,noC⟩ kz (Nx.refl A H)
theorem d4o(hL:↑5)(ok:Ok L)(ht:TRel L Tq ps)(e:L.ts=.sleep)(k:↑14):a6t cl [.ref A.tk] H Q E:=by
 rw[show tT L=tTx .sleep L from congrArg (tTx · L) e] at k
 fail "d";refine⟨A,L.n,L.c,L.os,L.bk,L.gseen,L.tseen,ps,Gq,Tq,tl,lt,false,A.tk,rfl,.inr ⟨rfl,rfl⟩,hL,λH' z kz=>?_⟩;by_cases y:L.c (4*L.n+3)=0
 ·have es:tstep L=L:=by unfold tstep;rw[e];exact if_pos y
  rw[es] at k;have st0:{ Tq with st:=a0a L.ts }=Tq:=by have:=ht.st;cases Tq;cases this;rfl
  have q:=k H' A Tq ps z (by rw[st0];exact ht) kz (Nx.refl A H)
  rw[e] at q;rw[show(if L.c (4*L.n+a5w false)=0 then ("sleep":Str) else "hush")="sleep" from if_pos y];exact q
 ·have es:tstep L={ L with ts:=.hush }:=by unfold tstep;rw[e];exact if_neg y
  rw[es] at k;rw[show(if L.c (4*L.n+a5w false)=0 then ("sleep":Str) else "hush")="hush" from if_neg y];exact k H' A Tq ps z ⟨rfl,λ_=>he0,λ_=>nf0,b9l (x:=.hush) ↑4 ↑4,(λy=>(nomatch (show Stg.hush=Stg.thing from y))),pa0,noC⟩ kz (Nx.refl A H)
theorem d7v(hL:↑5)(ok:Ok L)(ht:TRel L Tq ps)(e:L.ts=.look)(k:↑14):a9l cl [.ref A.tk] H Q E:=by
 rw[show tT L=tTx .look L from congrArg (tTx · L) e] at k
 fail "d";have w0:L.c (4*((((L.t % (2*L.n):Nat):Int) % (L.n:Int))).toNat)=a3g false L.n ((L.t % (2*L.n):Nat):Int) ↔ L.c (4*(L.t % L.n))=2*(lap L.n L.t:Int)+1:=by
  rw[k7];unfold a3g;rw[if_neg ↑4,a1z]
 refine⟨A,L.n,L.c,L.os,L.bk,L.gseen,L.tseen,ps,Gq,Tq,tl,lt,false,A.tk,_,rfl,.inr ⟨rfl,rfl⟩,hL,he0,tn.1,tn.2,λH' z kz=>?_⟩;rw[k7] at z;by_cases y:L.c (4*(L.t % L.n))=2*(lap L.n L.t:Int)+1
 ·have es:tstep L={ L with ts:=.number }:=by unfold tstep;rw[e];exact if_pos y
  rw[es] at k;rw[if_pos (w0.mpr y)];exact k H' A Tq ps z ⟨rfl,λ_=>he0,λ_=>nf0,b9l (x:=.number) ↑4 ↑4,(λy=>(nomatch (show Stg.number=Stg.thing from y))),pa0,noC⟩ kz (Nx.refl A H)
 ·have es:tstep L={ L with ts:=.wish }:=by unfold tstep;rw[e];exact if_neg y
  rw[es] at k;rw[if_neg λz=>y (w0.mp z)];exact k H' A Tq ps z ⟨rfl,λ_=>he0,λ_=>nf0,b9l (x:=.wish) ↑4 ↑4,(λy=>(nomatch (show Stg.wish=Stg.thing from y))),pa0,noC⟩ kz (Nx.refl A H)
theorem d4s(hL:↑5)(ok:Ok L)(ht:TRel L Tq ps)(e:L.ts=.again)(k:↑14):a6x cl [.ref A.tk] H Q E:=by
 rw[show tT L=tTx .again L from congrArg (tTx · L) e] at k
 fail "d";have w0:L.c (4*((((L.t % (2*L.n):Nat):Int) % (L.n:Int))).toNat)=a3g false L.n ((L.t % (2*L.n):Nat):Int) ↔ L.c (4*(L.t % L.n))=2*(lap L.n L.t:Int)+1:=by
  rw[k7];unfold a3g;rw[if_neg ↑4,a1z]
 refine⟨A,L.n,L.c,L.os,L.bk,L.gseen,L.tseen,ps,Gq,Tq,tl,lt,false,A.tk,_,rfl,.inr ⟨rfl,rfl⟩,hL,he0,tn.1,tn.2,λH' z kz=>?_⟩;rw[k7] at z;by_cases y:L.c (4*(L.t % L.n))=2*(lap L.n L.t:Int)+1
 ·have es:tstep L={ L with ts:=.unwish }:=by unfold tstep;rw[e];exact if_pos y
  rw[es] at k;rw[if_pos (w0.mpr y)];exact k H' A Tq ps z ⟨rfl,λ_=>he0,λ_=>nf0,b9l (x:=.unwish) ↑4 ↑4,(λy=>(nomatch (show Stg.unwish=Stg.thing from y))),pa0,noC⟩ kz (Nx.refl A H)
 ·have es:tstep L={ L with ts:=.sleep }:=by unfold tstep;rw[e];exact if_neg y
  rw[es] at k;rw[if_neg λz=>y (w0.mp z)];exact k H' A Tq ps z ⟨rfl,λ_=>he0,λ_=>nf0,b9l (x:=.sleep) ↑4 ↑4,(λy=>(nomatch (show Stg.sleep=Stg.thing from y))),pa0,noC⟩ kz (Nx.refl A H)
theorem d7s(hL:↑5)(ok:Ok L)(ht:TRel L Tq ps)(e:L.ts=.wish)(k:↑14):a9i cl [.ref A.tk] H Q E:=by
 rw[show tT L=tTx .wish L from congrArg (tTx · L) e] at k
 fail "d";have es:tstep L={ L.put (4*L.n+1) ((L.t % (2*L.n):Nat):Int) with ts:=.again }:=by unfold tstep;rw[e]
 rw[es] at k;refine⟨A,L.n,L.c,L.os,L.bk,L.gseen,L.tseen,ps,Gq,Tq,tl,lt,false,A.tk,_,rfl,.inr ⟨rfl,rfl⟩,hL,he0,tn.1,tn.2,λH' z kz=>?_⟩;exact k H' A Tq ps z ⟨rfl,λ_=>he0,λ_=>nf0,b9l (x:=.again) ↑4 ↑4,(λy=>(nomatch (show Stg.again=Stg.thing from y))),pa0,noC⟩ kz (Nx.refl A H)
theorem d0x(hL:↑5)(ok:Ok L)(ht:TRel L Tq ps)(e:L.ts=.number)(k:↑14):a0n cl [.ref A.tk] H Q E:=by
 rw[show tT L=tTx .number L from congrArg (tTx · L) e] at k
 fail "d";have tk:=ok.tk;have lies:=tk.lies (by rw[e];rfl)
 have ft:L.f<=L.t:=by have:=tk.ft;rw[e] at this;exact this
 have sp:=ok.core.slip L.t lies (.inr ft);have es:tstep L={ L with ts:=.left }:=by unfold tstep;rw[e]
 rw[es] at k;refine⟨A,L.n,L.c,L.os,L.bk,L.gseen,L.tseen,ps,Gq,Tq,tl,lt,_,rfl,hL,he0,tn.1,tn.2,λH' z kz=>?_⟩;rw[k7] at z;exact k H' A _ ps z ⟨rfl,λ_=>he0,λ_=>nf0,λ_=>sp.1,(λy=>(nomatch (show Stg.left=Stg.thing from y))),pa0,noC⟩ kz (Nx.refl A H)
theorem d7w(hL:↑5)(ok:Ok L)(ht:TRel L Tq ps)(e:L.ts=.left)(k:↑14):a1l cl [.ref A.tk] H Q E:=by
 rw[show tT L=tTx .left L from congrArg (tTx · L) e] at k
 fail "d";have tk:=ok.tk;have lies:=tk.lies (by rw[e];rfl)
 have ft:L.f<=L.t:=by have:=tk.ft;rw[e] at this;exact this
 have sp:=ok.core.slip L.t lies (.inr ft);have es:tstep L={ L with ts:=.thing }:=by unfold tstep;rw[e]
 rw[es] at k;refine⟨A,L.n,L.c,L.os,L.bk,L.gseen,L.tseen,ps,Gq,Tq,tl,lt,_,rfl,hL,he0,tn.1,tn.2,λH' z kz=>?_⟩;rw[k7] at z;exact k H' A _ ps z ⟨rfl,λ_=>he0,λ_=>nf0,λ_=>ht.nu (.inl e),λ_=>sp.2.1,pa0,noC⟩ kz (Nx.refl A H)
theorem b6l{os:List ↑26}{a k:Nat}:v4 os a (k+1)=v4 os a k++[x9 os (a+k)]:=by
 unfold v4;rw[List.range_succ,List.map_append]
 rfl
theorem d4n(hL:↑5)(ok:Ok L)(ht:TRel L Tq ps)(e:L.ts=.thing)(hb:L.bk.length<=400)(k:↑14):a0z cl [.ref A.tk] H Q E:=by
 rw[show tT L=tTx .thing L from congrArg (tTx · L) e] at k
 fail "d";have tk:=ok.tk;have lies:=tk.lies (by rw[e];rfl)
 have ft:L.f<=L.t:=by have:=tk.ft;rw[e] at this;exact this
 have sp:=ok.core.slip L.t lies (.inr ft);have gf:=ok.core.gf;have n8:=ok.core.n8;have nu0:=ht.nu (.inr e);have le0:=ht.le e;have pl:ps.length<=100:=by rw[pa0];unfold v4;rw[List.length_map,List.length_range];lia
 have th:ps++[L.c (4*((((L.t % (2*L.n):Nat):Int) % (L.n:Int))).toNat+3)]=v4 L.os L.f (L.t+1-L.f):=by
  rw[k7,sp.2.2,pa0,show L.t+1-L.f=(L.t-L.f)+1 by lia,b6l,show L.f+(L.t-L.f)=L.t by lia]
 refine⟨A,L.n,L.c,L.os,L.bk,L.gseen,L.tseen,ps,Gq,Tq,tl,lt,_,rfl,hL,he0,tn.1,tn.2,hb,pl,?_⟩;rw[th];by_cases y:0<j2 L.os L.t
 ·have es:tstep L={ L with ts:=.look,t:=L.t+1 }:=by unfold tstep;rw[e];exact if_pos y
  rw[es] at k;rw[if_pos (by rw[le0];lia)]
  intro H' z kz;rw[a0k,k7] at z;exact k H' A _ _ z ⟨rfl,λ_=>rfl,λ_=>nf0,b9l (x:=.look) ↑4 ↑4,(λy=>(nomatch (show Stg.look=Stg.thing from y))),rfl,noC⟩ kz (Nx.refl A H)
 ·have es:tstep L={ L with ts:=.free,bk:=if i8 L.os L.t=L.bk.length then L.bk++[v4 L.os L.f (L.t+1-L.f)] else L.bk }:=by unfold tstep;rw[e];exact if_neg y
  rw[es] at k;rw[if_neg (by rw[le0];lia)]
  intro p H' hp z kz;have eb:d3w L.bk Tq.nu (v4 L.os L.f (L.t+1-L.f))=if i8 L.os L.t=L.bk.length then L.bk++[v4 L.os L.f (L.t+1-L.f)] else L.bk:=by
   unfold d3w;rw[nu0];by_cases q:i8 L.os L.t=L.bk.length
   ·rw[if_pos q,if_pos ↑2]
   ·rw[if_neg q,if_neg ↑2]
  rw[eb,k7] at z;exact k H' _ Tq [] z ⟨rfl,λ_=>he0,λ_=>nf0,b9l (x:=.free) ↑4 ↑4,(λy=>(nomatch (show Stg.free=Stg.thing from y))),rfl,noC⟩ kz (Nx.pa hp)
theorem d7y(hL:↑5)(ok:Ok L)(ht:TRel L Tq ps)(e:L.ts=.free)(k:↑14):b3q cl [.ref A.tk] H Q E:=by
 rw[show tT L=tTx .free L from congrArg (tTx · L) e] at k
 have hn:0<L.n:=ok.hn;have he0:Tq.he=.int ((L.t % (2*L.n):Nat):Int):=ht.he (by rw[e];rfl)
 have tn:=a0l (i:=L.t) hn;have nf0:Tq.nf=.int ((L.f % (2*L.n):Nat):Int):=by have:=ht.nf (by rw[e];rfl);rw[e] at this;exact this
 have fn:=a0l (i:=L.f) hn;have p0:ps=[]:=by rw[ht.pa];exact if_pos (.inr (.inl e))
 have es:tstep L={ L.put (4*(L.f % L.n)) (2*(lap L.n L.f:Int)) with ts:=.card,f:=L.f+1 }:=by unfold tstep;rw[e]
 rw[es] at k;refine⟨A,L.n,L.c,L.os,L.bk,L.gseen,L.tseen,ps,Gq,Tq,tl,lt,_,rfl,hL,nf0,fn.1,fn.2,λH' z kz=>?_⟩;rw[k7,a1z,Nat.add_zero,Int.add_zero] at z;exact k H' A Tq ps z ⟨rfl,λ_=>he0,λ_=>nf0,b9l (x:=.card) ↑4 ↑4,(λy=>(nomatch (show Stg.card=Stg.thing from y))),p0,noC⟩ kz (Nx.refl A H)
theorem d7z(hL:↑5)(ok:Ok L)(ht:TRel L Tq ps)(e:L.ts=.card)(k:↑14):a9n cl [.ref A.tk] H Q E:=by
 rw[show tT L=tTx .card L from congrArg (tTx · L) e] at k
 have hn:0<L.n:=ok.hn;have he0:Tq.he=.int ((L.t % (2*L.n):Nat):Int):=ht.he (by rw[e];rfl)
 have tn:=a0l (i:=L.t) hn;have fp:0<L.f:=ok.tk.pos (by rw[e];rfl)
 have nf0:Tq.nf=.int (((L.f-1) % (2*L.n):Nat):Int):=by have:=ht.nf (by rw[e];rfl);rw[e] at this;exact this
 have fn:=a0l (i:=L.f-1) hn;have p0:ps=[]:=by rw[ht.pa];exact if_pos (.inr (.inr (by rw[e];rfl)))
 have lst:=ok.tk.last (.inr (by rw[e];rfl))
 have ft:L.f<=L.t+1:=by have:=ok.tk.ft;rw[e] at this;exact this
 have gf:=ok.core.gf;have eqt:(((L.f-1) % (2*L.n):Nat):Int)=((L.t % (2*L.n):Nat):Int) ↔ L.f=L.t+1:=by
  constructor
  ·intro z
   have:=c0b (n:=L.n) (i:=L.f-1) (j:=L.t) ↑2 ↑2 ↑2 hn;lia
  ·intro z
   rw[z]
   rfl
 have eqn:(((L.f-1+1) % (2*L.n):Nat):Int)=((L.f % (2*L.n):Nat):Int):=by rw[show L.f-1+1=L.f by lia]
 refine .inr ⟨A,L.n,L.c,L.os,L.bk,L.gseen,L.tseen,ps,Gq,Tq,tl,lt,_,_,rfl,hL,he0,nf0,fn.1,fn.2,?_⟩;rw[c2p,Nat.add_zero];by_cases y:L.c (4*L.n)=(((L.f-1+L.n) % (2*L.n):Nat):Int)
 ·have es:tstep L={ L with ts:=.ring }:=by unfold tstep;rw[e];exact if_pos y
  rw[es] at k;rw[if_pos y];intro H' z kz;exact k H' A Tq ps z ⟨rfl,λ_=>he0,λ_=>nf0,b9l (x:=.ring) ↑4 ↑4,(λy=>(nomatch (show Stg.ring=Stg.thing from y))),p0,noC⟩ kz (Nx.refl A H)
 ·have e0:tstep L=a2q L:=by unfold tstep;rw[e];exact if_neg y
  rw[e0] at k;rw[if_neg y];intro H' z kz;by_cases y2:L.f=L.t+1
  ·have es:a2q L={ L with ts:=.look,t:=L.f }:=by unfold a2q;exact if_pos y2
   rw[es] at k;rw[if_pos (eqt.mpr y2)] at z ⊢;rw[a0k,eqn] at z;exact k H' A _ ps z ⟨rfl,λ_=>rfl,λ_=>rfl,b9l (x:=.look) ↑4 ↑4,(λy=>(nomatch (show Stg.look=Stg.thing from y))),by rw[p0];show[]=v4 L.os L.f (L.f-L.f);rw[Nat.sub_self];rfl,noC⟩ kz (Nx.refl A H)
  ·have es:a2q L={ L with ts:=.free }:=by unfold a2q;exact if_neg y2
   rw[es] at k;rw[if_neg λq=>y2 (eqt.mp q)] at z ⊢;rw[a0k,eqn] at z;exact k H' A _ ps z ⟨rfl,λ_=>he0,λ_=>rfl,b9l (x:=.free) ↑4 ↑4,(λy=>(nomatch (show Stg.free=Stg.thing from y))),p0,noC⟩ kz (Nx.refl A H)
theorem d7t(hL:↑5)(ok:Ok L)(ht:TRel L Tq ps)(e:L.ts=.ring)(k:↑14):a9j cl [.ref A.tk] H Q E:=by
 rw[show tT L=tTx .ring L from congrArg (tTx · L) e] at k
 have hn:0<L.n:=ok.hn;have he0:Tq.he=.int ((L.t % (2*L.n):Nat):Int):=ht.he (by rw[e];rfl)
 have tn:=a0l (i:=L.t) hn;have fp:0<L.f:=ok.tk.pos (by rw[e];rfl)
 have nf0:Tq.nf=.int (((L.f-1) % (2*L.n):Nat):Int):=by have:=ht.nf (by rw[e];rfl);rw[e] at this;exact this
 have fn:=a0l (i:=L.f-1) hn;have p0:ps=[]:=by rw[ht.pa];exact if_pos (.inr (.inr (by rw[e];rfl)))
 have lst:=ok.tk.last (.inr (by rw[e];rfl))
 have ft:L.f<=L.t+1:=by have:=ok.tk.ft;rw[e] at this;exact this
 have gf:=ok.core.gf;have eqt:(((L.f-1) % (2*L.n):Nat):Int)=((L.t % (2*L.n):Nat):Int) ↔ L.f=L.t+1:=by
  constructor
  ·intro z
   have:=c0b (n:=L.n) (i:=L.f-1) (j:=L.t) ↑2 ↑2 ↑2 hn;lia
  ·intro z
   rw[z]
   rfl
 have eqn:(((L.f-1+1) % (2*L.n):Nat):Int)=((L.f % (2*L.n):Nat):Int):=by rw[show L.f-1+1=L.f by lia]
 refine .inr ⟨A,L.n,L.c,L.os,L.bk,L.gseen,L.tseen,ps,Gq,Tq,tl,lt,_,_,rfl,hL,he0,nf0,fn.1,fn.2,λH' z kz=>?_⟩;have e0:tstep L=a2q (L.put (4*L.n+2) 1):=by unfold tstep;rw[e]
 rw[e0] at k
 ·skip
  by_cases y2:L.f=L.t+1
  ·have es:a2q (L.put (4*L.n+2) 1)={ (L.put (4*L.n+2) 1) with ts:=.look,t:=L.f }:=by unfold a2q;exact if_pos y2
   rw[es] at k;rw[if_pos (eqt.mpr y2)] at z ⊢;rw[a0k,eqn] at z;exact k H' A _ ps z ⟨rfl,λ_=>rfl,λ_=>rfl,b9l (x:=.look) ↑4 ↑4,(λy=>(nomatch (show Stg.look=Stg.thing from y))),by rw[p0];show[]=v4 L.os L.f (L.f-L.f);rw[Nat.sub_self];rfl,noC⟩ kz (Nx.refl A H)
  ·have es:a2q (L.put (4*L.n+2) 1)={ (L.put (4*L.n+2) 1) with ts:=.free }:=by unfold a2q;exact if_neg y2
   rw[es] at k;rw[if_neg λq=>y2 (eqt.mp q)] at z ⊢;rw[a0k,eqn] at z;exact k H' A _ ps z ⟨rfl,λ_=>he0,λ_=>rfl,b9l (x:=.free) ↑4 ↑4,(λy=>(nomatch (show Stg.free=Stg.thing from y))),p0,noC⟩ kz (Nx.refl A H)
theorem d4q(hL:↑5)(ok:Ok L)(ht:TRel L Tq ps)(e:L.ts=.marks)(k:↑14):a6v cl [.ref A.tk] H Q E:=by
 rw[show tT L=tTx .marks L from congrArg (tTx · L) e] at k
 have hn:0<L.n:=ok.hn;have n2:=ok.core.n2;have n8:=ok.core.n8;have sl:=ok.tk.seen.1;have sg:=ok.tk.seen.2;have p0:ps=[]:=by rw[ht.pa];exact if_pos (.inl (by rw[e];rfl))
 refine .inr ⟨A,L.n,L.c,L.os,L.bk,L.gseen,L.tseen,ps,Gq,Tq,tl,lt,rfl,hL,sl,?_⟩;by_cases y:L.tseen.length+1<L.n
 ·have es:tstep L={ L with tseen:=L.tseen++[L.c (4*L.tseen.length)] }:=by unfold tstep;rw[e];exact if_pos y
  rw[es] at k;rw[if_pos y];intro p H' hp z kz;have q:=k H' (A.setMt p) Tq ps z ⟨(by rw[e]),(λy=>by rw[e] at y;cases y),(λy=>by rw[e] at y;cases y),(λy=>by rw[e] at y;rcases y with y|y <;> cases y),(λy=>by rw[e] at y;cases y),(by rw[p0,e];rfl),ht.no⟩ kz Nx.ofMt
  have e3:a0a L.ts="marks":=by rw[e];rfl
  change Q (.str (a0a L.ts)) H' at q;rw[e3] at q;exact q
 ·have es:tstep L={ L with tseen:=[],ts:=.look }:=by unfold tstep;rw[e];exact if_neg y
  rw[es] at k;rw[if_neg y];have tf:=ok.tk.come (.inr (.inr (.inr e)));have all:∀(q:Nat)(m:Int),(L.tseen++[L.c (4*L.tseen.length)])[q]?=some m->(if m / 2≠m % 2 then (1:Int) else 0)=(b6d L.n L.f q:Int)/\0<=m/\m<=3:=λq m h=>by
   rcases b6f h with ⟨_,z⟩|⟨rfl,rfl⟩
   ·exact sg q m z
   ·exact⟨ok.core.mks.sides hn ok.core.fg ok.core.gf sl,ok.core.mks.range hn sl⟩
  refine⟨L.f % (2*L.n),d0z λq m h=>(all q m h).2,?_,λp H' hp z kz=>?_⟩
  ·rw[b1v hn (by rw[List.length_map,List.length_append];show L.tseen.length+1=L.n;lia) (λq m h=>?_),a9t n2 n8 (b6j hn)]
   rw[List.getElem?_map] at h;cases e2:(L.tseen++[L.c (4*L.tseen.length)])[q]? with
   | none=>rw[e2] at h;cases h
   | some m'=>
    rw[e2] at h;cases h;rw[<- (all q m' e2).1];unfold tbI;by_cases z:m' / 2=m' % 2
    ·rw[if_pos z,if_neg ↑2]
    ·rw[if_neg z,if_pos z]
  ·refine k H' (A.setMt p) _ ps z ⟨rfl,λ_=>by rw[tf],λ_=>rfl,b9l (x:=.look) ↑4 ↑4,(λy=>(nomatch (show Stg.look=Stg.thing from y))),?_,noC⟩ kz Nx.ofMt
   rw[p0];show[]=v4 L.os L.f (L.t-L.f);rw[tf,Nat.sub_self]
   rfl
end
end
end
section
open PySem PySem.Spec L2 Pr
section
variable{P:Program}{w:World}{K:Frag}{mg:Str->Option Value}{base:Heap}{cl:Cl}
structure DT(P:Program)(w:World)(K:↑28)(mg:Str->Option Value)(base:Heap)(d:Addr)(k:Nat)(l:List (Str×Sp)):Prop where
 ex:∃kvs,KDict P w K d kvs/\(∀x sp,(x,sp)∈l->∃f ps,valueAt kvs x=some (.ref f)/\FnV P w K mg base f k ps sp)/\∀x,x ∉ l.map (·.1)->valueAt kvs x=none
noncomputable def c4v(cl:Cl):List (Str×Sp):=[("rouse",a6u cl),("clear",a6w cl),("mute",a9k cl),("marks",a6v cl),("look",a9l cl),("wish",a9i cl),("again",a6x cl),("sleep",a6t cl),("hush",a9m cl),("unwish",a4z cl),("card",a9n cl),("ring",a9j cl)]
noncomputable def b7z:List Str:=["rouse","clear","mute","marks","look","wish","again","sleep","hush","unwish","card","ring"]
theorem a3f{x:Str}(h:x ∉ b7z):x ∉ (c4v cl).map (·.1):=h
noncomputable def e3p(cl:Cl):List (Str×Sp):=[("told",b3o cl),("lacks",b0r cl),("number",a0o cl),("left",a1m cl),("thing",a1a cl),("mark",b3p cl)]
noncomputable def e3o(cl:Cl):List (Str×Sp):=[("number",a0n cl),("left",a1l cl),("thing",a0z cl),("free",b3q cl)]
def a5z(cl:Cl):Sp:=λvs H Q E=>ExL λA n c os bk gs ts ps Gq Tq tl lt=>∃(sp:Sp),vs=[.ref A.gv]/\↑905/\(Gq.st,sp)∈e3p cl/\sp [.ref A.gv] H Q E
noncomputable abbrev a3v:Stmt:=m8 (top 88) 17
theorem a6e:g2 ["self","deed"] ["self"] (d7 a3v):=↑1
theorem b4r(D:DefM K cl.Giver "own_deed" "Giver.own_deed" a3v ["self"])(T:↑18)(O:DT P w K mg base cl.d_DEEDS_giver 5 (e3p cl)):↑902 "own_deed" 6 ["self"] (a5z cl):=by
 refine D.fn a6e ↑7 ↑3
 ·obtain⟨A,n,c,os,bk,gs,ts,ps,Gq,Tq,tl,lt,sp,rfl,hL,hm,k⟩:=h
  refine⟨_,(b9 (i6 (i:=1) a6e.nd rfl ↑23 (l7 (d5x (K:=K)) (a7h T.r_DEEDS_giver rfl) ↑6 ↑10))
   (d5 (i9 (b6g (k:=5) (i:=1) rfl (Or.inl rfl) hr ↑4 g4 ↑16)))),?_⟩
  obtain⟨dx,ex⟩:=hL.gv;obtain⟨kvs,kd,hv,_⟩:=O.ex;obtain⟨fa,pn,e1,F⟩:=hv _ _ hm;fail "";refine⟨cl.d_DEEDS_giver,_,kvs,_,.ref fa,rfl,rfl,kd,e1,rfl,?_⟩;fail "";refine⟨fa,pn,sp,rfl,F,?_⟩;fail "";exact k
def a5y(cl:Cl):Sp:=λvs H Q E=>ExL λA n c os bk gs ts ps Gq Tq tl lt=>∃(sp:Sp),vs=[.ref A.tk]/\↑905/\(Tq.st,sp)∈e3o cl/\sp [.ref A.tk] H Q E
noncomputable abbrev a3u:Stmt:=m8 (top 98) 11
theorem a6d:g2 ["self","deed"] ["self"] (d7 a3u):=↑1
theorem b4q(D:DefM K cl.Taker "own_deed" "Taker.own_deed" a3u ["self"])(T:↑18)(O:DT P w K mg base cl.d_DEEDS_taker 5 (e3o cl)):↑903 "own_deed" 6 ["self"] (a5y cl):=by
 refine D.fn a6d ↑7 ↑3
 ·obtain⟨A,n,c,os,bk,gs,ts,ps,Gq,Tq,tl,lt,sp,rfl,hL,hm,k⟩:=h
  refine⟨_,(b9 (i6 (i:=1) a6d.nd rfl ↑23 (l7 (d5x (K:=K)) (a7h T.r_DEEDS_taker rfl) ↑6 ↑10))
   (d5 (i9 (b6g (k:=5) (i:=1) rfl (Or.inl rfl) hr ↑4 g4 ↑16)))),?_⟩
  obtain⟨dx,ex⟩:=hL.tk;obtain⟨kvs,kd,hv,_⟩:=O.ex;obtain⟨fa,pn,e1,F⟩:=hv _ _ hm;fail "";refine⟨cl.d_DEEDS_taker,_,kvs,_,.ref fa,rfl,rfl,kd,e1,rfl,?_⟩;fail "";refine⟨fa,pn,sp,rfl,F,?_⟩;fail "";exact k
section
variable{H:Hp}{A:Ad}{L:Ln}{ps:List Int}{Gq:Gm}{Tq:Tm}{tl:List Tr}{lt:Lt}
theorem e3d(hL:↑5)(ok:Ok L)(hg:GRel L Gq)(hp:L.gs=.look->L.g<tot L.os):
  (∃sp,(Gq.st,sp)∈c4v cl/\∀Q E,e0b cl H A L (gstep L) ps Tq tl (lt.tch (gT L)) Q->sp [.ref A.gv] H Q E)\/(Gq.st ∉ (c4v cl).map (·.1)/\∃sp,(Gq.st,sp)∈e3p cl/\∀Q E,e0b cl H A L (gstep L) ps Tq tl (lt.tch (gT L)) Q->sp [.ref A.gv] H Q E):=by
 rw[hg.st];cases e:L.gs with
 | rouse=>exact .inl ⟨_,.head _,λQ E k=>d6e hL ok hg e k⟩
 | clear=>exact .inl ⟨_,.tail _ (.head _),λQ E k=>d6h hL ok hg e k⟩
 | mute=>exact .inl ⟨_,.tail _ (.tail _ (.head _)),λQ E k=>d9l hL ok hg e k⟩
 | marks=>exact .inl ⟨_,.tail _ (.tail _ (.tail _ (.head _))),λQ E k=>d6f hL ok hg e k⟩
 | look=>exact .inl ⟨_,.tail _ (.tail _ (.tail _ (.tail _ (.head _)))),λQ E k=>d9n hL ok hg e (hp e) k⟩
 | wish=>exact .inl ⟨_,.tail _ ↑17,λQ E k=>d9i hL ok hg e k⟩
 | again=>exact .inl ⟨_,.tail _ (.tail _ ↑17),λQ E k=>d6i hL ok hg e k⟩
 | sleep=>exact .inl ⟨_,.tail _ (.tail _ (.tail _ ↑17)),λQ E k=>d6d hL ok hg e k⟩
 | hush=>exact .inl ⟨_,.tail _ (.tail _ (.tail _ (.tail _ ↑17))),λQ E k=>d9p hL ok hg e k⟩
 | unwish=>exact .inl ⟨_,.tail _ (.tail _ (.tail _ (.tail _ (.tail _ ↑17)))),λQ E k=>d3b hL ok hg e k⟩
 | card=>exact .inl ⟨_,.tail _ (.tail _ (.tail _ (.tail _ (.tail _ (.tail _ ↑17))))),λQ E k=>d9q hL ok hg e k⟩
 | ring=>exact .inl ⟨_,.tail _ (.tail _ (.tail _ (.tail _ (.tail _ (.tail _ (.tail _ ↑17)))))),λQ E k=>d9k hL ok hg e k⟩
 | told=>exact .inr ⟨a3f (show("told":Str) ∉ b7z by decide),_,.head _,λQ E k=>d9j hL ok hg e k⟩
 | lacks=>exact .inr ⟨a3f (show("lacks":Str) ∉ b7z by decide),_,.tail _ (.head _),λQ E k=>d6g hL ok hg e k⟩
 | number=>exact .inr ⟨a3f (show("number":Str) ∉ b7z by decide),_,.tail _ (.tail _ (.head _)),λQ E k=>d3c hL ok hg e k⟩
 | left=>exact .inr ⟨a3f (show("left":Str) ∉ b7z by decide),_,.tail _ (.tail _ (.tail _ (.head _))),λQ E k=>d9o hL ok hg e k⟩
 | thing=>exact .inr ⟨a3f (show("thing":Str) ∉ b7z by decide),_,.tail _ (.tail _ (.tail _ (.tail _ (.head _)))),λQ E k=>d6c hL ok hg e k⟩
 | mark=>exact .inr ⟨a3f (show("mark":Str) ∉ b7z by decide),_,.tail _ ↑17,λQ E k=>d9m hL ok hg e k⟩
 | free=>exact absurd e ok.gv.st
theorem e0n(hL:↑5)(ok:Ok L)(ht:TRel L Tq ps)(hb:L.bk.length<=400):
  (∃sp,(Tq.st,sp)∈c4v cl/\∀Q E,e0a cl H A L (tstep L) Gq tl (lt.tch (tT L)) Q->sp [.ref A.tk] H Q E)\/(Tq.st ∉ (c4v cl).map (·.1)/\∃sp,(Tq.st,sp)∈e3o cl/\∀Q E,e0a cl H A L (tstep L) Gq tl (lt.tch (tT L)) Q->sp [.ref A.tk] H Q E):=by
 rw[ht.st];cases e:L.ts with
 | rouse=>exact .inl ⟨_,.head _,λQ E k=>d4p hL ok ht e k⟩
 | clear=>exact .inl ⟨_,.tail _ (.head _),λQ E k=>d4r hL ok ht e k⟩
 | mute=>exact .inl ⟨_,.tail _ (.tail _ (.head _)),λQ E k=>d7u hL ok ht e k⟩
 | marks=>exact .inl ⟨_,.tail _ (.tail _ (.tail _ (.head _))),λQ E k=>d4q hL ok ht e k⟩
 | look=>exact .inl ⟨_,.tail _ (.tail _ (.tail _ (.tail _ (.head _)))),λQ E k=>d7v hL ok ht e k⟩
 | wish=>exact .inl ⟨_,.tail _ ↑17,λQ E k=>d7s hL ok ht e k⟩
 | again=>exact .inl ⟨_,.tail _ (.tail _ ↑17),λQ E k=>d4s hL ok ht e k⟩
 | sleep=>exact .inl ⟨_,.tail _ (.tail _ (.tail _ ↑17)),λQ E k=>d4o hL ok ht e k⟩
 | hush=>exact .inl ⟨_,.tail _ (.tail _ (.tail _ (.tail _ ↑17))),λQ E k=>d7x hL ok ht e k⟩
 | unwish=>exact .inl ⟨_,.tail _ (.tail _ (.tail _ (.tail _ (.tail _ ↑17)))),λQ E k=>d0w hL ok ht e k⟩
 | card=>exact .inl ⟨_,.tail _ (.tail _ (.tail _ (.tail _ (.tail _ (.tail _ ↑17))))),λQ E k=>d7z hL ok ht e k⟩
 | ring=>exact .inl ⟨_,.tail _ (.tail _ (.tail _ (.tail _ (.tail _ (.tail _ (.tail _ ↑17)))))),λQ E k=>d7t hL ok ht e k⟩
 | number=>exact .inr ⟨a3f (show("number":Str) ∉ b7z by decide),_,.head _,λQ E k=>d0x hL ok ht e k⟩
 | left=>exact .inr ⟨a3f (show("left":Str) ∉ b7z by decide),_,.tail _ (.head _),λQ E k=>d7w hL ok ht e k⟩
 | thing=>exact .inr ⟨a3f (show("thing":Str) ∉ b7z by decide),_,.tail _ (.tail _ (.head _)),λQ E k=>d4n hL ok ht e hb k⟩
 | free=>exact .inr ⟨a3f (show("free":Str) ∉ b7z by decide),_,.tail _ (.tail _ (.tail _ (.head _))),λQ E k=>d7y hL ok ht e k⟩
 | told=>exact absurd e ok.tk.st.1
 | lacks=>exact absurd e ok.tk.st.2.1
 | mark=>exact absurd e ok.tk.st.2.2
end
noncomputable def c8k(tl:List Tr):Lt:=⟨(tl.length:Int),tl.getLast?.map (·.2)⟩
theorem b6h(tl:List Tr)(b:Bool)(t:Tc):c8k (tl++[(b,t)])=(c8k tl).tch t:=by
 unfold c8k Lt.tch;rw[List.length_append,List.getLast?_append];simp
def LR(cl:Cl)(H:Hp)(A:Ad)(L:Ln)(tl:List Tr):Prop:=∃ps Gq Tq,∃_u:Unit,LH cl H A L.n L.c L.os L.bk L.gseen L.tseen ps Gq Tq tl (c8k tl)/\GRel L Gq/\TRel L Tq ps/\Ok L
theorem KpA.updE{A:Ad}{H:Hp}{j:Nat}{x:Addr}{o:HO}(h:x=A.o j)(hj:j<8):KpA A H (L2.upd H x o):=h ▸ KpA.upd hj
noncomputable def a6m(b:Bool)(L:Ln):Ln:=if b then gstep L else tstep L
noncomputable def a4b(b:Bool)(L:Ln):Bool:=b && (decide (L.gs=.look) && decide (tot L.os<=L.g))
noncomputable def c5k(b:Bool)(L:Ln):Tc:=if b then gT L else tT L
noncomputable def trB(b:Bool)(L:Ln)(tl:List Tr):List Tr:=if a4b b L then tl else tl++[(b,c5k b L)]
theorem c0e{b:Bool}{L:Ln}{tl:List Tr}(h:a4b b L=true):trB b L tl=tl:=if_pos h
theorem b4x{b:Bool}{L:Ln}{tl:List Tr}(h:a4b b L=false):trB b L tl=tl++[(b,c5k b L)]:=if_neg (by rw[h];decide)
theorem d0t(b:Bool)(L:Ln)(tl:List Tr):tl.length<=(trB b L tl).length/\(trB b L tl).length<=tl.length+1:=by
 unfold trB;split
 ·lia
 ·rw[List.length_append];exact⟨by lia,Nat.le_refl _⟩
theorem a1c(L:Ln):(gstep L).n=L.n/\(gstep L).os=L.os/\(gstep L).bk=L.bk/\(gstep L).tseen=L.tseen/\(gstep L).ts=L.ts/\(gstep L).f=L.f/\(gstep L).t=L.t:=by
 unfold gstep;cases L.gs <;> dsimp only <;> (repeat' split) <;> exact⟨rfl,rfl,rfl,rfl,rfl,rfl,rfl⟩
theorem a0x(L:Ln):(tstep L).n=L.n/\(tstep L).os=L.os/\(tstep L).gseen=L.gseen/\(tstep L).gs=L.gs/\(tstep L).g=L.g:=by
 unfold tstep a2q;cases L.ts <;> dsimp only <;> (repeat' split) <;> exact⟨rfl,rfl,rfl,rfl,rfl⟩
theorem TRel.gstep{L:Ln}{Tq:Tm}{ps:List Int}(h:TRel L Tq ps):TRel (gstep L) Tq ps:=by
 obtain⟨n,os,_,_,ts,f,t⟩:=a1c L;exact⟨by rw[ts];exact h.st,by rw[ts,t,n];exact h.he,by rw[ts,f,n];exact h.nf,by rw[ts,os,t];exact h.nu,by rw[ts,os,t];exact h.le,by rw[ts,os,f,t];exact h.pa,by rw[ts];exact h.no⟩
theorem GRel.tstep{L:Ln}{Gq:Gm}(h:GRel L Gq):GRel (tstep L) Gq:=by
 obtain⟨n,os,_,gs,g⟩:=a0x L;have gi':gi (Pr.tstep L)=gi L:=by unfold gi;rw[gs,g]
 exact⟨by rw[gs];exact h.st,by rw[gs,gi',n];exact h.he,by rw[gs,gi',os];exact h.nu,by rw[gs,gi',os];exact h.le,by rw[gs];exact h.no⟩
theorem d1f{L:Ln}{Gq:Gm}(ok:Ok L)(hg:GRel L Gq):(Gq.st="look"->b0f L.os Gq.nu Gq.le)/\(decide (Gq.st="look") && !b4t L.os Gq.nu Gq.le)=a4b true L:=by
 by_cases e:L.gs=.look
 ·have g0:gi L=L.g:=d3a e ↑4
  have nu0:Gq.nu=n5 L.os L.g:=by rw[<- g0];exact hg.nu (by rw[e];decide) (by rw[e];decide)
  have le0:Gq.le=v7 L.os L.g:=by rw[<- g0];exact hg.le (by rw[e];decide) (by rw[e];decide) (by rw[e];decide)
  have s0:Gq.st="look":=by rw[hg.st,e];rfl
  rw[nu0,le0];refine⟨λ_=>a9r (n:=L.n) ok.core.gt,?_⟩;unfold a4b;rw[s0,e,d0j ok.core.good ok.core.gt];by_cases y:L.g<tot L.os
  ·rw[decide_eq_true y,decide_eq_false (p:=tot L.os<=L.g) ↑2];rfl
  ·rw[decide_eq_false y,decide_eq_true (p:=tot L.os<=L.g) ↑2];rfl
 ·have s0:Gq.st≠"look":=by
   rw[hg.st];intro z;apply e;cases q:L.gs <;> rw[q] at z <;> first|rfl|exact absurd z ↑4
  refine⟨λz=>absurd z s0,?_⟩;unfold a4b;rw[decide_eq_false s0,decide_eq_false e]
  rfl
theorem b4m{L:Ln}(h:a4b true L=true):gstep L=L:=by
 unfold a4b at h;rw[Bool.true_and,Bool.and_eq_true,decide_eq_true_eq,decide_eq_true_eq] at h;unfold gstep;rw[h.1];exact if_neg ↑2
noncomputable abbrev a4s:Stmt:=m8 (top 72) 4
theorem a5g:g2 ["self","deed"] ["self"] (d7 a4s):=↑1
theorem c1v(D:DefM K cl.Giver "step" "Hand.step" a4s ["self"])(T:↑18)(GR:↑902 "resting" 4 ["self"] (a7k cl))(O:DT P w K mg base cl.d_DEEDS_hand 7 (c4v cl))(GO:↑902 "own_deed" 6 ["self"] (a5z cl))(G_Board_last_touch:↑904 cl.Board "last_touch" 1 ["self"] (a0g cl)):↑902 "step" 8 ["self"] (λvs H Q E=>∃(A:Ad)(L:Ln)(tl:List Tr),vs=[.ref A.gv]/\LR cl H A L tl/\L.os.length<=400/\tl.length<=4000000/\∀H' A',LR cl H' A' (a6m true L) (trB true L tl)->KpA A H H'->Nx A A' H->Q (.bl (!a4b true L)) H'):=by
 refine D.fn a5g ↑7 ↑3
 ·obtain⟨A,L,tl,rfl,⟨ps,Gq,Tq,lt,hL,hg,ht,ok⟩,os4,tl5,k⟩:=h
  refine⟨_,(b9 (m4 (a6h ↑44)
     ↑37
     m3)
   (b9 (m4 (g9 (d2c (K:=K)) ↑6 (a7h T.r_DEEDS_hand rfl) (by with_unfolding_all rfl))
     (
     b9 (i6 (i:=1) a5g.nd rfl ↑23 (l7 (d5x (K:=K)) (a7h T.r_DEEDS_hand rfl) ↑6 ↑10))
     (d5 (j3 (K:=K) (pv 0) (b6g (k:=7) (i:=1) rfl (Or.inl rfl) hr ↑4 g4 ↑16))))
     (d5 (j3 (K:=K) (pv 0) (a0h (k:=6) (pv 0) hr ↑4 g4))))
   (b9 (i3 (n9 (K:=K) ↑6 (a9 (g7 (op_catTK (K:=K)) (a5j ↑45) (c8a ↑6 T.k_Board G_Board_last_touch hr ↑4 g4)) d9)))
   ↑37))),?_⟩
  obtain⟨dx,ex⟩:=hL.gv;obtain⟨kvs,kd,hv,hno⟩:=O.ex;fail "e";refine⟨A.gv,cl.Giver,dx,_,_,_,rfl,ex,rfl,T.k_Giver,GR,?_⟩;fail "";refine⟨A,_,_,_,_,_,_,ps,Gq,Tq,tl,_,rfl,hL,(d1f ok hg).1,?_⟩;rw[(d1f ok hg).2];fail "";refine d3g (λy=>?_) (λy=>?_)
  ·fail ""
   have q:=k H A (by rw[c0e y,show a6m true L=L from b4m y];exact⟨ps,Gq,Tq,lt,hL,hg,ht,ok⟩) (λ_ _ e _=>e) (Nx.refl A H)
   rw[y] at q;exact q
  have nr:L.gs=.look->L.g<tot L.os:=λz=>by
   unfold a4b at y;rw[z,Bool.true_and] at y;have:¬ tot L.os<=L.g:=λz2=>by rw[decide_eq_true z2] at y;cases y
   lia
  rcases e3d hL ok hg nr with ⟨sp,hm,hd⟩|⟨hn,sp,hm,hd⟩
  ·obtain⟨fa,pn,e1,F⟩:=hv _ _ hm
   fail "";refine⟨cl.d_DEEDS_hand,_,kvs,rfl,rfl,kd,?_⟩;rw[e1];refine⟨true,rfl,?_⟩;rw[if_pos rfl];fail "";refine⟨cl.d_DEEDS_hand,_,kvs,_,.ref fa,rfl,rfl,kd,e1,rfl,?_⟩;fail "";refine⟨fa,pn,sp,rfl,F,?_⟩;fail "";refine hd _ _ λH1 A1 Gq1 z1 z2 z3 z4=>?_;have ea:A.gv=A1.gv:=(z4.1 2 ↑2).symm;have e4:A1.kt=A.kt:=z4.1 4 ↑2;obtain⟨dx1,ex1⟩:=z1.gv;obtain⟨xs,ext,lxs,_⟩:=z1.tr;have lxm:(xs.map V.ref).length=tl.length:=by rw[List.length_map];exact lxs
   have n24:A1.kt≠A.gv:=by rw[ea];exact z1.nd 4 2 ↑2 ↑2 ↑2
   have z5:LH cl (upd H1 A.gv (gvO cl dx1 A1 { Gq1 with st:=a0a (gstep L).gs })) A1 L.n (gstep L).c L.os L.bk (gstep L).gseen L.tseen ps { Gq1 with st:=a0a (gstep L).gs } Tq tl ((c8k tl).tch (gT L)):=by rw[ea];exact z1.setG
   rw[<- ea] at ex1;fail "";refine⟨by decide,λp hp=>?_⟩
   have z6:=z5.same (g3 (o:=.tup [.str "giver"]) hp);obtain⟨many,last,hB,hLt⟩:=z6.brd;obtain⟨tt,rfl,nt,ett⟩:=hLt.2.2 _ rfl;obtain⟨⟨dxb,eb⟩,_⟩:=id hB;fail "";refine⟨A1.bd,A1.l,L.n,_,many,.ref tt,rfl,hB,?_⟩;fail "";refine⟨p,tt,_,_,rfl,rfl,SqT.of d6,SqT.of ett,(λz=>(nomatch z)),(show 1+3<=sizeLine by decide),(λz=>(nomatch z)),λ_ p2 hp2=>?_⟩
   have z7:=(z6.same (g3 (o:=.tup ([.str "giver"]++[.str (gT L).d,.int (gT L).k,.int (gT L).x])) hp2));have h60:5000000<=sizeLine:=by decide
   have np:A1.kt≠p:=λz=>by rw[<- z,c9 n24,ext] at hp;cases hp
   have np2:A1.kt≠p2:=λz=>by rw[<- z,c9 np,c9 n24,ext] at hp2;cases hp2
   fail "";have z8:=z7.setTr (t:=(true,gT L)) (by rw[c9 np2,c9 np,c9 n24];exact ext) (z6.off hp2) (z6.nfo hp2) d6
   have q:=k _ A1 (by rw[b4x y];exact⟨ps,_,Tq,lt,(by obtain⟨sn,so,sb,st,_⟩:=a1c L;show LH cl _ A1 (gstep L).n (gstep L).c (gstep L).os (gstep L).bk (gstep L).gseen (gstep L).tseen _ _ _ (tl++[(true,gT L)]) (c8k (tl++[(true,gT L)]));rw[sn,so,sb,st,b6h];exact z8),z2,ht.gstep,c2g ok⟩) ((((z3.trans (KpA.upd (j:=2) ↑2)).trans (KpA.of (g3 hp))).trans (KpA.of (g3 hp2))).trans (KpA.updE (j:=4) e4 ↑2)) z4
   rw[y] at q;exact q
  ·fail ""
   refine⟨cl.d_DEEDS_hand,_,kvs,rfl,rfl,kd,?_⟩;rw[hno _ hn];refine⟨false,rfl,?_⟩;rw[if_neg ↑4];fail "e";refine⟨A.gv,cl.Giver,dx,_,_,_,rfl,ex,rfl,T.k_Giver,GO,?_⟩;fail "";refine⟨A,_,_,_,_,_,_,ps,Gq,Tq,tl,_,sp,rfl,hL,hm,?_⟩;refine hd _ _ λH1 A1 Gq1 z1 z2 z3 z4=>?_;have ea:A.gv=A1.gv:=(z4.1 2 ↑2).symm;have e4:A1.kt=A.kt:=z4.1 4 ↑2;obtain⟨dx1,ex1⟩:=z1.gv;obtain⟨xs,ext,lxs,_⟩:=z1.tr;have lxm:(xs.map V.ref).length=tl.length:=by rw[List.length_map];exact lxs
   have n24:A1.kt≠A.gv:=by rw[ea];exact z1.nd 4 2 ↑2 ↑2 ↑2
   have z5:LH cl (upd H1 A.gv (gvO cl dx1 A1 { Gq1 with st:=a0a (gstep L).gs })) A1 L.n (gstep L).c L.os L.bk (gstep L).gseen L.tseen ps { Gq1 with st:=a0a (gstep L).gs } Tq tl ((c8k tl).tch (gT L)):=by rw[ea];exact z1.setG
   rw[<- ea] at ex1;fail "";refine⟨by decide,λp hp=>?_⟩
   have z6:=z5.same (g3 (o:=.tup [.str "giver"]) hp);obtain⟨many,last,hB,hLt⟩:=z6.brd;obtain⟨tt,rfl,nt,ett⟩:=hLt.2.2 _ rfl;obtain⟨⟨dxb,eb⟩,_⟩:=id hB;fail "";refine⟨A1.bd,A1.l,L.n,_,many,.ref tt,rfl,hB,?_⟩;fail "";refine⟨p,tt,_,_,rfl,rfl,SqT.of d6,SqT.of ett,(λz=>(nomatch z)),(show 1+3<=sizeLine by decide),(λz=>(nomatch z)),λ_ p2 hp2=>?_⟩
   have z7:=(z6.same (g3 (o:=.tup ([.str "giver"]++[.str (gT L).d,.int (gT L).k,.int (gT L).x])) hp2));have h60:5000000<=sizeLine:=by decide
   have np:A1.kt≠p:=λz=>by rw[<- z,c9 n24,ext] at hp;cases hp
   have np2:A1.kt≠p2:=λz=>by rw[<- z,c9 np,c9 n24,ext] at hp2;cases hp2
   fail "";have z8:=z7.setTr (t:=(true,gT L)) (by rw[c9 np2,c9 np,c9 n24];exact ext) (z6.off hp2) (z6.nfo hp2) d6
   have q:=k _ A1 (by rw[b4x y];exact⟨ps,_,Tq,lt,(by obtain⟨sn,so,sb,st,_⟩:=a1c L;show LH cl _ A1 (gstep L).n (gstep L).c (gstep L).os (gstep L).bk (gstep L).gseen (gstep L).tseen _ _ _ (tl++[(true,gT L)]) (c8k (tl++[(true,gT L)]));rw[sn,so,sb,st,b6h];exact z8),z2,ht.gstep,c2g ok⟩) ((((z3.trans (KpA.upd (j:=2) ↑2)).trans (KpA.of (g3 hp))).trans (KpA.of (g3 hp2))).trans (KpA.updE (j:=4) e4 ↑2)) z4
   rw[y] at q;exact q
theorem c1s(D:DefM K cl.Taker "step" "Hand.step" a4s ["self"])(T:↑18)(GR:↑903 "resting" 4 ["self"] (a7j cl))(O:DT P w K mg base cl.d_DEEDS_hand 7 (c4v cl))(GO:↑903 "own_deed" 6 ["self"] (a5y cl))(G_Board_last_touch:↑904 cl.Board "last_touch" 1 ["self"] (a0g cl)):↑903 "step" 8 ["self"] (λvs H Q E=>∃(A:Ad)(L:Ln)(tl:List Tr),vs=[.ref A.tk]/\LR cl H A L tl/\L.os.length<=400/\tl.length<=4000000/\∀H' A',LR cl H' A' (a6m false L) (trB false L tl)->KpA A H H'->Nx A A' H->Q (.bl (!a4b false L)) H'):=by
 refine D.fn a5g ↑7 ↑3
 ·obtain⟨A,L,tl,rfl,⟨ps,Gq,Tq,lt,hL,hg,ht,ok⟩,os4,tl5,k⟩:=h
  refine⟨_,(b9 (m4 (a6h ↑44)
     ↑37
     m3)
   (b9 (m4 (g9 (d2c (K:=K)) ↑6 (a7h T.r_DEEDS_hand rfl) (by with_unfolding_all rfl))
     (
     b9 (i6 (i:=1) a5g.nd rfl ↑23 (l7 (d5x (K:=K)) (a7h T.r_DEEDS_hand rfl) ↑6 ↑10))
     (d5 (j3 (K:=K) (pv 0) (b6g (k:=7) (i:=1) rfl (Or.inl rfl) hr ↑4 g4 ↑16))))
     (d5 (j3 (K:=K) (pv 0) (a0h (k:=6) (pv 0) hr ↑4 g4))))
   (b9 (i3 (n9 (K:=K) ↑6 (a9 (g7 (op_catTK (K:=K)) (a5j ↑45) (c8a ↑6 T.k_Board G_Board_last_touch hr ↑4 g4)) d9)))
   ↑37))),?_⟩
  obtain⟨dx,ex⟩:=hL.tk;obtain⟨kvs,kd,hv,hno⟩:=O.ex;fail "e";refine⟨A.tk,cl.Taker,dx,_,_,_,rfl,ex,rfl,T.k_Taker,GR,?_⟩;fail "";refine⟨A,_,_,_,_,_,_,ps,Gq,Tq,tl,_,0,rfl,hL,?_⟩;fail "";rcases e0n hL ok ht (Nat.le_trans ok.tk.bl os4) with ⟨sp,hm,hd⟩|⟨hn,sp,hm,hd⟩
  ·obtain⟨fa,pn,e1,F⟩:=hv _ _ hm
   fail "";refine⟨cl.d_DEEDS_hand,_,kvs,rfl,rfl,kd,?_⟩;rw[e1];refine⟨true,rfl,?_⟩;rw[if_pos rfl];fail "";refine⟨cl.d_DEEDS_hand,_,kvs,_,.ref fa,rfl,rfl,kd,e1,rfl,?_⟩;fail "";refine⟨fa,pn,sp,rfl,F,?_⟩;fail "";refine hd _ _ λH1 A1 Tq1 ps1 z1 z2 z3 z4=>?_;have ea:A.tk=A1.tk:=(z4.1 3 ↑2).symm;have e4:A1.kt=A.kt:=z4.1 4 ↑2;obtain⟨dx1,ex1⟩:=z1.tk;obtain⟨xs,ext,lxs,_⟩:=z1.tr;have lxm:(xs.map V.ref).length=tl.length:=by rw[List.length_map];exact lxs
   have n24:A1.kt≠A.tk:=by rw[ea];exact z1.nd 4 3 ↑2 ↑2 ↑2
   have z5:LH cl (upd H1 A.tk (tkO cl dx1 A1 { Tq1 with st:=a0a (tstep L).ts })) A1 L.n (tstep L).c L.os (tstep L).bk L.gseen (tstep L).tseen ps1 Gq { Tq1 with st:=a0a (tstep L).ts } tl ((c8k tl).tch (tT L)):=by rw[ea];exact z1.setT
   rw[<- ea] at ex1;fail "";refine⟨by decide,λp hp=>?_⟩
   have z6:=z5.same (g3 (o:=.tup [.str "taker"]) hp);obtain⟨many,last,hB,hLt⟩:=z6.brd;obtain⟨tt,rfl,nt,ett⟩:=hLt.2.2 _ rfl;obtain⟨⟨dxb,eb⟩,_⟩:=id hB;fail "";refine⟨A1.bd,A1.l,L.n,_,many,.ref tt,rfl,hB,?_⟩;fail "";refine⟨p,tt,_,_,rfl,rfl,SqT.of d6,SqT.of ett,(λz=>(nomatch z)),(show 1+3<=sizeLine by decide),(λz=>(nomatch z)),λ_ p2 hp2=>?_⟩
   have z7:=(z6.same (g3 (o:=.tup ([.str "taker"]++[.str (tT L).d,.int (tT L).k,.int (tT L).x])) hp2));have h60:5000000<=sizeLine:=by decide
   have np:A1.kt≠p:=λz=>by rw[<- z,c9 n24,ext] at hp;cases hp
   have np2:A1.kt≠p2:=λz=>by rw[<- z,c9 np,c9 n24,ext] at hp2;cases hp2
   fail "";have z8:=z7.setTr (t:=(false,tT L)) (by rw[c9 np2,c9 np,c9 n24];exact ext) (z6.off hp2) (z6.nfo hp2) d6
   have q:=k _ A1 (by rw[b4x (b:=false) rfl];exact⟨ps1,Gq,_,lt,(by obtain⟨sn,so,sb,st,_⟩:=a0x L;show LH cl _ A1 (tstep L).n (tstep L).c (tstep L).os (tstep L).bk (tstep L).gseen (tstep L).tseen _ _ _ (tl++[(false,tT L)]) (c8k (tl++[(false,tT L)]));rw[sn,so,sb,b6h];exact z8),hg.tstep,z2,c0d ok⟩) ((((z3.trans (KpA.upd (j:=3) ↑2)).trans (KpA.of (g3 hp))).trans (KpA.of (g3 hp2))).trans (KpA.updE (j:=4) e4 ↑2)) z4
   exact q
  ·fail ""
   refine⟨cl.d_DEEDS_hand,_,kvs,rfl,rfl,kd,?_⟩;rw[hno _ hn];refine⟨false,rfl,?_⟩;rw[if_neg ↑4];fail "e";refine⟨A.tk,cl.Taker,dx,_,_,_,rfl,ex,rfl,T.k_Taker,GO,?_⟩;fail "";refine⟨A,_,_,_,_,_,_,ps,Gq,Tq,tl,_,sp,rfl,hL,hm,?_⟩;refine hd _ _ λH1 A1 Tq1 ps1 z1 z2 z3 z4=>?_;have ea:A.tk=A1.tk:=(z4.1 3 ↑2).symm;have e4:A1.kt=A.kt:=z4.1 4 ↑2;obtain⟨dx1,ex1⟩:=z1.tk;obtain⟨xs,ext,lxs,_⟩:=z1.tr;have lxm:(xs.map V.ref).length=tl.length:=by rw[List.length_map];exact lxs
   have n24:A1.kt≠A.tk:=by rw[ea];exact z1.nd 4 3 ↑2 ↑2 ↑2
   have z5:LH cl (upd H1 A.tk (tkO cl dx1 A1 { Tq1 with st:=a0a (tstep L).ts })) A1 L.n (tstep L).c L.os (tstep L).bk L.gseen (tstep L).tseen ps1 Gq { Tq1 with st:=a0a (tstep L).ts } tl ((c8k tl).tch (tT L)):=by rw[ea];exact z1.setT
   rw[<- ea] at ex1;fail "";refine⟨by decide,λp hp=>?_⟩
   have z6:=z5.same (g3 (o:=.tup [.str "taker"]) hp);obtain⟨many,last,hB,hLt⟩:=z6.brd;obtain⟨tt,rfl,nt,ett⟩:=hLt.2.2 _ rfl;obtain⟨⟨dxb,eb⟩,_⟩:=id hB;fail "";refine⟨A1.bd,A1.l,L.n,_,many,.ref tt,rfl,hB,?_⟩;fail "";refine⟨p,tt,_,_,rfl,rfl,SqT.of d6,SqT.of ett,(λz=>(nomatch z)),(show 1+3<=sizeLine by decide),(λz=>(nomatch z)),λ_ p2 hp2=>?_⟩
   have z7:=(z6.same (g3 (o:=.tup ([.str "taker"]++[.str (tT L).d,.int (tT L).k,.int (tT L).x])) hp2));have h60:5000000<=sizeLine:=by decide
   have np:A1.kt≠p:=λz=>by rw[<- z,c9 n24,ext] at hp;cases hp
   have np2:A1.kt≠p2:=λz=>by rw[<- z,c9 np,c9 n24,ext] at hp2;cases hp2
   fail "";have z8:=z7.setTr (t:=(false,tT L)) (by rw[c9 np2,c9 np,c9 n24];exact ext) (z6.off hp2) (z6.nfo hp2) d6
   have q:=k _ A1 (by rw[b4x (b:=false) rfl];exact⟨ps1,Gq,_,lt,(by obtain⟨sn,so,sb,st,_⟩:=a0x L;show LH cl _ A1 (tstep L).n (tstep L).c (tstep L).os (tstep L).bk (tstep L).gseen (tstep L).tseen _ _ _ (tl++[(false,tT L)]) (c8k (tl++[(false,tT L)]));rw[sn,so,sb,b6h];exact z8),hg.tstep,z2,c0d ok⟩) ((((z3.trans (KpA.upd (j:=3) ↑2)).trans (KpA.of (g3 hp))).trans (KpA.of (g3 hp2))).trans (KpA.updE (j:=4) e4 ↑2)) z4
   exact q
def RP(H:Hp)(os:List ↑26)(D:Addr)(i:Nat)(acc:List V)(H':Hp):Prop:=H' D=some (.lst acc)/\Same H H'/\∃ps:List Addr,acc=ps.map V.ref/\ps.length=i/\∀(j:Nat)(p:Addr)(o:List Int),ps[j]?=some p->os[j]?=some o->H p=none/\p≠D/\H' p=some ↑36
theorem RP.new{H:Hp}{os:List ↑26}{D:Addr}(hD:H D=none):RP H os D 0 [] (upd H D (.lst [])):=⟨d6,g3 hD,[],rfl,rfl,λj p o h=>by simp at h⟩
theorem j1{H H':Hp}{p:Addr}(s:Same H H')(h:H' p=none):H p=none:=by
 cases e:H p with
 | none=>rfl
 | some o=>rw[s _ _ e] at h;cases h
theorem RP.push{H H':Hp}{os:List ↑26}{o:List Int}{D p:Addr}{i:Nat}{acc:List V}(h:RP H os D i acc H')(hD:H D=none)(ho:os[i]?=some o)(hp:H' p=none):
  (upd H' p ↑36) D=some (.lst acc)/\RP H os D (i+1) (acc++[.ref p]) (upd (upd H' p ↑36) D (.lst (acc++[.ref p]))):=by
 obtain⟨e,s,ps,rfl,hl,r⟩:=h;have nD:D≠p:=λz=>by rw[<- z,e] at hp;cases hp
 have hp0:=j1 s hp;refine⟨by rw[c9 nD];exact e,d6,?_,ps++[p],by rw[List.map_append];rfl,by rw[List.length_append,hl];rfl,?_⟩
 ·intro b u eb
  rw[c9 (λz=>by rw[z,hD] at eb;cases eb),c9 (λz=>by rw[z,hp0] at eb;cases eb)]
  exact s _ _ eb
 ·intro j q u hj hu
  by_cases y:j<ps.length
  ·rw[List.getElem?_append_left y] at hj
   obtain⟨a,b,c⟩:=r j q u hj hu;refine⟨a,b,?_⟩;rw[c9 b,c9 (λz=>by rw[z,hp] at c;cases c)]
   exact c
  ·rw[List.getElem?_append_right ↑2] at hj
   have:j=i:=by
    by_cases z:j-ps.length=0
    ·lia
    ·rw[List.getElem?_eq_none (by simp;lia)] at hj;cases hj
   subst this;rw[hl,Nat.sub_self] at hj;cases hj;rw[ho] at hu;cases hu;exact⟨hp0,Ne.symm nD,by rw[c9 (Ne.symm nD)];exact d6⟩
def NewRows(H H':Hp)(D:Addr)(os:List ↑26):Prop:=H D=none/\Same H H'/\∃ps:List Addr,H' D=some (.lst (ps.map V.ref))/\ps.length=os.length/\∀(j:Nat)(p:Addr)(o:List Int),ps[j]?=some p->os[j]?=some o->H p=none/\p≠D/\H' p=some ↑36
theorem RP.done{H H':Hp}{os:List ↑26}{D:Addr}{acc:List V}(h:RP H os D os.length acc H')(hD:H D=none):NewRows H H' D os:=by
 obtain⟨e,s,ps,rfl,hl,r⟩:=h;exact⟨hD,s,ps,e,hl,r⟩
def b0p(cl:Cl):Sp:=λvs H Q _=>∃(n:Int)(a:Addr)(o:List Int),vs=[.int n,.ref a]/\H a=some ↑36/\1<=(o.length:Int)/\(o.length:Int)<=n/\∀p,H p=none->Q (.ref p) (upd H p ↑36)
abbrev b3x:Stmt:=top 74
theorem c5s:g2 ["size","order"] ["size","order"] (d7 b3x):=↑1
theorem c6i(D:DefT K mg "order_of" b3x ["size","order"])(T:↑18):↑901 "order_of" 1 ["size","order"] (b0p cl):=by
 refine D.fn c5s ↑7 ↑3
 ·obtain⟨n,a,o,rfl,ea,h1,h2,k⟩:=h
  refine⟨_,(b9 (m4 (PW.pt (c1e (g9 b7n (k0 ↑34 (by rfl) T.z_len PySem.boot_len ↑15) d8 ↑32) (b3c (g9 b8q (k0 ↑34 (by rfl) T.z_len PySem.boot_len ↑15) (pv 0) ↑32))))
     (d5 a5i)
     m3)
   (d5 (i9 (m9 (a0e (K:=K)) (by rfl) T.z_list PyProof.Rows.boot_list ↑15)))),?_⟩
  fail "";rw[List.length_map];refine a1y (λy=>absurd y ↑2) (λ_=>?_);fail "";rw[List.length_map];refine a1y (λy=>absurd y ↑2) (λ_=>?_);fail "";exact k
def a7n(cl:Cl):Sp:=λvs H Q _=>∃(n:Int)(a:Addr)(os:List ↑26),vs=[.int n,.ref a]/\Rws H a os/\(∀o∈os,1<=(o.length:Int)/\(o.length:Int)<=n)/\os.length<=1000/\∀p H',NewRows H H' p os->Q (.ref p) H'
abbrev b0y:Stmt:=top 75
theorem c2u:g2 ["size","orders"] ["size","orders"] (d7 b0y):=↑1
theorem c3s(D:DefT K mg "orders_of" b0y ["size","orders"])(T:↑18)(G_order_of:↑901 "order_of" 1 ["size","order"] (b0p cl)):↑901 "orders_of" 2 ["size","orders"] (a7n cl):=by
 refine D.fn c2u ↑7 ↑3
 ·obtain⟨n,a,os,rfl,⟨ps,ea,hl,hr'⟩,ho,hz,k⟩:=h
  refine⟨_,(d5 (i9 (c1f (N:=["order","size"]) (nt:=1) (fr:=[0]) rfl (c8x (i:=0) rfl rfl (by decide +kernel) (by decide +kernel) rfl rfl rfl rfl rfl rfl rfl) (a0r (K:=K) (pv 1)) (a7i ↑4) (λ_ _ _ _ _=>o9 (i:=0) (show(["order","size"]:List Str).Nodup by decide +kernel) rfl (Or.inl rfl) (Or.inr rfl)) (λ_ _ _ _ _=>(i5 G_order_of hr ↑4 rfl d5g (a9 (pv 1) ↑16)))))),?_⟩
  have h60:6000<=sizeLine:=by decide
  refine⟨_,rfl,a,rfl,⟨_,SqL.of ea⟩,a4e (xs:=ps.map V.ref) (by rw[List.length_map];lia) (RP H os) (λD hD=>RP.new hD) ?_ ?_ ?_⟩
  ·rintro D i acc H' ⟨e,s,qs,rfl,hq,_⟩
   exact⟨e,by rw[List.length_map];exact hq,SqL.of (s _ _ ea)⟩
  ·intro D i x acc H' hD hx hp
   rw[List.getElem?_map] at hx;cases hpi:ps[i]? with
   | none=>rw[hpi] at hx;cases hx
   | some q=>
    rw[hpi] at hx;cases hx;have hi:i<os.length:=by rw[<- hl];exact(List.getElem?_eq_some_iff.mp hpi).1
    have hoi:=List.getElem?_eq_getElem hi;have eq:=hp.2.1 _ _ (hr' i q _ hpi hoi);obtain⟨l1,l2⟩:=ho _ (List.getElem_mem hi);fail "";refine⟨n,q,_,rfl,eq,l1,l2,λp hpn=>?_⟩;exact hp.push hD hoi hpn
  ·intro D acc H' hD hp
   rw[List.length_map,hl] at hp;exact k _ _ (hp.done hD)
abbrev b3b:Stmt:=top 76
section
variable{H H':Hp}{A:Ad}{n:Nat}{c:Pr.Cells}{os bk:List ↑26}{gs ts ps:List Int}{Gq:Gm}{Tq:Tm}{tl:List Tr}{lt:Lt}
theorem LH.setKg{os':List ↑26}{u:HO}(h:↑905)(hk:RwsX A (upd H A.kg u) A.kg os')(hf:∀x,A.fo x->Unr (upd H A.kg u) A.kg x):LH cl (upd H A.kg u) A n c os' bk gs ts ps Gq Tq tl lt:=by
 have ne:∀i,i<8->i≠5->A.o i≠A.kg:=λi h8 h2=>h.nd i 5 h8 ↑2 h2;obtain⟨m,l,hB,hL⟩:=h.brd;refine⟨⟨m,l,hB.keep (ps:=[A.kg]) (Kp.upd (by simp)) (by simpa using ne 0 ↑2 ↑2) (by simpa using ne 1 ↑2 ↑2),hL.kpa (KpA.upd (j:=5) ↑2)⟩,?_,?_,?_,?_,hk,h.book.set (j:=5) ↑2 rfl (ne 6 ↑2 ↑2),?_,?_,h.nd,h.om,λx hx=>?_⟩
 ·obtain⟨d,z⟩:=h.gv;exact⟨d,by rw[c9 (ne 2 ↑2 ↑2)];exact z⟩
 ·obtain⟨d,z⟩:=h.tk;exact⟨d,by rw[c9 (ne 3 ↑2 ↑2)];exact z⟩
 ·rw[c9 (h.om 5 ↑2).1];exact h.mg
 ·rw[c9 (h.om 5 ↑2).2];exact h.mt
 ·rw[c9 (ne 7 ↑2 ↑2)];exact h.pa
 ·exact h.tr.kpa (KpA.upd (j:=5) ↑2) λo z=>by rw[c9 (ne 4 ↑2 ↑2)];exact z
 ·obtain⟨⟨o,a⟩,b,c1,d,e,f,g⟩:=h.fo x hx
  exact⟨⟨o,by rw[c9 (b 5 ↑2)];exact a⟩,b,c1,d,hf x hx,(λxs z=>f xs (by rw[c9 (ne 6 ↑2 ↑2)] at z;exact z)),(λC dx fs z=>g C dx fs (by rw[c9 (ne 0 ↑2 ↑2)] at z;exact z))⟩
theorem RwsX.push{a p:Addr}{qs:List Addr}{o:List Int}(h:RwsX A H a os)(e:H a=some (.lst (qs.map V.ref)))(ha:∃j,j<8/\a=A.o j)(hp:H p=none)(off:∀j,j<8->p≠A.o j):
  RwsX A (upd (upd H p ↑36) a (.lst (qs.map V.ref++[.ref p]))) a (os++[o]):=by
 obtain⟨ps,e',hl,r⟩:=h;have eq:ps.map V.ref=qs.map V.ref:=by rw[e] at e';exact(HO.lst.inj (Option.some.inj e')).symm
 obtain⟨ja,hja,rfl⟩:=ha;refine⟨ps++[p],by rw[d6,List.map_append,eq];rfl,by rw[List.length_append,List.length_append,hl];rfl,?_⟩
 intro i q u hq hu;by_cases y:i<ps.length
 ·rw[List.getElem?_append_left y] at hq
  rw[List.getElem?_append_left ↑2] at hu;obtain⟨a1,a2⟩:=r i q u hq hu;refine⟨a1,?_⟩;rw[c9 (a1 ja hja),c9 (λz=>by rw[z,hp] at a2;cases a2)]
  exact a2
 ·rw[List.getElem?_append_right ↑2] at hq hu
  have i0:i-ps.length=0:=by
   by_cases z:i-ps.length=0
   ·exact z
   ·rw[List.getElem?_eq_none (by simp;lia)] at hq;cases hq
  rw[i0] at hq;rw[<- hl,i0] at hu;cases hq;cases hu;exact⟨off,by rw[c9 (off ja hja)];exact d6⟩
end
theorem GRel.add{L:Ln}{Gq:Gm}{o:List Int}(h:GRel L Gq)(ok:Ok L):GRel (a0t L o) Gq:=by
 have gl:gi L<=tot L.os:=by unfold gi;have:=ok.core.gt;split <;> lia
 have e1:n5 (L.os++[o]) (gi L)=n5 L.os (gi L):=by
  cases e:gi L with
  | zero=>rfl
  | succ i=>show((i8 (L.os++[o]) i:Nat):Int)=i8 L.os i;rw[(a1b ↑2).1]
 have e2:v7 (L.os++[o]) (gi L)=v7 L.os (gi L):=by
  cases e:gi L with
  | zero=>rfl
  | succ i=>show((j2 (L.os++[o]) i:Nat):Int)=j2 L.os i;rw[(a1b ↑2).2]
 exact⟨h.st,h.he,λa b=>(h.nu a b).trans e1.symm,λa b c=>(h.le a b c).trans e2.symm,h.no⟩
theorem TRel.add{L:Ln}{Tq:Tm}{ps:List Int}{o:List Int}(h:TRel L Tq ps)(ok:Ok L):TRel (a0t L o) Tq ps:=by
 have gt:=ok.core.gt;have tg:=ok.tk.tg;have e3:v4 (L.os++[o]) L.f (L.t-L.f)=v4 L.os L.f (L.t-L.f):=by
  unfold v4;apply List.map_congr_left;intro m hm;have:=List.mem_range.mp hm;exact a9o ↑2
 refine⟨h.st,h.he,h.nf,λz=>?_,λz=>?_,?_,h.no⟩
 ·have lt:L.t<L.g:=ok.tk.lies (by rcases z with z|z <;> (have z':L.ts=_:=z;rw[z'];rfl))
  show Tq.nu=((i8 (L.os++[o]) L.t:Nat):Int);rw[(a1b ↑2).1];exact h.nu z
 ·have lt:L.t<L.g:=ok.tk.lies (by have z':L.ts=_:=z;rw[z'];rfl)
  show Tq.le=((j2 (L.os++[o]) L.t:Nat):Int);rw[(a1b ↑2).2];exact h.le z
 ·show ps=if Stg.come L.ts=true\/L.ts=.free\/L.ts.frees=true then [] else v4 (L.os++[o]) L.f (L.t-L.f)
  rw[e3];exact h.pa
def b5i(cl:Cl):Sp:=λvs H Q _=>∃(A:Ad)(L:Ln)(tl:List Tr)(a:Addr)(o:List Int),vs=[.ref A.gv,.ref a]/\LR cl H A L tl/\H a=some ↑36/\1<=o.length/\o.length<=L.n/\L.os.length<=400/\∀H',LR cl H' A (a0t L o) tl->KpA A H H'->Q (.int L.os.length) H'
noncomputable abbrev b1u:Stmt:=m8 (top 88) 1
theorem c3j:g2 ["self","order"] ["self","order"] (d7 b1u):=↑1
theorem c4o(D:DefM K cl.Giver "add" "Giver.add" b1u ["self","order"])(T:↑18)(G_order_of:↑901 "order_of" 1 ["size","order"] (b0p cl)):↑902 "add" 2 ["self","order"] (b5i cl):=by
 refine D.fn c3j ↑7 ↑3
 ·obtain⟨A,L,tl,a,o,rfl,⟨ps,Gq,Tq,lt,hL,hg,ht,ok⟩,ea,o1,o2,os4,k⟩:=h
  refine⟨_,(b9 (i3 (n9 (K:=K) ↑6 (a9 (i5 G_order_of hr ↑4 rfl g4 (a9 (z9 (K:=K) ↑6) ↑15)) d9)))
   (d5 (i9 (g7 a3n (k0 ↑34 (by rfl) T.z_len PySem.boot_len ↑45) d8)))),?_⟩
  have h60:6000<=sizeLine:=by decide
  obtain⟨dx,ex⟩:=hL.gv;obtain⟨qs,ek,hl,_⟩:=id hL.kept;obtain⟨many,last,hB,hLast⟩:=hL.brd;obtain⟨⟨dxb,eb⟩,_⟩:=id hB;fail "";refine⟨_,a,o,rfl,ea,by lia,by lia,λp hp=>?_⟩
  have nk:A.kg≠p:=λz=>by rw[<- z,ek] at hp;cases hp
  have ng:A.gv≠p:=λz=>by rw[<- z,ex] at hp;cases hp
  have ngk:A.gv≠A.kg:=hL.nd 2 5 ↑2 ↑2 ↑2;have hlm:(qs.map V.ref).length=L.os.length:=by rw[List.length_map,hl]
  fail "";rw[List.length_append,hlm];have z1:=(hL.same (g3 (o:=.lst (o.map V.int)) hp)).setKg (u:=.lst (qs.map V.ref++[.ref p])) (hL.kept.push ek ⟨5,by lia,rfl⟩ hp (hL.off hp)) (λx hx xs z=>by
   rw[d6] at z;cases z;obtain⟨⟨_,a⟩,_,_,_,e,_⟩:=hL.fo x hx;intro q;rcases List.mem_append.mp q with q|q
   ·exact e _ ek q
   ·exact i4 a hp (V.ref.inj (List.mem_singleton.mp q)))
  have q:=k _ ⟨ps,Gq,Tq,lt,z1,hg.add ok,ht.add ok,b8g ok ⟨o1,o2⟩⟩ ((KpA.of (g3 hp)).trans (KpA.upd (j:=5) ↑2));rw[show((L.os.length+[V.ref p].length:Nat):Int)-1=(L.os.length:Int) by show((L.os.length+1:Nat):Int)-1=_;lia]
  exact q
noncomputable abbrev b0m:Stmt:=m8 (top 88) 2
noncomputable abbrev b5k:Stmt:=m8 (top 98) 1
theorem _root_.L2.MethT.toBase{x m:Str}{C f:Addr}{k:Nat}{ps:List Str}{sp:Sp}(M:↑904 C m k ps sp)(hf:findIn K (.ref C) m=some (some (.ref f)))(cm:e6o K C m f)(hm:mg x=some (.ref C)):d4g P w K mg base x m k ps sp:=by
 obtain⟨f',fd,F,hM,hb⟩:=M.ex;have:f'=f:=by have:=hM.at_;rw[hf] at this;cases this;rfl
 subst this;exact⟨C,f',fd,F,cm,hm,hb⟩
def a5c(cl:Cl):Sp:=λvs H Q _=>
 (∃(x dx bd:Addr)(v:V),vs=[.ref x,.ref bd,.str "giver",.str "taker",.str "told"]/\H x=some (.ins cl.Giver dx [("kept",v)])/\∀m r H',H m=none->H r=none->m≠r->Kp [x] H H'->H' m=some (.lst [])->H' r=some (.lst [])->H' x=some (.ins cl.Giver dx [("kept",v),("board",.ref bd),("name",.str "giver"),("other",.str "taker"),("stage_behind_marks",.str "told"),("stage_now",.str "rouse"),("marks_read",.ref m),("here",.non),("touched",.ref r)])->Q .non H')
 \/ (∃(x dx bd:Addr)(v:V),vs=[.ref x,.ref bd,.str "taker",.str "giver",.str "look"]/\H x=some (.ins cl.Taker dx [("taken",v)])/\∀m r H',H m=none->H r=none->m≠r->Kp [x] H H'->H' m=some (.lst [])->H' r=some (.lst [])->H' x=some (.ins cl.Taker dx [("taken",v),("board",.ref bd),("name",.str "taker"),("other",.str "giver"),("stage_behind_marks",.str "look"),("stage_now",.str "rouse"),("marks_read",.ref m),("here",.non),("touched",.ref r)])->Q .non H')
noncomputable abbrev b1t:Stmt:=m8 (top 72) 0
theorem c3i:g2 ["self","board","name","other","stage_behind_marks"] ["self","board","name","other","stage_behind_marks"] (d7 b1t):=↑1
theorem c4n{C:Addr}(D:DefM K C "__init__" "Hand.__init__" b1t ["self","board","name","other","stage_behind_marks"])(T:↑18):↑904 C "__init__" 1 ["self","board","name","other","stage_behind_marks"] (a5c cl):=by
 refine D.fn c3i (λvs H Q E h=>?_) ↑3
 ·rcases h with ⟨x,dx,bd,v,rfl,_⟩|⟨x,dx,bd,v,rfl,_⟩ <;> rfl
 ·skip
  refine⟨_,(b9 (j3 (K:=K) (pv 0) (pv 1))
   (b9 (j3 (K:=K) (pv 0) (pv 2))
   (b9 (j3 (K:=K) (pv 0) (pv 3))
   (b9 (j3 (K:=K) (pv 0) (pv 4))
   (b9 (j3 (K:=K) (pv 0) g6)
   (b9 (j3 (K:=K) (pv 0) (k8 d9))
   (b9 (j3 (K:=K) (pv 0) a2k)
   (d5 (j3 (K:=K) (pv 0) (k8 d9)))))))))),?_⟩
  rcases h with h|h
  ·obtain⟨x,dx,bd,v,rfl,ex,k⟩:=h
   fail "";refine⟨Nat.zero_le _,λm hm=>?_⟩;have nm:m≠x:=λz=>by rw[z,d6] at hm;cases hm
   have hm0:H m=none:=by simpa only [c9 nm] using hm
   fail "";refine⟨Nat.zero_le _,λr hr0=>?_⟩;have nr:r≠x:=λz=>by rw[z,d6] at hr0;cases hr0
   have nmr:r≠m:=λz=>by rw[z,c9 nm,c9 nm,d6] at hr0;cases hr0
   have hr1:H r=none:=by simpa only [c9 nr,c9 nmr] using hr0
   fail "";refine k m r _ hm0 hr1 (Ne.symm nmr) (λc o e n=>?_) ?_ ?_ ?_
   ·have nc:c≠x:=λz=>n (by simp[z])
    have c1:c≠m:=λz=>by rw[z,hm0] at e;cases e
    have c2:c≠r:=λz=>by rw[z,hr1] at e;cases e
    simpa only [c9 nc,c9 c1,c9 c2] using e
   ·simp only[c9 nm,c9 (Ne.symm nmr),d6]
   ·simp only[c9 nr,d6]
   ·rw[d6]
    rfl
  ·obtain⟨x,dx,bd,v,rfl,ex,k⟩:=h
   fail "";refine⟨Nat.zero_le _,λm hm=>?_⟩;have nm:m≠x:=λz=>by rw[z,d6] at hm;cases hm
   have hm0:H m=none:=by simpa only [c9 nm] using hm
   fail "";refine⟨Nat.zero_le _,λr hr0=>?_⟩;have nr:r≠x:=λz=>by rw[z,d6] at hr0;cases hr0
   have nmr:r≠m:=λz=>by rw[z,c9 nm,c9 nm,d6] at hr0;cases hr0
   have hr1:H r=none:=by simpa only [c9 nr,c9 nmr] using hr0
   fail "";refine k m r _ hm0 hr1 (Ne.symm nmr) (λc o e n=>?_) ?_ ?_ ?_
   ·have nc:c≠x:=λz=>n (by simp[z])
    have c1:c≠m:=λz=>by rw[z,hm0] at e;cases e
    have c2:c≠r:=λz=>by rw[z,hr1] at e;cases e
    simpa only [c9 nc,c9 c1,c9 c2] using e
   ·simp only[c9 nm,c9 (Ne.symm nmr),d6]
   ·simp only[c9 nr,d6]
   ·rw[d6]
    rfl
def NRw(H H':Hp)(D:Addr)(S:List Addr)(os:List ↑26):Prop:=∃ps:List Addr,H' D=some (.lst (ps.map V.ref))/\ps.length=os.length/\∀(j:Nat)(p:Addr)(o:List Int),ps[j]?=some p->os[j]?=some o->H p=none/\p≠D/\p ∉ S/\H' p=some ↑36
def b2r(cl:Cl):Sp:=λvs H Q _=>∃(x dx bd a l:Addr)(n:Nat)(row:List Int)(many:Int)(last:V)(os:List ↑26),vs=[.ref x,.ref bd,.ref a]/\H x=some (.ins cl.Giver dx [])/\Brd cl H bd l n row many last/\Rws H a os/\Good n os/\os.length<=1000 /\
 ∀D m r H',H D=none->H m=none->H r=none->D≠m->D≠r->m≠r->Kp [x] H H'->NRw H H' D [m,r] os->H' m=some (.lst [])->H' r=some (.lst [])->H' x=some (.ins cl.Giver dx [("kept",.ref D),("board",.ref bd),("name",.str "giver"),("other",.str "taker"),("stage_behind_marks",.str "told"),("stage_now",.str "rouse"),("marks_read",.ref m),("here",.non),("touched",.ref r),("number",.int (-1)),("left",.int 0)])->Q .non H'
noncomputable abbrev a8p:Stmt:=m8 (top 88) 0
theorem c0x:g2 ["self","board","orders"] ["self","board","orders"] (d7 a8p):=↑1
theorem c1w(D:DefM K cl.Giver "__init__" "Giver.__init__" a8p ["self","board","orders"])(T:↑18)(G_orders_of:↑901 "orders_of" 2 ["size","orders"] (a7n cl))(G_Hand_init:d4g P w K mg base "Hand" "__init__" 1 ["self","board","name","other","stage_behind_marks"] (a5c cl)):↑902 "__init__" 3 ["self","board","orders"] (b2r cl):=by
 refine D.fn c0x ↑7 ↑3
 ·obtain⟨x,dx,bd,a,l,n,row,many,last,os,rfl,ex,hB,hR,hG,hz,k⟩:=h
  refine⟨_,(b9 (j3 (K:=K) (pv 0) (i5 G_orders_of hr ↑4 rfl g4 (a9 (z9 (K:=K) (pv 1)) (a9 (pv 2) d9))))
   (b9 (i3 (d1x G_Hand_init hr ↑4 rfl g4 (a9 (pv 0) (a9 (pv 1) (a9 g6 ↑21)))))
   (b9 (j3 (K:=K) (pv 0) (v9 T.m_NO_ORDER rfl))
   (d5 (j3 (K:=K) (pv 0) d8))))),?_⟩
  obtain⟨⟨dxb,eb⟩,_⟩:=id hB;fail "";refine⟨n,a,os,rfl,hR,(λo ho=>by have:=hG o ho;lia),hz,λD H1 nr=>?_⟩
  obtain⟨hD,s1,qs,eD,lq,rq⟩:=nr;have ex1:=s1 _ _ ex;have nDx:D≠x:=λz=>by rw[z,ex] at hD;cases hD
  fail "";refine .inl ⟨x,dx,bd,.ref D,rfl,d6,λm r H2 hm hr0 hmr kp em er ex2=>?_⟩;have nmx:m≠x:=λz=>by rw[z,d6] at hm;cases hm
  have nrx:r≠x:=λz=>by rw[z,d6] at hr0;cases hr0
  rw[c9 nmx] at hm;rw[c9 nrx] at hr0;have hm0:=j1 s1 hm;have hr1:=j1 s1 hr0;have nDm:D≠m:=λz=>by rw[<- z,eD] at hm;cases hm
  have nDr:D≠r:=λz=>by rw[<- z,eD] at hr0;cases hr0
  have eD2:H2 D=some (.lst (qs.map V.ref)):=kp _ _ (by rw[c9 nDx];exact eD) (by simpa using nDx)
  have k1:Kp [x] H H2:=λc o e n=>kp _ _ (by rw[c9 (by simpa using n)];exact s1 _ _ e) n
  have rows2:∀(j:Nat)(p:Addr)(o:List Int),qs[j]?=some p->os[j]?=some o->H p=none/\p≠D/\p≠x/\p≠m/\p≠r/\H2 p=some ↑36:=λj p o hp ho=>by
   obtain⟨a1,a2,a3⟩:=rq j p o hp ho;have px:p≠x:=λz=>by rw[z,ex] at a1;cases a1
   exact⟨a1,a2,px,(λz=>by rw[z,hm] at a3;cases a3),(λz=>by rw[z,hr0] at a3;cases a3),kp _ _ (by rw[c9 px];exact a3) (by simpa using px)⟩
  fail "";refine k D m r _ hD hm0 hr1 nDm nDr hmr (λc o e n=>?_) ⟨qs,?_,lq,λj p o hp ho=>?_⟩ ?_ ?_ ?_
  ·have nc:c≠x:=by simpa using n
   simp only[c9 nc];exact k1 _ _ e n
  ·simp only[c9 nDx]
   exact eD2
  ·obtain⟨a1,a2,a3,a4,a5,a6⟩:=rows2 j p o hp ho
   refine⟨a1,a2,by simp[a4,a5],?_⟩
   simp only[c9 a3];exact a6
  ·simp only[c9 nmx]
   exact em
  ·simp only[c9 nrx]
   exact er
  ·rw[d6]
   rfl
def b2p(cl:Cl):Sp:=λvs H Q _=>∃(x dx bd a l:Addr)(n:Nat)(row:List Int)(many:Int)(last:V)(os:List ↑26),vs=[.ref x,.ref bd,.ref a]/\H x=some (.ins cl.Taker dx [])/\Brd cl H bd l n row many last/\Rws H a os/\Good n os/\os.length<=1000 /\
 ∀D m r q H',H D=none->H m=none->H r=none->D≠m->D≠r->m≠r->H q=none->q≠D->q≠m->q≠r->H' q=some (.lst [])->Kp [x] H H'->NRw H H' D [m,r,q] os->H' m=some (.lst [])->H' r=some (.lst [])->H' x=some (.ins cl.Taker dx [("taken",.ref D),("board",.ref bd),("name",.str "taker"),("other",.str "giver"),("stage_behind_marks",.str "look"),("stage_now",.str "rouse"),("marks_read",.ref m),("here",.non),("touched",.ref r),("not_freed",.non),("number",.int 0),("left",.int 0),("parts",.ref q)])->Q .non H'
noncomputable abbrev a8n:Stmt:=m8 (top 98) 0
theorem c0u:g2 ["self","board","book"] ["self","board","book"] (d7 a8n):=↑1
theorem c1t(D:DefM K cl.Taker "__init__" "Taker.__init__" a8n ["self","board","book"])(T:↑18)(G_orders_of:↑901 "orders_of" 2 ["size","orders"] (a7n cl))(G_Hand_init:d4g P w K mg base "Hand" "__init__" 1 ["self","board","name","other","stage_behind_marks"] (a5c cl)):↑903 "__init__" 3 ["self","board","book"] (b2p cl):=by
 refine D.fn c0u ↑7 ↑3
 ·obtain⟨x,dx,bd,a,l,n,row,many,last,os,rfl,ex,hB,hR,hG,hz,k⟩:=h
  refine⟨_,(b9 (j3 (K:=K) (pv 0) (i5 G_orders_of hr ↑4 rfl g4 (a9 (z9 (K:=K) (pv 1)) (a9 (pv 2) d9))))
   (b9 (i3 (d1x G_Hand_init hr ↑4 rfl g4 (a9 (pv 0) (a9 (pv 1) (a9 g6 ↑21)))))
   (b9 (j3 (K:=K) (pv 0) a2k)
   (b9 (j3 (K:=K) (pv 0) d8)
   (b9 (j3 (K:=K) (pv 0) d8)
   (d5 (j3 (K:=K) (pv 0) (k8 d9)))))))),?_⟩
  obtain⟨⟨dxb,eb⟩,_⟩:=id hB;fail "";refine⟨n,a,os,rfl,hR,(λo ho=>by have:=hG o ho;lia),hz,λD H1 nr=>?_⟩
  obtain⟨hD,s1,qs,eD,lq,rq⟩:=nr;have ex1:=s1 _ _ ex;have nDx:D≠x:=λz=>by rw[z,ex] at hD;cases hD
  fail "";refine .inr ⟨x,dx,bd,.ref D,rfl,d6,λm r H2 hm hr0 hmr kp em er ex2=>?_⟩;have nmx:m≠x:=λz=>by rw[z,d6] at hm;cases hm
  have nrx:r≠x:=λz=>by rw[z,d6] at hr0;cases hr0
  rw[c9 nmx] at hm;rw[c9 nrx] at hr0;have hm0:=j1 s1 hm;have hr1:=j1 s1 hr0;have nDm:D≠m:=λz=>by rw[<- z,eD] at hm;cases hm
  have nDr:D≠r:=λz=>by rw[<- z,eD] at hr0;cases hr0
  have eD2:H2 D=some (.lst (qs.map V.ref)):=kp _ _ (by rw[c9 nDx];exact eD) (by simpa using nDx)
  have k1:Kp [x] H H2:=λc o e n=>kp _ _ (by rw[c9 (by simpa using n)];exact s1 _ _ e) n
  have rows2:∀(j:Nat)(p:Addr)(o:List Int),qs[j]?=some p->os[j]?=some o->H p=none/\p≠D/\p≠x/\p≠m/\p≠r/\H2 p=some ↑36:=λj p o hp ho=>by
   obtain⟨a1,a2,a3⟩:=rq j p o hp ho;have px:p≠x:=λz=>by rw[z,ex] at a1;cases a1
   exact⟨a1,a2,px,(λz=>by rw[z,hm] at a3;cases a3),(λz=>by rw[z,hr0] at a3;cases a3),kp _ _ (by rw[c9 px];exact a3) (by simpa using px)⟩
  fail "";refine⟨Nat.zero_le _,λq hq=>?_⟩;have nqx:q≠x:=λz=>by rw[z,d6] at hq;cases hq
  simp only[c9 nqx] at hq;have hq0:H q=none:=by
   cases e:H q with
   | none=>rfl
   | some o=>rw[k1 _ _ e (by simpa using nqx)] at hq;cases hq
  have nqD:q≠D:=λz=>by rw[z,eD2] at hq;cases hq
  have nqm:q≠m:=λz=>by rw[z,em] at hq;cases hq
  have nqr:q≠r:=λz=>by rw[z,er] at hq;cases hq
  fail "";refine k D m r q _ hD hm0 hr1 nDm nDr hmr hq0 nqD nqm nqr ?_ (λc o e n=>?_) ⟨qs,?_,lq,λj p o hp ho=>?_⟩ ?_ ?_ ?_
  ·simp only[c9 nqx,d6]
  ·have nc:c≠x:=by simpa using n
   have ncq:c≠q:=λz=>by rw[z,hq0] at e;cases e
   simp only[c9 nc,c9 ncq];exact k1 _ _ e n
  ·simp only[c9 nDx,c9 (Ne.symm nqD)]
   exact eD2
  ·obtain⟨a1,a2,a3,a4,a5,a6⟩:=rows2 j p o hp ho
   have npq:p≠q:=λz=>by rw[z,hq] at a6;cases a6
   refine⟨a1,a2,by simp[a4,a5,npq],?_⟩
   simp only[c9 a3,c9 npq];exact a6
  ·simp only[c9 nmx,c9 (Ne.symm nqm)]
   exact em
  ·simp only[c9 nrx,c9 (Ne.symm nqr)]
   exact er
  ·rw[d6]
   rfl
theorem b2f{H:Hp}{x dx:Addr}{u o:HO}(hx:H x=none)(hd:H dx=none)(ne:dx≠x):Same H (upd (upd H dx u) x o) :=
 (g3 hd).trans (g3 (by rw[c9 (Ne.symm ne)];exact hx))
def a4k(cl:Cl):Sp:=λvs H Q _=>∃(la dxl bd kt a l:Addr)(n:Nat)(row:List Int)(many:Int)(last:V)(os:List ↑26)(fs:List (Str×V))(fs':Addr->List (Str×V)),vs=[.ref la,.ref a]/\((fs=([("board",.ref bd),("kept_trail",.ref kt)]:List (Str×V))/\∀g,fs' g=([("board",.ref bd),("kept_trail",.ref kt),("giver",.ref g)]:List (Str×V)))\/(∃v u,fs=([("board",.ref bd),("kept_trail",.ref kt),("giver",v),("taker",u)]:List (Str×V))/\∀g,fs' g=([("board",.ref bd),("kept_trail",.ref kt),("giver",.ref g),("taker",u)]:List (Str×V))))/\H la=some (.ins cl.Lane dxl fs)/\Brd cl H bd l n row many last/\Rws H a os/\Good n os/\os.length<=1000 /\
 ∀g dxg D m H',H g=none->H D=none->H m=none->g≠D->g≠m->D≠m->Kp [la] H H'->NRw H H' D [g,m] os->H' m=some (.lst [])->H' g=some (.ins cl.Giver dxg [("kept",.ref D),("board",.ref bd),("name",.str "giver"),("other",.str "taker"),("stage_behind_marks",.str "told"),("stage_now",.str "rouse"),("marks_read",.ref m),("here",.non),("touched",.ref kt),("number",.int (-1)),("left",.int 0)])->H' la=some (.ins cl.Lane dxl (fs' g))->Q .non H'
noncomputable abbrev a2f:Stmt:=m8 (top 100) 1
theorem a4o:g2 ["self","orders","giver"] ["self","orders"] (d7 a2f):=↑1
theorem b2a(D:DefM K cl.Lane "place_giver" "Lane.place_giver" a2f ["self","orders"])(T:↑18)(G_Giver:MakeT P w K mg base "Giver" cl.Giver 3 ["self","board","orders"] (b2r cl)):↑904 cl.Lane "place_giver" 5 ["self","orders"] (a4k cl):=by
 refine D.fn a4o ↑7 ↑3
 ·obtain⟨la,dxl,bd,kt,a,l,n,row,many,last,os,fs,fs',rfl,hfs,ela,hB,hR,hG,hz,k⟩:=h
  refine⟨_,(b9 (i6 (i:=2) a4o.nd rfl ↑23 (d1u G_Giver hr ↑4 rfl g4 (a9 ↑6 ↑15)))
   (b9 (j3 (K:=K) (pv 2) ↑6)
   (d5 (j3 (K:=K) (pv 0) (pv 2))))),?_⟩
  rcases hfs with hs1|hs2
  ·obtain⟨rfl,hfs⟩:=hs1
   fail "";intro x dx hx hdx ne;have sm:=b2f (u:=.own x) (o:=.ins cl.Giver dx []) hx hdx ne;refine⟨x,dx,bd,a,l,n,row,many,last,os,rfl,d6,hB.keep (ps:=[]) (Kp.of sm) (by simp) (by simp),hR.same sm,hG,hz,λD m r H2 hD hm hr0 nDm nDr nmr kp nr em er ex2=>⟨rfl,?_⟩⟩
   have nla:la≠x:=λz=>by rw[<- z,ela] at hx;cases hx
   have ela2:=kp _ _ (sm _ _ ela) (by simpa using nla)
   have nDx:D≠x:=λz=>by rw[z,d6] at hD;cases hD
   have nmx:m≠x:=λz=>by rw[z,d6] at hm;cases hm
   have hD0:=j1 sm hD;have hm0:=j1 sm hm;have nDl:D≠la:=λz=>by rw[z,ela] at hD0;cases hD0
   have nml:m≠la:=λz=>by rw[z,ela] at hm0;cases hm0
   obtain⟨qs,eD,lq,rq⟩:=nr;fail "";refine k x dx D m _ hx hD0 hm0 (Ne.symm nDx) (Ne.symm nmx) nDm (λc o e n=>?_) ⟨qs,?_,lq,λj p o hp ho=>?_⟩ ?_ ?_ ?_
   ·have nc:c≠la:=by simpa using n
    have ncx:c≠x:=λz=>by rw[z,hx] at e;cases e
    simp only[c9 nc,c9 ncx];exact kp _ _ (sm _ _ e) (by simpa using ncx)
   ·simp only[c9 nDx,c9 nDl]
    exact eD
   ·obtain⟨b0,b2,b3,b4⟩:=rq j p o hp ho
    have px:p≠x:=λz=>by rw[z,d6] at b0;cases b0
    have p0:=j1 sm b0;have pl:p≠la:=λz=>by rw[z,ela] at p0;cases p0
    have b1:=(by simpa using b3:p≠m/\p≠r)
    refine⟨p0,b2,by simpa using ⟨px,b1.1⟩,?_⟩
    simp only[c9 px,c9 pl];exact b4
   ·simp only[c9 nmx,c9 nml]
    exact em
   ·rw[c9 (Ne.symm nla),d6]
    rfl
   ·rw[d6,hfs]
    rfl
  ·obtain⟨v,u,rfl,hfs⟩:=hs2
   fail "";intro x dx hx hdx ne;have sm:=b2f (u:=.own x) (o:=.ins cl.Giver dx []) hx hdx ne;refine⟨x,dx,bd,a,l,n,row,many,last,os,rfl,d6,hB.keep (ps:=[]) (Kp.of sm) (by simp) (by simp),hR.same sm,hG,hz,λD m r H2 hD hm hr0 nDm nDr nmr kp nr em er ex2=>⟨rfl,?_⟩⟩
   have nla:la≠x:=λz=>by rw[<- z,ela] at hx;cases hx
   have ela2:=kp _ _ (sm _ _ ela) (by simpa using nla)
   have nDx:D≠x:=λz=>by rw[z,d6] at hD;cases hD
   have nmx:m≠x:=λz=>by rw[z,d6] at hm;cases hm
   have hD0:=j1 sm hD;have hm0:=j1 sm hm;have nDl:D≠la:=λz=>by rw[z,ela] at hD0;cases hD0
   have nml:m≠la:=λz=>by rw[z,ela] at hm0;cases hm0
   obtain⟨qs,eD,lq,rq⟩:=nr;fail "";refine k x dx D m _ hx hD0 hm0 (Ne.symm nDx) (Ne.symm nmx) nDm (λc o e n=>?_) ⟨qs,?_,lq,λj p o hp ho=>?_⟩ ?_ ?_ ?_
   ·have nc:c≠la:=by simpa using n
    have ncx:c≠x:=λz=>by rw[z,hx] at e;cases e
    simp only[c9 nc,c9 ncx];exact kp _ _ (sm _ _ e) (by simpa using ncx)
   ·simp only[c9 nDx,c9 nDl]
    exact eD
   ·obtain⟨b0,b2,b3,b4⟩:=rq j p o hp ho
    have px:p≠x:=λz=>by rw[z,d6] at b0;cases b0
    have p0:=j1 sm b0;have pl:p≠la:=λz=>by rw[z,ela] at p0;cases p0
    have b1:=(by simpa using b3:p≠m/\p≠r)
    refine⟨p0,b2,by simpa using ⟨px,b1.1⟩,?_⟩
    simp only[c9 px,c9 pl];exact b4
   ·simp only[c9 nmx,c9 nml]
    exact em
   ·rw[c9 (Ne.symm nla),d6]
    rfl
   ·rw[d6,hfs]
    rfl
def a4j(cl:Cl):Sp:=λvs H Q _=>∃(la dxl bd kt a l:Addr)(n:Nat)(row:List Int)(many:Int)(last:V)(os:List ↑26)(fs:List (Str×V))(fs':Addr->List (Str×V)),vs=[.ref la,.ref a]/\((∃v,fs=([("board",.ref bd),("kept_trail",.ref kt),("giver",v)]:List (Str×V))/\∀g,fs' g=([("board",.ref bd),("kept_trail",.ref kt),("giver",v),("taker",.ref g)]:List (Str×V)))\/(∃v u,fs=([("board",.ref bd),("kept_trail",.ref kt),("giver",v),("taker",u)]:List (Str×V))/\∀g,fs' g=([("board",.ref bd),("kept_trail",.ref kt),("giver",v),("taker",.ref g)]:List (Str×V))))/\H la=some (.ins cl.Lane dxl fs)/\Brd cl H bd l n row many last/\Rws H a os/\Good n os/\os.length<=1000 /\
 ∀g dxg D m q H',H g=none->H D=none->H m=none->g≠D->g≠m->D≠m->H q=none->q≠g->q≠D->q≠m->H' q=some (.lst [])->Kp [la] H H'->NRw H H' D [g,m,q] os->H' m=some (.lst [])->H' g=some (.ins cl.Taker dxg [("taken",.ref D),("board",.ref bd),("name",.str "taker"),("other",.str "giver"),("stage_behind_marks",.str "look"),("stage_now",.str "rouse"),("marks_read",.ref m),("here",.non),("touched",.ref kt),("not_freed",.non),("number",.int 0),("left",.int 0),("parts",.ref q)])->H' la=some (.ins cl.Lane dxl (fs' g))->Q .non H'
noncomputable abbrev a2e:Stmt:=m8 (top 100) 2
theorem a4n:g2 ["self","book","taker"] ["self","book"] (d7 a2e):=↑1
theorem b1z(D:DefM K cl.Lane "place_taker" "Lane.place_taker" a2e ["self","book"])(T:↑18)(G_Taker:MakeT P w K mg base "Taker" cl.Taker 3 ["self","board","book"] (b2p cl)):↑904 cl.Lane "place_taker" 5 ["self","book"] (a4j cl):=by
 refine D.fn a4n ↑7 ↑3
 ·obtain⟨la,dxl,bd,kt,a,l,n,row,many,last,os,fs,fs',rfl,hfs,ela,hB,hR,hG,hz,k⟩:=h
  refine⟨_,(b9 (i6 (i:=2) a4n.nd rfl ↑23 (d1u G_Taker hr ↑4 rfl g4 (a9 ↑6 ↑15)))
   (b9 (j3 (K:=K) (pv 2) ↑6)
   (d5 (j3 (K:=K) (pv 0) (pv 2))))),?_⟩
  rcases hfs with hs1|hs2
  ·obtain⟨v,rfl,hfs⟩:=hs1
   fail "";intro x dx hx hdx ne;have sm:=b2f (u:=.own x) (o:=.ins cl.Taker dx []) hx hdx ne;refine⟨x,dx,bd,a,l,n,row,many,last,os,rfl,d6,hB.keep (ps:=[]) (Kp.of sm) (by simp) (by simp),hR.same sm,hG,hz,λD m r q H2 hD hm hr0 nDm nDr nmr hq nqD nqm nqr eq kp nr em er ex2=>⟨rfl,?_⟩⟩
   have nla:la≠x:=λz=>by rw[<- z,ela] at hx;cases hx
   have ela2:=kp _ _ (sm _ _ ela) (by simpa using nla)
   have nDx:D≠x:=λz=>by rw[z,d6] at hD;cases hD
   have nmx:m≠x:=λz=>by rw[z,d6] at hm;cases hm
   have hD0:=j1 sm hD;have hm0:=j1 sm hm;have nDl:D≠la:=λz=>by rw[z,ela] at hD0;cases hD0
   have nml:m≠la:=λz=>by rw[z,ela] at hm0;cases hm0
   have nqg:q≠x:=λz=>by rw[z,d6] at hq;cases hq
   have hq0:=j1 sm hq;have nql:q≠la:=λz=>by rw[z,ela] at hq0;cases hq0
   obtain⟨qs,eD,lq,rq⟩:=nr;fail "";refine k x dx D m q _ hx hD0 hm0 (Ne.symm nDx) (Ne.symm nmx) nDm hq0 nqg nqD nqm ?_ (λc o e n=>?_) ⟨qs,?_,lq,λj p o hp ho=>?_⟩ ?_ ?_ ?_
   ·simp only[c9 nql,c9 nqg]
    exact eq
   ·have nc:c≠la:=by simpa using n
    have ncx:c≠x:=λz=>by rw[z,hx] at e;cases e
    simp only[c9 nc,c9 ncx];exact kp _ _ (sm _ _ e) (by simpa using ncx)
   ·simp only[c9 nDx,c9 nDl]
    exact eD
   ·obtain⟨b0,b2,b3,b4⟩:=rq j p o hp ho
    have px:p≠x:=λz=>by rw[z,d6] at b0;cases b0
    have p0:=j1 sm b0;have pl:p≠la:=λz=>by rw[z,ela] at p0;cases p0
    have b1:=(by simpa using b3:p≠m/\p≠r/\p≠q)
    refine⟨p0,b2,by simpa using ⟨px,b1.1,b1.2.2⟩,?_⟩
    simp only[c9 px,c9 pl];exact b4
   ·simp only[c9 nmx,c9 nml]
    exact em
   ·rw[c9 (Ne.symm nla),d6]
    rfl
   ·rw[d6,hfs]
    rfl
  ·obtain⟨v,u,rfl,hfs⟩:=hs2
   fail "";intro x dx hx hdx ne;have sm:=b2f (u:=.own x) (o:=.ins cl.Taker dx []) hx hdx ne;refine⟨x,dx,bd,a,l,n,row,many,last,os,rfl,d6,hB.keep (ps:=[]) (Kp.of sm) (by simp) (by simp),hR.same sm,hG,hz,λD m r q H2 hD hm hr0 nDm nDr nmr hq nqD nqm nqr eq kp nr em er ex2=>⟨rfl,?_⟩⟩
   have nla:la≠x:=λz=>by rw[<- z,ela] at hx;cases hx
   have ela2:=kp _ _ (sm _ _ ela) (by simpa using nla)
   have nDx:D≠x:=λz=>by rw[z,d6] at hD;cases hD
   have nmx:m≠x:=λz=>by rw[z,d6] at hm;cases hm
   have hD0:=j1 sm hD;have hm0:=j1 sm hm;have nDl:D≠la:=λz=>by rw[z,ela] at hD0;cases hD0
   have nml:m≠la:=λz=>by rw[z,ela] at hm0;cases hm0
   have nqg:q≠x:=λz=>by rw[z,d6] at hq;cases hq
   have hq0:=j1 sm hq;have nql:q≠la:=λz=>by rw[z,ela] at hq0;cases hq0
   obtain⟨qs,eD,lq,rq⟩:=nr;fail "";refine k x dx D m q _ hx hD0 hm0 (Ne.symm nDx) (Ne.symm nmx) nDm hq0 nqg nqD nqm ?_ (λc o e n=>?_) ⟨qs,?_,lq,λj p o hp ho=>?_⟩ ?_ ?_ ?_
   ·simp only[c9 nql,c9 nqg]
    exact eq
   ·have nc:c≠la:=by simpa using n
    have ncx:c≠x:=λz=>by rw[z,hx] at e;cases e
    simp only[c9 nc,c9 ncx];exact kp _ _ (sm _ _ e) (by simpa using ncx)
   ·simp only[c9 nDx,c9 nDl]
    exact eD
   ·obtain⟨b0,b2,b3,b4⟩:=rq j p o hp ho
    have px:p≠x:=λz=>by rw[z,d6] at b0;cases b0
    have p0:=j1 sm b0;have pl:p≠la:=λz=>by rw[z,ela] at p0;cases p0
    have b1:=(by simpa using b3:p≠m/\p≠r/\p≠q)
    refine⟨p0,b2,by simpa using ⟨px,b1.1,b1.2.2⟩,?_⟩
    simp only[c9 px,c9 pl];exact b4
   ·simp only[c9 nmx,c9 nml]
    exact em
   ·rw[c9 (Ne.symm nla),d6]
    rfl
   ·rw[d6,hfs]
    rfl
theorem d8f{H:Hp}{x y:Addr}{o u:HO}(hx:H x=some o)(hy:H y=some u)(h:o≠u):x≠y:=λz=>h (by rw[z,hy] at hx;exact(Option.some.inj hx).symm)
noncomputable abbrev e2a(cl:Cl)(dx:Addr)(A:Ad):HO:=.ins cl.Lane dx [("board",.ref A.bd),("kept_trail",.ref A.kt),("giver",.ref A.gv),("taker",.ref A.tk)]
structure LN(cl:Cl)(H:Hp)(la:Addr)(A:Ad)(L:Ln)(tl:List Tr):Prop where
 lr:LR cl H A L tl
 ob:∃dx,H la=some (e2a cl dx A)
 off:∀j,j<8->la≠A.o j
 nfo:¬ A.fo la
def KpL(la:Addr)(A:Ad)(H H':Hp):Prop:=∀x o,H x=some o->x≠la->(∀j,j<8->x≠A.o j)->H' x=some o
def NxA(A A':Ad)(H:Hp):Prop:=(∀j,j<8->A'.o j=A.o j\/H (A'.o j)=none)/\A'.fo=A.fo
theorem NxA.refl(A:Ad)(H:Hp):NxA A A H:=⟨λ_ _=>.inl rfl,rfl⟩
theorem Nx.all{A A':Ad}{H:Hp}(h:Nx A A' H):NxA A A' H:=⟨λj hj=>by
 by_cases e:j=7
 ·subst e;exact h.2.1
 ·exact .inl (h.1 j ↑2),h.2.2⟩
theorem NxA.off{A A':Ad}{H:Hp}{x:Addr}{o:HO}(h:NxA A A' H)(e:H x=some o)(n:∀j,j<8->x≠A.o j):∀j,j<8->x≠A'.o j:=λj hj=>by
 rcases h.1 j hj with z|z
 ·rw[z];exact n j hj
 ·exact λy=>by rw[y,z] at e;cases e
theorem LN.same{H H':Hp}{la:Addr}{A:Ad}{L:Ln}{tl:List Tr}(h:LN cl H la A L tl)(s:Same H H'):LN cl H' la A L tl:=by
 obtain⟨⟨ps,Gq,Tq,lt,a,b⟩,⟨dx,e⟩,o,f⟩:=h;exact⟨⟨ps,Gq,Tq,lt,a.same s,b⟩,⟨dx,s _ _ e⟩,o,f⟩
theorem c7w{n:Nat}(h2:2<=n)(h8:n<=8):a9a n=b9h n (a5m n):=by
 have:n=2\/n=3\/n=4\/n=5\/n=6\/n=7\/n=8:=by lia
 rcases this with rfl|rfl|rfl|rfl|rfl|rfl|rfl <;> decide
def HN(b:Bool)(h:Str):Prop:=(b=true/\h="giver")\/(b=false/\h="taker")
def a5b(cl:Cl):Sp:=λvs H Q _=>ExN λla A L tl=>∃(b:Bool)(h:Str),vs=[.ref la,.str h]/\HN b h/\LN cl H la A L tl/\∀x,HOf A b x->Q (.ref x) H
noncomputable abbrev a2z:Stmt:=m8 (top 100) 3
theorem b2x:g2 ["self","hand"] ["self","hand"] (d7 a2z):=↑1
theorem b3g(D:DefM K cl.Lane "hand_named" "Lane.hand_named" a2z ["self","hand"])(T:↑18)(G_check_hand:↑901 "check_hand" 1 ["hand"] (a6s cl)):↑904 cl.Lane "hand_named" 2 ["self","hand"] (a5b cl):=by
 refine D.fn b2x ↑7 ↑3
 ·obtain⟨la,A,L,tl,b,h,rfl,hh,hN,k⟩:=h
  refine⟨_,(b9 (i3 (i5 G_check_hand hr ↑4 rfl g4 ↑15))
   (d5 (i9 (a5k (g9 v3 (pv 1) g6 ↑32) ↑6 ↑6)))),?_⟩
  obtain⟨dx,ex⟩:=hN.ob;rcases hh with ⟨rfl,rfl⟩|⟨rfl,rfl⟩
  ·fail ""
   refine⟨_,rfl,?_⟩;rw[if_pos ↑23];fail "";rw[if_pos ↑4];fail "";exact k _ (.inl ⟨rfl,rfl⟩)
  ·fail ""
   refine⟨_,rfl,?_⟩;rw[if_pos (.inr rfl)];fail "";rw[if_neg ↑4];fail "";exact k _ (.inr ⟨rfl,rfl⟩)
def a4l(cl:Cl):Sp:=λvs H Q _=>ExN λla A L tl=>∃(a:Addr)(o:List Int),vs=[.ref la,.ref a]/\LN cl H la A L tl/\H a=some ↑36/\1<=o.length/\o.length<=L.n/\L.os.length<=400/\∀H',LN cl H' la A (a0t L o) tl->KpL la A H H'->Q (.int L.os.length) H'
noncomputable abbrev a5v:Stmt:=m8 (top 100) 4
theorem b6y:g2 ["self","order"] ["self","order"] (d7 a5v):=↑1
theorem b7r(D:DefM K cl.Lane "hand_in" "Lane.hand_in" a5v ["self","order"])(T:↑18)(GA:↑902 "add" 2 ["self","order"] (b5i cl)):↑904 cl.Lane "hand_in" 3 ["self","order"] (a4l cl):=by
 refine D.fn b6y ↑7 ↑3
 ·obtain⟨la,A,L,tl,a,o,rfl,hN,ea,o1,o2,os4,k⟩:=h
  refine⟨_,(d5 (i9 (c7z (k:=2) ↑6 hr ↑4 g4 ↑15))),?_⟩;obtain⟨dx,ex⟩:=hN.ob;obtain⟨_,_,_,_,hL,_⟩:=id hN.lr;obtain⟨dxg,eg⟩:=hL.gv;fail "e";refine⟨A.gv,cl.Giver,dxg,_,_,_,rfl,eg,rfl,T.k_Giver,GA,?_⟩;fail "";refine⟨A,L,tl,a,o,rfl,hN.lr,ea,o1,o2,os4,λH' z1 z2=>?_⟩;exact k H' ⟨z1,⟨dx,z2 _ _ ex hN.off⟩,hN.off,hN.nfo⟩ (λx o e _ n=>z2 x o e n)
def a7t(cl:Cl):Sp:=λvs H Q _=>ExN λla A L tl=>∃(b:Bool)(h:Str),vs=[.ref la,.str h]/\HN b h/\LN cl H la A L tl/\L.os.length<=400/\tl.length<=4000000/\∀H' A',LN cl H' la A' (a6m b L) (trB b L tl)->KpL la A H H'->NxA A A' H->Q (.bl (!a4b b L)) H'
def c0g(cl:Cl)(b:Bool):Sp:=λvs H Q E=>∃(A:Ad)(L:Ln)(tl:List Tr),vs=[.ref (if b then A.gv else A.tk)]/\LR cl H A L tl/\L.os.length<=400/\tl.length<=4000000/\∀H' A',LR cl H' A' (a6m b L) (trB b L tl)->KpA A H H'->Nx A A' H->Q (.bl (!a4b b L)) H'
noncomputable abbrev b1r:Stmt:=m8 (top 100) 5
theorem c3g:g2 ["self","hand"] ["self","hand"] (d7 b1r):=↑1
theorem c4l(D:DefM K cl.Lane "step" "Lane.step" b1r ["self","hand"])(T:↑18)(G_Lane_hand_named:↑904 cl.Lane "hand_named" 2 ["self","hand"] (a5b cl))(GS:↑902 "step" 8 ["self"] (c0g cl true))(TS:↑903 "step" 8 ["self"] (c0g cl false)):↑904 cl.Lane "step" 9 ["self","hand"] (a7t cl):=by
 refine D.fn c3g ↑7 ↑3
 ·obtain⟨la,A,L,tl,b,h,rfl,hh,hN,os4,tl5,k⟩:=h
  refine⟨_,(d5 (i9 (a0h (k:=8) (a3m (pv 0) T.k_Lane G_Lane_hand_named hr ↑4 g4 ↑15) hr ↑4 g4))),?_⟩;obtain⟨dx,ex⟩:=hN.ob;obtain⟨_,_,_,_,hL,_⟩:=id hN.lr;fail "h";fail "e";refine⟨la,A,L,tl,b,h,rfl,hh,hN,λx hx=>?_⟩;have fin:∀H' A',LR cl H' A' (a6m b L) (trB b L tl)->KpA A H H'->Nx A A' H->Q (.bl (!a4b b L)) H':=λH' A' z1 z2 z3=>by
   refine k H' A' ⟨z1,⟨dx,?_⟩,z3.all.off ex hN.off,(by rw[z3.2.2];exact hN.nfo)⟩ (λx o e _ n=>z2 x o e n) z3.all
   have:=z2 _ _ ex hN.off;rw[this];unfold e2a Ad.bd Ad.kt Ad.gv Ad.tk;rw[z3.1 0 ↑2,z3.1 4 ↑2,z3.1 2 ↑2,z3.1 3 ↑2]
  rcases hx with ⟨rfl,rfl⟩|⟨rfl,rfl⟩
  ·refine⟨A.gv,cl.Giver,dxg,_,_,_,rfl,eg,rfl,T.k_Giver,GS,?_⟩
   fail "";exact⟨A,L,tl,rfl,hN.lr,os4,tl5,fin⟩
  ·refine⟨A.tk,cl.Taker,dxt,_,_,_,rfl,et,rfl,T.k_Taker,TS,?_⟩
   fail "";exact⟨A,L,tl,rfl,hN.lr,os4,tl5,fin⟩
theorem NewRows.rws{H H':Hp}{p:Addr}{os:List ↑26}(h:NewRows H H' p os):Rws H' p os:=by
 obtain⟨_,_,ps,e,l,r⟩:=h;exact⟨ps,e,l,λi q o a b=>(r i q o a b).2.2⟩
theorem d1d{H:Hp}{a:Addr}(h:H a=some (.lst [])):Rws H a []:=⟨[],h,rfl,λi p o hp=>by simp at hp⟩
theorem c7a{H H':Hp}{D:Addr}{S:List Addr}(h:NRw H H' D S []):H' D=some (.lst []):=by
 obtain⟨ps,e,l,_⟩:=h;have:ps=[]:=List.length_eq_zero_iff.mp l;subst this;exact e
def a7u(cl:Cl):Sp:=λvs H Q _=>∃(la dx:Addr)(n:Nat),vs=[.ref la,.int n]/\H la=some (.ins cl.Lane dx [])/\2<=n/\n<=8/\∃F:Addr->Prop,(∀x,F x->x≠la/\∃o,H x=some o)/\∀A H',A.fo=F->LN cl H' la A (a0i n) []->Kp [la] H H'->(∀j,j<8->H (A.o j)=none)->(∀x,Unl H' A.bd x)->Q .non H'
noncomputable abbrev b1s:Stmt:=m8 (top 100) 0
theorem c3h:g2 ["self","size"] ["self","size"] (d7 b1s):=↑1
theorem c4m(D:DefM K cl.Lane "__init__" "Lane.__init__" b1s ["self","size"])(T:↑18)(G_Board:MakeT P w K mg base "Board" cl.Board 2 ["self","size"] (b2s cl))(G_Lane_place_giver:↑904 cl.Lane "place_giver" 5 ["self","orders"] (a4k cl))(G_Lane_place_taker:↑904 cl.Lane "place_taker" 5 ["self","book"] (a4j cl)):↑904 cl.Lane "__init__" 6 ["self","size"] (a7u cl):=by
 refine D.fn c3h ↑7 ↑3
 ·obtain⟨la,dx,n,rfl,ela,n2,n8,F,hF,k⟩:=h
  refine⟨_,(b9 (j3 (K:=K) (pv 0) (d1u G_Board hr ↑4 rfl g4 ↑15))
   (b9 (j3 (K:=K) (pv 0) (k8 d9))
   (b9 (i3 (a3m (pv 0) T.k_Lane G_Lane_place_giver hr ↑4 g4 (a9 (k8 d9) d9)))
   (d5 (i3 (a3m (pv 0) T.k_Lane G_Lane_place_taker hr ↑4 g4 (a9 (k8 d9) d9))))))),?_⟩
  fail "";intro bd dxb hbd hdxb ne;have sm:=b2f (u:=.own bd) (o:=.ins cl.Board dxb []) hbd hdxb ne;refine⟨bd,dxb,n,rfl,d6,?_⟩;rw[if_pos ⟨by lia,by lia⟩]
  intro l H1 hl kp1 hB1;refine⟨rfl,?_⟩;rw[show((n:Nat):Int).toNat=n from rfl] at hB1;have hl0:=j1 sm hl;have nlb:la≠bd:=λz=>by rw[<- z,ela] at hbd;cases hbd
  have nll:la≠l:=λz=>by rw[<- z,ela] at hl0;cases hl0
  have ela1:=kp1 _ _ (sm _ _ ela) (by simpa using nlb)
  have n01:bd≠l:=by
   obtain⟨⟨_,e1⟩,e2,_⟩:=hB1;exact d8f e1 e2 (λz=>(nomatch z))
  have kH1:∀x o,H x=some o->x≠la->H1 x=some o:=λx o e _=>kp1 _ _ (sm _ _ e) (by simpa using λz=>by rw[z,hbd] at e;cases e)
  fail "";refine⟨Nat.zero_le _,λkt hkt=>?_⟩;have nkl:kt≠la:=λz=>by rw[z,d6] at hkt;cases hkt
  rw[c9 nkl] at hkt;have n04:bd≠kt:=λz=>by obtain⟨⟨_,e1⟩,_⟩:=hB1;rw[z,hkt] at e1;cases e1
  have n14:l≠kt:=λz=>by obtain⟨_,e1,_⟩:=hB1;rw[z,hkt] at e1;cases e1
  have hkt0:H kt=none:=by
   cases e:H kt with
   | none=>rfl
   | some o=>rw[kH1 _ _ e nkl] at hkt;cases hkt
  fail "";refine⟨Nat.zero_le _,λa1 ha1=>?_⟩;have na1:a1≠la:=λz=>by rw[z,d6] at ha1;cases ha1
  have nak:a1≠kt:=λz=>by rw[z,c9 nkl,d6] at ha1;cases ha1
  simp only[c9 na1,c9 nak] at ha1;fail "";generalize e3:upd (upd (upd (upd H1 la _) kt _) la _) a1 _=H3;have l3:H3 la=some (.ins cl.Lane dx [("board",.ref bd),("kept_trail",.ref kt)]):=by rw[<- e3,c9 (Ne.symm na1),d6];rfl
  have k3:∀x o,H1 x=some o->x≠la->H3 x=some o:=λx o e nx=>by
   rw[<- e3,c9 (λz=>by rw[z,ha1] at e;cases e),c9 nx,c9 (λz=>by rw[z,hkt] at e;cases e),c9 nx]
   exact e
  have t3:H3 kt=some (.lst []):=by rw[<- e3,c9 (Ne.symm nak),c9 nkl,d6]
  have a3:H3 a1=some (.lst []):=by rw[<- e3,d6]
  have hB3:Brd cl H3 bd l n (a9a n) 0 .non:=hB1.keep (ps:=[la]) (λc o e nn=>k3 c o e (by simpa using nn)) (by simpa using Ne.symm nlb) (by simpa using Ne.symm nll)
  have kH3:∀x o,H x=some o->x≠la->H3 x=some o:=λx o e nx=>k3 x o (kH1 x o e nx) nx;clear e3;refine⟨la,dx,bd,kt,a1,l,n,a9a n,0,.non,[],_,_,rfl,.inl ⟨rfl,λ_=>rfl⟩,l3,hB3,d1d a3,(λo ho=>by cases ho),by decide,λg dxg D m H4 hg hD hm gD gm Dm kp4 nr4 em4 eg4 l4=>?_⟩
  fail "";refine⟨Nat.zero_le _,λa2 ha2=>?_⟩;fail "";generalize e5:upd H4 a2 _=H5;have s5:Same H4 H5:=by rw[<- e5];exact g3 ha2
  have a5:H5 a2=some (.lst []):=by rw[<- e5,d6]
  clear e5;have k35:Kp [la] H3 H5:=λx o e nx=>s5 _ _ (kp4 x o e nx);have hB5:=hB3.keep k35 (by simpa using Ne.symm nlb) (by simpa using Ne.symm nll)
  refine⟨la,dx,bd,kt,a2,l,n,a9a n,0,.non,[],_,_,rfl,.inl ⟨.ref g,rfl,λ_=>rfl⟩,s5 _ _ l4,hB5,d1d a5,(λo ho=>by cases ho),by decide,λt dxt D2 m2 q H6 ht hD2 hm2 tD2 tm2 Dm2 hq qt qD2 qm2 eq6 kp6 nr6 em6 et6 l6=>?_⟩
  obtain⟨⟨dxb3,eb3⟩,el3,_⟩:=id hB3;have g5:=s5 _ _ eg4;have D5:=s5 _ _ (c7a nr4);have m5:=s5 _ _ em4;have t5:=k35 _ _ t3 (by simpa using nkl)
  have eb5:=k35 _ _ eb3 (by simpa using Ne.symm nlb)
  have el5:=k35 _ _ el3 (by simpa using Ne.symm nll)
  have sN:∀{H:Hp}{x y:Addr}{o:HO},H x=some o->H y=none->x≠y:=λe1 e2 z=>by rw[z,e2] at e1;cases e1
  have lg:=sN l3 hg;have lD:=sN l3 hD;have lm:=sN l3 hm;have l5:=s5 _ _ l4;have lt:=sN l5 ht;have lD2:=sN l5 hD2;have lm2:=sN l5 hm2;have lq:=sN l5 hq;have hB6:=hB5.keep kp6 (by simpa using Ne.symm nlb) (by simpa using Ne.symm nll)
  rw[c7w n2 n8] at hB6;have k6:∀x o,H5 x=some o->la≠x->H6 x=some o:=λx o e nx=>kp6 x o e (by simpa using Ne.symm nx)
  have d01:bd≠l:=n01;have d02:bd≠g:=sN eb3 hg;have d03:bd≠t:=sN eb5 ht;have d04:bd≠kt:=n04;have d05:bd≠D:=sN eb3 hD;have d06:bd≠D2:=sN eb5 hD2;have d07:bd≠q:=sN eb5 hq;have d12:l≠g:=sN el3 hg;have d13:l≠t:=sN el5 ht;have d14:l≠kt:=n14;have d15:l≠D:=sN el3 hD;have d16:l≠D2:=sN el5 hD2;have d17:l≠q:=sN el5 hq;have d23:g≠t:=sN g5 ht;have d24:g≠kt:=Ne.symm (sN t3 hg);have d25:g≠D:=gD;have d26:g≠D2:=sN g5 hD2;have d27:g≠q:=sN g5 hq;have d34:t≠kt:=Ne.symm (sN t5 ht);have d35:t≠D:=Ne.symm (sN D5 ht);have d36:t≠D2:=tD2;have d37:t≠q:=Ne.symm qt;have d45:kt≠D:=sN t3 hD;have d46:kt≠D2:=sN t5 hD2;have d47:kt≠q:=sN t5 hq;have d56:D≠D2:=sN D5 hD2;have d57:D≠q:=sN D5 hq;have d67:D2≠q:=Ne.symm qD2;have e0:m≠bd:=Ne.symm (sN eb3 hm);have f0:m2≠bd:=Ne.symm (sN eb5 hm2);have o0:la≠bd:=nlb;have e1:m≠l:=Ne.symm (sN el3 hm);have f1:m2≠l:=Ne.symm (sN el5 hm2);have o1:la≠l:=nll;have e2:m≠g:=Ne.symm gm;have f2:m2≠g:=Ne.symm (sN g5 hm2);have o2:la≠g:=lg;have e3:m≠t:=sN m5 ht;have f3:m2≠t:=Ne.symm tm2;have o3:la≠t:=lt;have e4:m≠kt:=Ne.symm (sN t3 hm);have f4:m2≠kt:=Ne.symm (sN t5 hm2);have o4:la≠kt:=Ne.symm nkl;have e5:m≠D:=Ne.symm Dm;have f5:m2≠D:=Ne.symm (sN D5 hm2);have o5:la≠D:=lD;have e6:m≠D2:=sN m5 hD2;have f6:m2≠D2:=Ne.symm Dm2;have o6:la≠D2:=lD2;have e7:m≠q:=sN m5 hq;have f7:m2≠q:=Ne.symm qm2;have o7:la≠q:=lq;have back3:∀x,la≠x->H3 x=none->H x=none:=λx nx e=>by
   cases z:H x with
   | none=>rfl
   | some o=>rw[kH3 _ _ z (Ne.symm nx)] at e;cases e
  have back5:∀x,la≠x->H5 x=none->H x=none:=λx nx e=>back3 x nx (by
   cases z:H3 x with
   | none=>rfl
   | some o=>rw[k35 _ _ z (by simpa using Ne.symm nx)] at e;cases e)
  have h0:H bd=none:=hbd;have h1:H l=none:=hl0;have h2:H g=none:=back3 _ lg hg;have h3:H t=none:=back5 _ lt ht;have h4:H kt=none:=hkt0;have h5:H D=none:=back3 _ lD hD;have h6:H D2=none:=back5 _ lD2 hD2;have h7:H q=none:=back5 _ lq hq;have j8:∀j,j<8->j=0\/j=1\/j=2\/j=3\/j=4\/j=5\/j=6\/j=7:=λj hj=>by lia
  refine k ⟨λj=>[bd,l,g,t,kt,D,D2,q].getD j bd,m,m2,F⟩ H6 rfl ⟨⟨[],⟨"rouse",.non,-1,0⟩,⟨"rouse",.non,.non,0,0⟩,(),⟨⟨0,.non,hB6,rfl,(λ_=>rfl),(λq z=>(nomatch z))⟩,⟨dxg,k6 _ _ g5 lg⟩,⟨dxt,et6⟩,k6 _ _ m5 lm,em6,⟨[],k6 _ _ D5 lD,rfl,λi p o hp=>by simp at hp⟩,⟨[],c7a nr6,rfl,λi p o hp=>by simp at hp⟩,eq6,⟨[],k6 _ _ t5 (Ne.symm nkl),rfl,λi p o hp=>by simp at hp⟩,?_,?_,?_⟩,⟨rfl,(λz=>(nomatch (show true=false from z))),(λz=>(nomatch (show true=false from z))),(λz=>(nomatch (show true=false from z))),λ_=>rfl⟩,⟨rfl,(λz=>(nomatch (show true=false from z))),(λz=>(nomatch (show true=false from z))),(λz=>by rcases z with z|z <;> exact(nomatch (show Stg.rouse=_ from z))),(λz=>(nomatch (show Stg.rouse=Stg.thing from z))),(if_pos ↑23).symm,λ_=>⟨rfl,rfl⟩⟩,b9n n2 n8⟩,⟨dx,l6⟩,?_,(λz=>(hF la z).1 rfl)⟩ ?_ ?_ ?_
  ·intro i j hi hj ij
   rcases j8 i hi with rfl|rfl|rfl|rfl|rfl|rfl|rfl|rfl <;> rcases j8 j hj with rfl|rfl|rfl|rfl|rfl|rfl|rfl|rfl <;> first|exact absurd rfl ij|assumption|(apply Ne.symm;assumption)
  ·intro i hi
   rcases j8 i hi with rfl|rfl|rfl|rfl|rfl|rfl|rfl|rfl <;> exact⟨by assumption,by assumption⟩
  ·intro x hx
   obtain⟨xl,o,ex⟩:=hF x hx;have x6:∀y,H y=none->x≠y:=λy hy z=>by rw[z,hy] at ex;cases ex
   have ex6:H6 x=some o:=k6 _ _ (k35 _ _ (kH3 _ _ ex xl) (by simpa using xl)) (Ne.symm xl)
   refine⟨⟨o,ex6⟩,?_,x6 _ (back3 _ lm hm),x6 _ (back5 _ lm2 hm2),?_,?_,?_⟩
   ·intro i hi
    rcases j8 i hi with rfl|rfl|rfl|rfl|rfl|rfl|rfl|rfl <;> (apply x6;assumption)
   ·intro xs z
    have:=k6 _ _ D5 lD;rw[show H6 D=some (.lst xs) from z] at this;cases this;exact λq=>by cases q
   ·intro xs z
    have:=c7a nr6;rw[show H6 D2=some (.lst xs) from z] at this;cases this;exact λq=>by cases q
   ·intro C dx2 fs z
    obtain⟨⟨dxb6,eb6⟩,_⟩:=hB6;rw[show H6 bd=some (.ins C dx2 fs) from z] at eb6;cases eb6;exact λq=>by cases q
  ·intro i hi
   rcases j8 i hi with rfl|rfl|rfl|rfl|rfl|rfl|rfl|rfl <;> assumption
  ·intro c o e nc
   exact k6 _ _ (k35 _ _ (kH3 _ _ e (by simpa using nc)) nc) (λz=>by simp[z] at nc)
  ·intro i hi
   rcases j8 i hi with rfl|rfl|rfl|rfl|rfl|rfl|rfl|rfl <;> assumption
  ·intro x C dx2 fs z
   obtain⟨⟨dxb6,eb6⟩,_⟩:=hB6;rw[show H6 bd=some (.ins C dx2 fs) from z] at eb6;cases eb6;exact λq=>by cases q
def e4c(b:Bool)(L:Ln):Stg:=if b then L.gs else L.ts
theorem a9g{a b:Stg}(h:a0a a=a0a b):a=b:=by cases a <;> cases b <;> first|rfl|exact absurd h ↑4
noncomputable abbrev b5n:Stmt:=m8 (top 72) 1
noncomputable abbrev b5l:Stmt:=m8 (top 100) 7
noncomputable abbrev b5m:Stmt:=m8 (top 100) 14
end
noncomputable def nc:HO->Bool
 | .own _=>false
 | .tbl _=>false
 | .frz _ _=>false
 | _=>true
noncomputable def ow(H:Hp):Hp:=λx=>match H x with
 | some o=>if nc o=true then some o else none
 | none=>none
section
variable{cl:Cl}{H H1':Hp}{F F2:Addr->Prop}{la la2:Addr}{A A' A2:Ad}{L L' L2':Ln}{tl tl' tl2:List Tr}
theorem b4n{x:Addr}{o:HO}(e:H x=some o)(n:nc o=true):ow H x=some o:=by
 unfold ow;rw[e];exact if_pos n
theorem d5h{x:Addr}{o:HO}(e:ow H x=some o):H x=some o/\nc o=true:=by
 unfold ow at e;split at e
 ·rename_i u q
  split at e
  ·rename_i n;cases e;exact⟨q,n⟩
  ·cases e
 ·cases e
theorem a9b{o:HO}(n:nc o=true):∀a,o≠.own a:=λa z=>by rw[z] at n;cases n
theorem LN.ow(h:LN cl H la A L tl)(nf:∀x,¬ A.fo x):LN cl (ow H) la A L tl:=by
 obtain⟨⟨ps,Gq,Tq,lt,a,b⟩,⟨dx,e⟩,o,f⟩:=h;refine⟨⟨ps,Gq,Tq,lt,?_,b⟩,⟨dx,b4n e rfl⟩,o,f⟩;obtain⟨⟨m,l,⟨⟨d0,e0⟩,e1,z⟩,y⟩,⟨d2,e2⟩,⟨d3,e3⟩,e4,e5,e6,e7,e8,e9,nd,om,fo⟩:=a;have ro:∀{a os},RwsX A H a os->RwsX A (S.ow H) a os:=λh=>by
  obtain⟨ps,e,l,r⟩:=h;exact⟨ps,b4n e rfl,l,λi p o hp ho=>⟨(r i p o hp ho).1,b4n (r i p o hp ho).2 rfl⟩⟩
 refine⟨⟨m,l,⟨⟨d0,b4n e0 rfl⟩,b4n e1 rfl,z⟩,?_⟩,⟨d2,b4n e2 rfl⟩,⟨d3,b4n e3 rfl⟩,b4n e4 rfl,b4n e5 rfl,ro e6,ro e7,b4n e8 rfl,?_,nd,om,λx hx=>absurd hx (nf x)⟩
 ·obtain⟨y1,y2,y3⟩:=y
  refine⟨y1,y2,λq hq=>?_⟩;obtain⟨t,u1,u2,u3⟩:=y3 q hq;exact⟨t,u1,u2,b4n u3 rfl⟩
 ·obtain⟨ps,e,l,r⟩:=e9
  refine⟨ps,b4n e rfl,l,λi p t hp ht=>?_⟩;obtain⟨r1,r2,r3⟩:=r i p t hp ht;exact⟨r1,r2,b4n r3 rfl⟩
def c8r(H:Hp)(x:Addr):Prop:=∃o,H x=some o/\b8i (some o)=false/\∀a,o≠.own a
structure LP(cl:Cl)(H:Hp)(F:Addr->Prop)(la:Addr)(A:Ad)(L:Ln)(tl:List Tr):Prop where
 ln:LN cl (rs F H) la A L tl
 dom:∀x,F x->c8r H x
 nf:∀x,¬ A.fo x
theorem c7g{x:Addr}{o:HO}(ot:Out H1' (rs F H) H)(e:H x=some o)(n:∀a,o≠.own a)(nx:b8i (some o)=false)(hF:¬ F x):jn H1' (rs F H) H x=some o/\¬ c8r H1' x:=by
 have h1:rs F H x=none:=c3k e n (by rw[e,nx];exact λz=>z.elim hF (λq=>by cases q))
 have h2:=ot.fr x o e h1;refine⟨(c2d h1 h2).trans e,λz=>?_⟩;obtain⟨_,q,_⟩:=z;rw[h2] at q;cases q
theorem LP.behind(ot:Out H1' (rs F H) H)(n:LN cl H1' la A' L' tl')(nf:∀x,¬ A'.fo x):LP cl (jn H1' (rs F H) H) (c8r H1') la A' L' tl':=by
 refine⟨(n.ow nf).same λx o e=>?_,λx hx=>?_,nf⟩
 ·have e':H1' x=some o/\∀a,o≠.own a:=⟨(d5h e).1,a9b (d5h e).2⟩
  have ej:=a3d (H1:=rs F H) (H:=H) e'.1;refine b5x ej e'.2 ?_;cases q:b8i (some o) with
  | true=>right;rw[ej];exact q
  | false=>left;exact⟨o,e'.1,q,e'.2⟩
 ·obtain⟨o,e,z⟩:=hx
  exact⟨o,a3d e,z⟩
end
end
section
open PySem L2 Pr
section
variable{P:Program}{w:World}{K:Frag}{mg:Str->Option Value}{base:Heap}{cl:Cl}
theorem e7g{nx:St->Hp->Prop}{σ:St}{H:Hp}{a:Addr}{kvs:List (Key×V)}{s:Str}{v:V}(h:H a=some (.dK kvs))(l:kvs.length<sizeLine)(q:nx σ (upd H a (.dK (b5q kvs (.inr s) v)))):∃a' H',V.ref a=.ref a'/\DPut H a' (.str s) v H'/\nx σ H' :=
 ⟨a,_,rfl,DPut.k (k:=.inr s) h l,q⟩
local macro_rules | `(tactic| walk_at "go1")=>`(tactic| walk_at "ga")
local macro_rules | `(tactic| walk_at "dg")=>`(tactic| ((refine' g_dg ?h ?v ?_);(case h=>assumption);(case v=>exact rfl)))
structure Hd where
 st:Str
 sp:Hr
 fi:Hr
 se:List Int
 at_:Int
 pa:Int
 ps:List Int
 le:Int
structure Ow where
 n:Nat
 c:List Int
 g:Hd
 t:Hd
 os:List ↑26
 bk:List ↑26
 tr:List Tr
noncomputable def kvH(x:Hd)(s p:Addr):List (Key×V):=[(.inr "stage",.str x.st),(.inr "spot",x.sp.v),(.inr "first",x.fi.v),(.inr "seen",.ref s),(.inr "at",.int x.at_),(.inr "part",.int x.pa),(.inr "parts",.ref p),(.inr "left",.int x.le)]
noncomputable def hdO(x:Hd)(s p:Addr):HO:=.dK (kvH x s p)
noncomputable def d5k(s:Ow)(a:Nat->Addr)(ks bs ts:List Addr):Nat->HO
 | 0=>.dK [(.inr "size",.int s.n),(.inr "cells",.ref (a 1)),(.inr "hands",.ref (a 2)),(.inr "orders",.ref (a 9)),(.inr "book",.ref (a 10)),(.inr "trail",.ref (a 11))]
 | 1=>.lst (s.c.map V.int)
 | 2=>.lst [.ref (a 3),.ref (a 4)]
 | 3=>hdO s.g (a 5) (a 7)
 | 4=>hdO s.t (a 6) (a 8)
 | 5=>.lst (s.g.se.map V.int)
 | 6=>.lst (s.t.se.map V.int)
 | 7=>.lst (s.g.ps.map V.int)
 | 8=>.lst (s.t.ps.map V.int)
 | 9=>.lst (ks.map V.ref)
 | 10=>.lst (bs.map V.ref)
 | _=>.lst (ts.map V.ref)
def RwO(H:Hp)(a:Nat->Addr)(ps:List Addr)(os:List ↑26):Prop:=ps.length=os.length/\∀(i:Nat)(p:Addr)(o:List Int),ps[i]?=some p->os[i]?=some o->(∀j,j<12->p≠a j)/\H p=some ↑36
def TrO(H:Hp)(ps:List Addr)(tl:List Tr):Prop:=ps.length=tl.length/\∀(i:Nat)(p:Addr)(t:Tr),ps[i]?=some p->tl[i]?=some t->H p=some (d4h t)
structure OWx(H:Hp)(a:Nat->Addr)(s:Ow)(ks bs ts:List Addr):Prop where
 inj:∀i j,i<12->j<12->i≠j->a i≠a j
 ob:∀k,k<12->H (a k)=some (d5k s a ks bs ts k)
 rk:RwO H a ks s.os
 rb:RwO H a bs s.bk
 rt:TrO H ts s.tr
def OW(H:Hp)(a:Nat->Addr)(s:Ow):Prop:=∃ks bs ts,OWx H a s ks bs ts
theorem OWx.same{H H':Hp}{a:Nat->Addr}{s:Ow}{ks bs ts:List Addr}(h:OWx H a s ks bs ts)(m:Same H H'):OWx H' a s ks bs ts :=
 ⟨h.inj,λk hk=>m _ _ (h.ob k hk),⟨h.rk.1,λi p o hp ho=>⟨(h.rk.2 i p o hp ho).1,m _ _ (h.rk.2 i p o hp ho).2⟩⟩,⟨h.rb.1,λi p o hp ho=>⟨(h.rb.2 i p o hp ho).1,m _ _ (h.rb.2 i p o hp ho).2⟩⟩,⟨h.rt.1,λi p o hp ho=>m _ _ (h.rt.2 i p o hp ho)⟩⟩
def e1v:HO->Prop|.tup _=>False|_=>True
theorem d2i(s:Ow)(a:Nat->Addr)(ks bs ts:List Addr)(k:Nat):e1v (d5k s a ks bs ts k):=by
 unfold d5k hdO;split <;> exact True.intro
theorem OWx.set{H:Hp}{a:Nat->Addr}{s s':Ow}{ks bs ts:List Addr}(h:OWx H a s ks bs ts){k:Nat}(hk:k<12)(he:∀j,j<12->j≠k->d5k s' a ks bs ts j=d5k s a ks bs ts j)(eo:s'.os=s.os)(eb:s'.bk=s.bk)(et:s'.tr=s.tr){o:HO}(ho:o=d5k s' a ks bs ts k):OWx (upd H (a k) o) a s' ks bs ts:=by
 refine⟨h.inj,λj hj=>?_,?_,?_,?_⟩
 ·by_cases z:j=k
  ·subst z;rw[d6,ho]
  ·rw[c9 (h.inj j k hj hk z),h.ob j hj,he j hj z]
 ·rw[eo];exact⟨h.rk.1,λi p o hp ho=>⟨(h.rk.2 i p o hp ho).1,by rw[c9 ((h.rk.2 i p o hp ho).1 k hk)];exact(h.rk.2 i p o hp ho).2⟩⟩
 ·rw[eb];exact⟨h.rb.1,λi p o hp ho=>⟨(h.rb.2 i p o hp ho).1,by rw[c9 ((h.rb.2 i p o hp ho).1 k hk)];exact(h.rb.2 i p o hp ho).2⟩⟩
 ·rw[et]
  refine⟨h.rt.1,λi p t hp ht=>?_⟩;have e:=h.rt.2 i p t hp ht;rw[c9]
  ·exact e
  ·rintro rfl
   have:=d2i s a ks bs ts k;rw[h.ob k hk] at e;injection e with e
   rw[e] at this;exact this
theorem OWx.push{H:Hp}{a:Nat->Addr}{s:Ow}{ks bs ts:List Addr}(h:OWx H a s ks bs ts){t:Tr}{p:Addr}(hp:H p=some (d4h t)):OWx (upd H (a 11) (.lst ((ts++[p]).map V.ref))) a { s with tr:=s.tr++[t] } ks bs (ts++[p]):=by
 have nt:∀(q:Addr)(u:Tr),H q=some (d4h u)->q≠a 11:=λq u e z=>by
  rw[z,h.ob 11 ↑4] at e;injection e with e
  cases e
 refine⟨h.inj,λj hj=>?_,⟨h.rk.1,λi p o hp ho=>⟨(h.rk.2 i p o hp ho).1,by rw[c9 ((h.rk.2 i p o hp ho).1 11 ↑4)];exact(h.rk.2 i p o hp ho).2⟩⟩,⟨h.rb.1,λi p o hp ho=>⟨(h.rb.2 i p o hp ho).1,by rw[c9 ((h.rb.2 i p o hp ho).1 11 ↑4)];exact(h.rb.2 i p o hp ho).2⟩⟩,by rw[List.length_append,List.length_append,h.rt.1];rfl,λi q u hq hu=>?_⟩
 ·by_cases z:j=11
  ·subst z;exact d6
  ·rw[c9 (h.inj j 11 hj ↑4 z),h.ob j hj]
   have:j=0\/j=1\/j=2\/j=3\/j=4\/j=5\/j=6\/j=7\/j=8\/j=9\/j=10:=by lia
   rcases this with rfl|rfl|rfl|rfl|rfl|rfl|rfl|rfl|rfl|rfl|rfl <;> rfl
 ·by_cases z:i<ts.length
  ·rw[List.getElem?_append_left z] at hq
   rw[List.getElem?_append_left (by rw[<- h.rt.1];exact z)] at hu
   have e:=h.rt.2 i q u hq hu;rw[c9 (nt q u e)];exact e
  ·rw[List.getElem?_append_right ↑2] at hq
   have:i=ts.length:=by
    by_cases y:i-ts.length=0
    ·lia
    ·rw[List.getElem?_eq_none (by simp;lia)] at hq;cases hq
   subst this;rw[Nat.sub_self] at hq;rw[List.getElem?_append_right (by rw[h.rt.1];exact Nat.le_refl _),h.rt.1,Nat.sub_self] at hu
   cases hq;cases hu;rw[c9 (nt _ _ hp)];exact hp
theorem nwS{H H':Hp}{p:Addr}{o:HO}(u:upd H p o=H')(h:H p=none):Same H H'/\H' p=some o:=by subst u;exact⟨g3 h,d6⟩
def wi(b:Bool):Int:=if b then 0 else 1
def vO:Option Int->V|none=>.non|some x=>.int x
noncomputable def j4(s:Ow)(b:Bool)(k:Nat)(v:Option Int):Ow :=
 let c':=match v with|none=>s.c|some x=>s.c.set k x
 { s with c:=c',tr:=s.tr++[(b,⟨v.isSome,k,c'.getD k 0⟩)] }
def KpO(a:Nat->Addr)(H H':Hp):Prop:=∀x o,H x=some o->(∀j,j<12->x≠a j)->H' x=some o
def v2:Sp:=λvs H Q _=>∃(a:Nat->Addr)(s:Ow)(b:Bool)(k:Nat)(v:Option Int),vs=[.ref (a 0),.int (wi b),.int k,vO v]/\OW H a s/\k<s.c.length/\s.c.length<=100/\s.tr.length<=4000000/\∀H',OW H' a (j4 s b k v)->KpO a H H'->Q (.int ((j4 s b k v).c.getD k 0)) H'
abbrev b1e:Stmt:=top 111
theorem a7w:g2 ["lane","who","cell","value","deed"] ["lane","who","cell","value"] (d7 b1e):=↑1
theorem c3y(D:DefT K mg "_law_touch" b1e ["lane","who","cell","value"])(T:↑18):↑901 "_law_touch" 1 ["lane","who","cell","value"] v2:=by
 refine D.fn a7w ↑7 ↑8
 ·obtain⟨a,o,b,i,v,rfl,⟨ks,bs,ts,ow⟩,hi,hc,ht,k⟩:=h
  refine⟨_,(b9 (i6 (i:=4) a7w.nd rfl ↑23 g6)
   (b9 (m4 (g9 d8u (pv 3) a2k ↑32)
     (
     b9 (i6 (i:=4) a7w.nd rfl ↑23 g6)
     (d5 (a8u (pv 3) (b5r ↑42 (pv 2) a5e))))
     m3)
   (b9 (i3 (n9 (K:=K) ↑42 (a9 (a5j (a9 (l7 ↑12 (k8 ↑21) (pv 1) ↑10) (a9 (pv 4) (a9 (pv 2) (a9 (l7 ↑12 ↑42 (pv 2) ↑10) d9))))) d9)))
   (d5 (i9 (l7 ↑12 ↑42 (pv 2) ↑10)))))),?_⟩
  fail "";rename_i nX hX;have fin:∀(d:Str)(v':V)(s':Ow)(H':Hp),s'.tr=o.tr->s'.c.length=o.c.length->OWx H' a s' ks bs ts->(∀H2,OW H2 a { s' with tr:=s'.tr++[(b,⟨decide (d="write"),i,s'.c.getD i 0⟩)] }->KpO a H' H2->Q (.int (s'.c.getD i 0)) H2)->(d="read"\/d="write")->nX [some (.ref (a 0)),some (.int (wi b)),some (.int i),some v',some (.str d)] H':=by
   intro d v' s' H' etr ec ow' q hd;have e0:=ow'.ob 0 ↑4;have e11:H' (a 11)=some (.lst (ts.map V.ref)):=ow'.ob 11 ↑4;have hcell:atI (s'.c.map V.int) (i:Int)=some (.int (s'.c.getD i 0)):=by
    have:=b9x (row:=s'.c) (c:=(i:Int)) ↑2 ↑2
    rwa [Int.toNat_natCast] at this
   refine c4w hX ?_;fail "";refine⟨_,.ref (a 11),rfl,DGet.k (k:=.inr "trail") e0,?_⟩;fail "";refine⟨by show 2<=sizeLine;decide,λl hl=>?_⟩
   generalize u1:upd H' l _=H1;obtain⟨s1,f1⟩:=nwS u1 hl;replace ow':=ow'.same s1;replace e0:=ow'.ob 0 ↑4;fail "";refine w9 (v:=.str (if b then "giver" else "taker")) f1 (by cases b <;> rfl) ?_
   fail "";refine⟨_,.ref (a 1),rfl,DGet.k (k:=.inr "cells") e0,?_⟩;have e1:H1 (a 1)=some (.lst (s'.c.map V.int)):=ow'.ob 1 ↑4;fail "";refine w9 e1 hcell ?_;fail "";refine⟨by show 4<=sizeLine;decide,λp hp=>?_⟩
   generalize u2:upd H1 p _=H2;obtain⟨s2,f2⟩:=nwS u2 hp;replace ow':=ow'.same s2;clear e11 e1 e0 f1 u1 u2;have e11:H2 (a 11)=some (.lst (ts.map V.ref)):=ow'.ob 11 ↑4;have lt:(ts.map V.ref).length<sizeLine:=by
    rw[List.length_map,ow'.rt.1,etr];exact Nat.lt_of_le_of_lt ht ↑4
   fail "";have ft:H2 p=some (d4h (b,⟨decide (d="write"),i,s'.c.getD i 0⟩)):=by
    rw[f2];rcases hd with rfl|rfl <;> rfl
   have ow3:=ow'.push ft;rw[List.map_append] at ow3;have e0:=ow3.ob 0 ↑4;have e1:upd H2 (a 11) (.lst (ts.map V.ref++[V.ref p])) (a 1)=some (.lst (s'.c.map V.int)):=ow3.ob 1 ↑4;refine⟨_,.ref (a 1),rfl,DGet.k (k:=.inr "cells") e0,?_⟩;fail "";refine w9 e1 hcell ?_;exact q _ ⟨_,_,_,ow3⟩ λx o e n=>by rw[c9 (n 11 ↑4)];exact s2 _ _ (s1 _ _ e)
  clear hX;refine⟨rfl,_,rfl,?_⟩;cases v with
  | none=>
   rw[show(!decide (vO none=V.non))=false by simp[vO]]
   fail "";exact fin "read" .non o H rfl rfl ow (λH2 h kp=>k H2 h kp) ↑23
  | some x=>
   rw[show(!decide (vO (some x)=V.non))=true by simp[vO]]
   have e0:=ow.ob 0 ↑4;fail "";refine⟨_,.ref (a 1),rfl,DGet.k (k:=.inr "cells") e0,?_⟩;fail "";have e1:H (a 1)=some (.lst (o.c.map V.int)):=ow.ob 1 ↑4;refine b9t (j:=i) e1 (by rw[List.length_map];unfold ixN;rw[if_pos ↑2,if_pos ↑2];rfl) ?_
   show nX [some (.ref (a 0)),some (.int (wi b)),some (.int i),some (.int x),some (.str "write")] _;refine fin "write" (.int x) { o with c:=o.c.set i x } _ rfl (by show(o.c.set i x).length=_;rw[List.length_set]) (ow.set (s':={ o with c:=o.c.set i x }) (k:=1) (by decide) (λj hj z=>?_) rfl rfl rfl ?_) (λH2 h kp=>k H2 h λx o e n=>kp x o (by rw[c9 (n 1 (by decide))];exact e) n) (.inr rfl)
   ·have:j=0\/j=2\/j=3\/j=4\/j=5\/j=6\/j=7\/j=8\/j=9\/j=10\/j=11:=by lia
    rcases this with rfl|rfl|rfl|rfl|rfl|rfl|rfl|rfl|rfl|rfl|rfl <;> rfl
   ·show _=HO.lst ((o.c.set i x).map V.int)
    rw[List.map_set]
    rfl
def Ow.h(s:Ow)(b:Bool):Hd:=if b then s.g else s.t
def ha(b:Bool):Nat:=if b then 3 else 4
theorem OWx.hd{H:Hp}{a:Nat->Addr}{s:Ow}{ks bs ts:List Addr}(h:OWx H a s ks bs ts)(b:Bool):H (a (ha b))=some (hdO (s.h b) (a (if b then 5 else 6)) (a (if b then 7 else 8))):=by
 cases b with
 | true=>exact h.ob 3 ↑4
 | false=>exact h.ob 4 ↑4
theorem OWx.hs{H:Hp}{a:Nat->Addr}{s:Ow}{ks bs ts:List Addr}(h:OWx H a s ks bs ts):H (a 2)=some (.lst [.ref (a 3),.ref (a 4)]):=h.ob 2 ↑4
theorem c2l(a:Nat->Addr)(b:Bool):atI [V.ref (a 3),V.ref (a 4)] (wi b)=some (.ref (a (ha b))):=by cases b <;> rfl
theorem a4v(x y:Int):decide (V.int x=V.int y)=decide (x=y):=by
 rw[decide_eq_decide];exact⟨V.int.inj,λz=>by rw[z]⟩
theorem a0m(x y:Str):decide (V.str x=V.str y)=decide (x=y):=by
 rw[decide_eq_decide];exact⟨V.str.inj,λz=>by rw[z]⟩
noncomputable def c2b(n:Nat)(b:Bool)(sp m:Int):Bool:=decide (m=if b then 2-2*(sp / n) else 2*(sp / n)+1)
def a6r:Sp:=λvs H Q _=>∃(a:Nat->Addr)(s:Ow)(b:Bool)(m sp:Int),vs=[.ref (a 0),.int (wi b),.int m]/\OW H a s/\(s.h b).sp=.int sp/\2<=s.n/\s.n<=8/\0<=sp/\sp<2*s.n/\∀H',Same H H'->OW H' a s->Q (.bl (c2b s.n b sp m)) H'
abbrev b4d:Stmt:=top 114
theorem b6v:g2 ["lane","who","mark","lap"] ["lane","who","mark"] (d7 b4d):=↑1
theorem c6o(D:DefT K mg "_law_lets" b4d ["lane","who","mark"])(T:↑18):↑901 "_law_lets" 1 ["lane","who","mark"] a6r:=by
 refine D.fn b6v ↑7 ↑8
 ·obtain⟨a,o,b,m,sp,rfl,⟨ks,bs,ts,ow⟩,es,n2,n8,s0,s1,k⟩:=h
  refine⟨_,(b9 (i6 (i:=3) b6v.nd rfl ↑23 (g7 a2n (a2l ↑25 (l7 ↑12 ↑42 (pv 1) ↑10) g6 ↑10) ↑42))
   (d5 (i9 (a0w v3 (pv 2) (l7 ↑12 (k8 (a9 (g7 a3n d8 (g7 m6 d8 (pv 3))) (a9 (g7 j9 (g7 m6 d8 (pv 3)) d8) d9))) (pv 1) ↑10) ↑32)))),?_⟩
  have e0:=ow.ob 0 ↑4;have e2:=ow.hs;have eh:=ow.hd b;fail "";refine⟨_,.ref (a 2),rfl,DGet.k (k:=.inr "hands") e0,?_⟩;fail "";refine w9 e2 (c2l a b) ?_;fail "";refine⟨_,.int sp,rfl,?_,?_⟩
  ·have q:DGet H (a (ha b)) (.str "spot") (some (o.h b).sp.v):=DGet.k (k:=.inr "spot") eh
   rw[es] at q;exact q
  fail "";refine⟨_,.int o.n,rfl,DGet.k (k:=.inr "size") e0,?_⟩;fail "";refine g_I ⟨by lia,by
   have:((o.n:Int)).natAbs=o.n:=Int.natAbs_natCast _;rw[this];have h2:o.n.log2<=o.n:=Nat.log2_le_self _;lia⟩ ?_
  fail "";refine⟨by show 2<=sizeLine;decide,λl hl=>?_⟩
  generalize u1:upd H l _=H1;obtain⟨s1',f1⟩:=nwS u1 hl;fail "";refine w9 (v:=.int (if b then 2-2*(sp / o.n) else 2*(sp / o.n)+1)) f1 (by cases b <;> rfl) ?_
  fail "";rw[a4v];exact k H1 s1' ⟨_,_,_,ow.same s1'⟩
noncomputable def Ow.setH(s:Ow)(b:Bool)(x:Hd):Ow:=if b then { s with g:=x } else { s with t:=x }
theorem OWx.stage{H:Hp}{a:Nat->Addr}{s:Ow}{ks bs ts:List Addr}(h:OWx H a s ks bs ts)(b:Bool)(x:Hd)(hs:x.se=(s.h b).se)(hp:x.ps=(s.h b).ps):OWx (upd H (a (ha b)) (hdO x (a (if b then 5 else 6)) (a (if b then 7 else 8)))) a (s.setH b x) ks bs ts:=by
 cases b with
 | true=>
  refine h.set (s':={ s with g:=x }) (k:=3) (by decide) (λj hj z=>?_) rfl rfl rfl rfl
  have:j=0\/j=1\/j=2\/j=4\/j=5\/j=6\/j=7\/j=8\/j=9\/j=10\/j=11:=by lia
  have hs:x.se=s.g.se:=hs;have hp:x.ps=s.g.ps:=hp;rcases this with rfl|rfl|rfl|rfl|rfl|rfl|rfl|rfl|rfl|rfl|rfl <;> first|rfl|(show HO.lst _=HO.lst _;first|rw[hs] | rw[hp])
 | false=>
  refine h.set (s':={ s with t:=x }) (k:=4) (by decide) (λj hj z=>?_) rfl rfl rfl rfl
  have:j=0\/j=1\/j=2\/j=3\/j=5\/j=6\/j=7\/j=8\/j=9\/j=10\/j=11:=by lia
  have hs:x.se=s.t.se:=hs;have hp:x.ps=s.t.ps:=hp;rcases this with rfl|rfl|rfl|rfl|rfl|rfl|rfl|rfl|rfl|rfl|rfl <;> first|rfl|(show HO.lst _=HO.lst _;first|rw[hs] | rw[hp])
theorem d1j(x:Hd)(s p:Addr)(v:Str):b5q (kvH x s p) (.inr "stage") (.str v)=kvH { x with st:=v } s p:=rfl
theorem d1k(x:Hd)(s p:Addr)(v:Int):b5q (kvH x s p) (.inr "at") (.int v)=kvH { x with at_:=v } s p:=rfl
theorem d6x(x:Hd)(s p:Addr)(v:Int):b5q (kvH x s p) (.inr "part") (.int v)=kvH { x with pa:=v } s p:=rfl
theorem lit{k:St->Hp->Prop}{σ:St}(τ:St){H:Hp}(e:σ=τ)(q:k τ H):k σ H:=e ▸ q
noncomputable def Ow.stg(s:Ow)(b:Bool)(x:Stg):Ow:=s.setH b { s.h b with st:=a0a x }
structure Fit(s:Ow)(b:Bool)(sp:Int):Prop where
 n2:2<=s.n
 n8:s.n<=8
 lc:s.c.length=4*s.n+4
 es:(s.h b).sp=.int sp
 s0:0<=sp
 s1:sp<2*s.n
 lt:s.tr.length<=4000000
def wn(b:Bool):Nat:=if b then 0 else 1
theorem c5l(b:Bool):wi b=(wn b:Int):=by cases b <;> rfl
theorem e0h(b:Bool):wn b<2:=by cases b <;> decide
noncomputable def c5m(s:Ow)(b:Bool)(sp:Int):Stg->Ow
 | .wish=>(j4 s b (4*s.n+wn b) (some sp)).stg b .again
 | .again=>(j4 s b (4*(sp % s.n).toNat) none).stg b (if c2b s.n b sp (s.c.getD (4*(sp % s.n).toNat) 0) then .unwish else .sleep)
 | .sleep=>(j4 s b (4*s.n+2+wn b) none).stg b (if s.c.getD (4*s.n+2+wn b) 0=0 then .sleep else .hush)
 | .hush=>(j4 s b (4*s.n+2+wn b) (some 0)).stg b .unwish
 | _=>(j4 s b (4*s.n+wn b) (some (-1))).stg b .look
theorem a3r(s:Ow)(b d:Bool)(k:Nat)(v:Option Int):(j4 s b k v).h d=s.h d:=by cases d <;> rfl
def b6o:Sp:=λvs H Q _=>∃(a:Nat->Addr)(s:Ow)(b:Bool)(sp:Int)(x:Stg),vs=[.ref (a 0),.int (wi b)]/\OW H a s/\Fit s b sp/\x.wait=true/\(s.h b).st=a0a x/\∀H',OW H' a (c5m s b sp x)->Q .non H'
abbrev b4a:Stmt:=top 115
theorem a2v:g2 ["lane","who","hand","size","stage","mark","bell"] ["lane","who"] (d7 b4a):=↑1
theorem c6l(D:DefT K mg "_law_wait" b4a ["lane","who"])(T:↑18)(G_law_touch:↑901 "_law_touch" 1 ["lane","who","cell","value"] v2)(G_law_lets:↑901 "_law_lets" 1 ["lane","who","mark"] a6r):↑901 "_law_wait" 2 ["lane","who"] b6o:=by
 refine D.fn a2v ↑7 ↑8
 ·obtain⟨a,o,b,sp,x,rfl,ow,ft,wx,es,k⟩:=h
  refine⟨_,(b9 (i6 (i:=2) a2v.nd rfl ↑23 (l7 ↑12 ↑42 (pv 1) ↑10))
   (b9 (i6 (i:=3) a2v.nd rfl ↑23 ↑42)
   (b9 (i6 (i:=4) a2v.nd rfl ↑23 (a2l ↑25 (pv 2) g6 ↑10))
   (d5 (m4 (g9 v3 (pv 4) g6 ↑32)
    (
     b9 (i3 (i5 G_law_touch hr ↑4 rfl g4 (a9 (pv 0) (a9 (pv 1) (a9 (g7 j9 (g7 m6 d8 (pv 3)) (pv 1)) (a9 (a2l ↑25 (pv 2) g6 ↑10) d9))))))
     (d5 (n6 ↑25 (pv 2) g6 g6 rfl)))
    (d5 (
         m4 (g9 v3 (pv 4) g6 ↑32)
      (
      b9 (i6 (i:=5) a2v.nd rfl ↑23 (i5 G_law_touch hr ↑4 rfl g4 (a9 (pv 0) (a9 (pv 1) (a9 (g7 m6 d8 (g7 a0f (a2l ↑25 (pv 2) g6 ↑10) (pv 3))) (a9 a2k d9))))))
      (d5 (n6 ↑25 (pv 2) g6 (l7 ↑12 (k8 ↑21) (m9 a2p (by rfl) T.z_int PyProof.Rows.boot_int (a9 (i5 G_law_lets hr ↑4 rfl g4 (a9 (pv 0) (a9 (pv 1) (a9 (pv 5) d9)))) d9)) ↑10) rfl)))
      (d5 (m4 (g9 v3 (pv 4) g6 ↑32)
       (
        b9 (i6 (i:=6) a2v.nd rfl ↑23 (i5 G_law_touch hr ↑4 rfl g4 (a9 (pv 0) (a9 (pv 1) (a9 (g7 j9 (g7 j9 (g7 m6 d8 (pv 3)) d8) (pv 1)) (a9 a2k d9))))))
        (d5 (n6 ↑25 (pv 2) g6 (l7 ↑12 (k8 ↑21) (m9 a2p (by rfl) T.z_int PyProof.Rows.boot_int (a9 (a0w d1z (pv 6) d8 ↑32) d9)) ↑10) rfl)))
       (d5 (m4 (g9 v3 (pv 4) g6 ↑32)
         (
         b9 (i3 (i5 G_law_touch hr ↑4 rfl g4 (a9 (pv 0) (a9 (pv 1) (a9 (g7 j9 (g7 j9 (g7 m6 d8 (pv 3)) d8) (pv 1)) ↑22)))))
         (d5 (n6 ↑25 (pv 2) g6 g6 rfl)))
         (
         b9 (i3 (i5 G_law_touch hr ↑4 rfl g4 (a9 (pv 0) (a9 (pv 1) (a9 (g7 j9 (g7 m6 d8 (pv 3)) (pv 1)) (a9 (c6f b6i d8) d9))))))
         (d5 (n6 ↑25 (pv 2) g6 g6 rfl)))))))))))))),?_⟩
  obtain⟨ks,bs,ts,owx⟩:=id ow;have e0:=owx.ob 0 ↑4;have e2:=owx.hs;have eh:H (a (ha b))=some (.dK (kvH (o.h b) (a (if b then 5 else 6)) (a (if b then 7 else 8)))):=owx.hd b;have n2:=ft.n2;have n8:=ft.n8;have lc:=ft.lc;have w2:=e0h b;fail "";refine⟨_,.ref (a 2),rfl,DGet.k (k:=.inr "hands") e0,?_⟩;fail "";refine w9 e2 (c2l a b) ?_;fail "";refine⟨_,.int o.n,rfl,DGet.k (k:=.inr "size") e0,?_⟩;fail "";refine⟨_,.str (o.h b).st,rfl,DGet.k (k:=.inr "stage") eh,?_⟩;refine d3f ?_;refine lit [some (.ref (a 0)),some (.int (wi b)),some (.ref (a (ha b))),some (.int o.n),some (.str (o.h b).st),none,none] (by rfl) ?_
  fail "";rw[es];have fin:∀(s':Ow)(y:Stg)(H':Hp),OW H' a s'->(∀H2,OW H2 a (s'.stg b y)->Q .non H2)->∃H4,DPut H' (a (ha b)) (.str "stage") (.str (a0a y)) H4/\Q .non H4:=by
   intro s' y H' hw q;obtain⟨ks,bs,ts,hx⟩:=hw;refine⟨_,DPut.k (k:=.inr "stage") (hx.hd b) (by show 8<sizeLine;decide),q _ ⟨ks,bs,ts,?_⟩⟩
   rw[d1j];exact hx.stage b { s'.h b with st:=a0a y } rfl rfl
  have dsp:DGet H (a (ha b)) (.str "spot") (some (.int sp)):=by
   have q:DGet H (a (ha b)) (.str "spot") (some (o.h b).sp.v):=DGet.k (k:=.inr "spot") eh;rw[ft.es] at q;exact q
  rw[a0m];refine a1y (λz=>?_) (λz=>?_)
  ·have hx:x=.wish:=a9g (z.trans (show("wish":Str)=a0a .wish from rfl))
   subst hx;fail "";refine⟨_,.int sp,rfl,dsp,?_⟩;fail "";refine⟨a,o,b,4*o.n+wn b,some sp,by rw[show((4*o.n+wn b:Nat):Int)=4*(o.n:Int)+wi b by rw[c5l];lia];rfl,ow,by lia,by lia,ft.lt,λH1 h1 _=>?_⟩
   obtain⟨H4,d4,q4⟩:=fin _ .again H1 h1 k;fail "";exact⟨_,H4,rfl,d4,q4⟩
  fail "";rw[a0m];refine a1y (λz2=>?_) (λz2=>?_)
  ·have hx:x=.again:=a9g (z2.trans (show("again":Str)=a0a .again from rfl))
   subst hx;fail "";refine⟨_,.int sp,rfl,dsp,?_⟩;fail "";refine⟨a,o,b,4*(sp % o.n).toNat,none,?_,ow,?_,by lia,ft.lt,λH1 h1 _=>?_⟩
   ·rw[show((4*(sp % o.n).toNat:Nat):Int)=4*(sp % (o.n:Int)) by have:=Int.emod_nonneg sp (show(o.n:Int)≠0 by lia);lia]
    rfl
   ·have:=Int.emod_nonneg sp (show(o.n:Int)≠0 by lia)
    have:=Int.emod_lt_of_pos sp (show(0:Int)<o.n by lia)
    lia
   fail "";refine⟨by show 2<=sizeLine;decide,λl hl=>?_⟩
   generalize u2:upd H1 l _=H2;obtain⟨s2,f2⟩:=nwS u2 hl;obtain⟨k1,b1,t1,x1⟩:=h1;fail "";refine⟨a,_,b,_,sp,rfl,⟨k1,b1,t1,x1.same s2⟩,by rw[a3r];exact ft.es,n2,n8,ft.s0,ft.s1,λH3 s3 h3=>.inr ⟨_,rfl,?_⟩⟩
   refine w9 (v:=.str (a0a (if c2b o.n b sp (o.c.getD (4*(sp % o.n).toNat) 0) then .unwish else .sleep))) (s3 _ _ f2) (by show atI _ (if c2b o.n b sp (o.c.getD (4*(sp % o.n).toNat) 0)=true then 1 else 0)=_;cases c2b o.n b sp (o.c.getD (4*(sp % o.n).toNat) 0) <;> rfl) ?_
   obtain⟨H4,d4,q4⟩:=fin _ _ H3 h3 k;fail "";exact⟨_,H4,rfl,d4,q4⟩
  fail "";rw[a0m];refine a1y (λz3=>?_) (λz3=>?_)
  ·have hx:x=.sleep:=a9g (z3.trans (show("sleep":Str)=a0a .sleep from rfl))
   subst hx;fail "";refine⟨a,o,b,4*o.n+2+wn b,none,by rw[show((4*o.n+2+wn b:Nat):Int)=4*(o.n:Int)+2+wi b by rw[c5l];lia];rfl,ow,by lia,by lia,ft.lt,λH1 h1 _=>?_⟩
   fail "";refine⟨by show 2<=sizeLine;decide,λl hl=>?_⟩
   generalize u2:upd H1 l _=H2;obtain⟨s2,f2⟩:=nwS u2 hl;obtain⟨k1,b1,t1,x1⟩:=h1;fail "";refine .inr ⟨_,rfl,?_⟩;refine w9 (v:=.str (a0a (if o.c.getD (4*o.n+2+wn b) 0=0 then .sleep else .hush))) f2 ?_ ?_
   ·rw[a4v]
    show atI _ (if (!decide (o.c.getD (4*o.n+2+wn b) 0=0))=true then 1 else 0)=_;by_cases y:o.c.getD (4*o.n+2+wn b) 0=0
    ·rw[if_pos y,decide_eq_true y];rfl
    ·rw[if_neg y,decide_eq_false y];rfl
   obtain⟨H4,d4,q4⟩:=fin _ _ H2 ⟨k1,b1,t1,x1.same s2⟩ k;fail "";exact⟨_,H4,rfl,d4,q4⟩
  fail "";rw[a0m];refine a1y (λz4=>?_) (λz4=>?_)
  ·have hx:x=.hush:=a9g (z4.trans (show("hush":Str)=a0a .hush from rfl))
   subst hx;fail "";refine⟨a,o,b,4*o.n+2+wn b,some 0,by rw[show((4*o.n+2+wn b:Nat):Int)=4*(o.n:Int)+2+wi b by rw[c5l];lia];rfl,ow,by lia,by lia,ft.lt,λH1 h1 _=>?_⟩
   obtain⟨H4,d4,q4⟩:=fin _ .unwish H1 h1 k;fail "";exact⟨_,H4,rfl,d4,q4⟩
  ·have hx:x=.unwish:=by
    cases x <;> first|rfl|(exfalso;first|exact absurd wx ↑4|exact z rfl|exact z2 rfl|exact z3 rfl|exact z4 rfl)
   subst hx;fail "";refine⟨a,o,b,4*o.n+wn b,some (-1),by rw[show((4*o.n+wn b:Nat):Int)=4*(o.n:Int)+wi b by rw[c5l];lia];rfl,ow,by lia,by lia,ft.lt,λH1 h1 _=>?_⟩
   obtain⟨H4,d4,q4⟩:=fin _ .look H1 h1 k;fail "";exact⟨_,H4,rfl,d4,q4⟩
noncomputable def d4z(s:Ow):Bool:=decide (s.g.st="look") && decide (s.g.at_ >= s.os.length)
def b5d:Sp:=λvs H Q _=>∃(a:Nat->Addr)(s:Ow),vs=[.ref (a 0)]/\OW H a s/\Q (.bl (d4z s)) H
abbrev b1h:Stmt:=top 120
theorem b5j:g2 ["lane","hand"] ["lane"] (d7 b1h):=↑1
theorem c4b(D:DefT K mg "_law_rests" b1h ["lane"])(T:↑18):↑901 "_law_rests" 1 ["lane"] b5d:=by
 refine D.fn b5j ↑7 ↑8
 ·obtain⟨a,o,rfl,⟨ks,bs,ts,ow⟩,k⟩:=h
  refine⟨_,(b9 (i6 (i:=1) b5j.nd rfl ↑23 (l7 ↑12 ↑42 d8 ↑10))
   (d5 (i9 (c3m (a0w v3 ↑9 g6 ↑32) (b9j (a0w d2d ↑9 (k0 ↑34 (by rfl) T.z_len PySem.boot_len (a9 ↑42 d9)) ↑32)))))),?_⟩
  have e0:=ow.ob 0 ↑4;have e2:=ow.hs;have eh:H (a 3)=some (.dK (kvH o.g (a 5) (a 7))):=ow.ob 3 ↑4;have e9:H (a 9)=some (.lst (ks.map V.ref)):=ow.ob 9 ↑4;fail "";refine⟨_,.ref (a 2),rfl,DGet.k (k:=.inr "hands") e0,?_⟩;fail "";refine⟨_,.str o.g.st,rfl,DGet.k (k:=.inr "stage") eh,?_⟩;fail "";rw[a0m];unfold d4z at k;refine a1y (λz=>?_) (λz=>?_)
  ·rw[decide_eq_true z,Bool.true_and] at k
   fail "";refine⟨_,.int o.g.at_,rfl,DGet.k (k:=.inr "at") eh,?_⟩;fail "";refine⟨_,.ref (a 9),rfl,DGet.k (k:=.inr "orders") e0,?_⟩;fail "";rw[List.length_map,ow.rk.1];exact k
  ·rw[decide_eq_false z,Bool.false_and] at k
   exact k
noncomputable def e0d(s:Ow)(sp:Int)(told:Bool):Ow :=
 let ah:=4*((sp-1) % s.n).toNat
 if told then (j4 s true (ah+1) none).setH true { s.g with at_:=s.c.getD (ah+1) 0,st:="lacks" }
 else
  let left:=s.c.getD (ah+2) 0
  (j4 s true (ah+2) none).setH true (if 0<=s.g.at_/\0<left then { s.g with st:="look",pa:=((s.os.getD s.g.at_.toNat []).length:Int)-left } else { s.g with st:="look",pa:=0,at_:=s.g.at_+1 })
def a7q:Sp:=λvs H Q _=>∃(a:Nat->Addr)(s:Ow)(sp:Int)(told:Bool),vs=[.ref (a 0)]/\OW H a s/\Fit s true sp/\s.g.st=a0a (if told then .told else .lacks)/\(told=false->0<=s.g.at_->s.g.at_<s.os.length)/\∀H',OW H' a (e0d s sp told)->Q .non H'
abbrev a5u:Stmt:=top 116
theorem a0v:g2 ["lane","hand","size","ahead","left"] ["lane"] (d7 a5u):=↑1
theorem b7q(D:DefT K mg "_law_remember" a5u ["lane"])(T:↑18)(G_law_touch:↑901 "_law_touch" 1 ["lane","who","cell","value"] v2):↑901 "_law_remember" 2 ["lane"] a7q:=by
 refine D.fn a0v ↑7 ↑8
 ·obtain⟨a,o,sp,told,rfl,ow,ft,es,ha9,k⟩:=h
  refine⟨_,(b9 (i6 (i:=1) a0v.nd rfl ↑23 (l7 ↑12 ↑42 d8 ↑10))
   (b9 (i6 (i:=2) a0v.nd rfl ↑23 ↑42)
   (b9 (i6 (i:=3) a0v.nd rfl ↑23 (g7 m6 d8 (g7 a0f (g7 a3n ↑9 d8) (pv 2))))
   (d5 (m4 (g9 v3 ↑9 g6 ↑32)
    (
     b9 (n6 ↑25 (pv 1) g6 (i5 G_law_touch hr ↑4 rfl g4 (a9 (pv 0) (a9 d8 (a9 (g7 j9 (pv 3) d8) (a9 a2k d9))))) rfl)
     (d5 ↑19))
    (
     b9 (i6 (i:=4) a0v.nd rfl ↑23 (i5 G_law_touch hr ↑4 rfl g4 (a9 (pv 0) (a9 d8 (a9 (g7 j9 (pv 3) d8) (a9 a2k d9))))))
     (b9 ↑19
     (b9 (n6 ↑25 (pv 1) g6 d8 rfl)
     (d5 (m4 (PW.pt (b5p (g9 d2d ↑9 d8 ↑32) (a8t (g9 b8q (pv 4) d8 ↑32))))
      (d5 (n6 ↑25 (pv 1) g6 (g7 a3n (k0 ↑34 (by rfl) T.z_len PySem.boot_len (a9 (l7 ↑12 ↑42 ↑9 ↑10) d9)) (pv 4)) rfl))
      (d5 (n6 ↑25 (pv 1) g6 (g7 j9 ↑9 d8) rfl)))))))))))),?_⟩
  obtain⟨ks,bs,ts,owx⟩:=id ow;have e0:=owx.ob 0 ↑4;have e2:=owx.hs;have eh:H (a 3)=some (.dK (kvH o.g (a 5) (a 7))):=owx.ob 3 ↑4;have n2:=ft.n2;have n8:=ft.n8;have lc:=ft.lc;have m0:=Int.emod_nonneg (sp-1) (show(o.n:Int)≠0 by lia)
  have m1:=Int.emod_lt_of_pos (sp-1) (show(0:Int)<o.n by lia)
  have dsp:DGet H (a 3) (.str "spot") (some (.int sp)):=by
   have q:DGet H (a 3) (.str "spot") (some o.g.sp.v):=DGet.k (k:=.inr "spot") eh;have:=ft.es;rw[show o.g.sp=.int sp from this] at q;exact q
  fail "";refine⟨_,.ref (a 2),rfl,DGet.k (k:=.inr "hands") e0,?_⟩;fail "";refine⟨_,.int o.n,rfl,DGet.k (k:=.inr "size") e0,?_⟩;fail "";refine⟨_,.int sp,rfl,dsp,?_⟩;fail "";refine⟨_,.str o.g.st,rfl,DGet.k (k:=.inr "stage") eh,?_⟩;fail "";rw[a0m,es];have l8:∀(x:Hd)(s p:Addr),(kvH x s p).length<sizeLine:=λ_ _ _=>by show 8<sizeLine;decide
  cases told with
  | true=>
   rw[show decide (a0a (if true=true then .told else .lacks)="told")=true from by decide]
   fail "";refine⟨a,o,true,4*((sp-1) % o.n).toNat+1,none,?_,ow,by lia,by lia,ft.lt,λH1 h1 _=>?_⟩
   ·rw[show((4*((sp-1) % o.n).toNat+1:Nat):Int)=4*((sp-1) % (o.n:Int))+1 by lia]
    rfl
   obtain⟨k1,b1,t1,x1⟩:=h1;fail "";refine⟨_,_,rfl,DPut.k (k:=.inr "at") (x1.ob 3 ↑4) (l8 _ _ _),?_⟩;rw[d1k];fail "";refine⟨_,_,rfl,DPut.k (k:=.inr "stage") d6 (l8 _ _ _),?_⟩;rw[d1j,c5n];exact k _ ⟨k1,b1,t1,x1.stage true { o.g with at_:=o.c.getD (4*((sp-1) % o.n).toNat+1) 0,st:="lacks" } rfl rfl⟩
  | false=>
   rw[show decide (a0a (if false=true then .told else .lacks)="told")=false from by decide]
   fail "";refine⟨a,o,true,4*((sp-1) % o.n).toNat+2,none,?_,ow,by lia,by lia,ft.lt,λH1 h1 _=>?_⟩
   ·rw[show((4*((sp-1) % o.n).toNat+2:Nat):Int)=4*((sp-1) % (o.n:Int))+2 by lia]
    rfl
   obtain⟨k1,b1,t1,x1⟩:=h1;refine d3f ?_;refine lit [some (.ref (a 0)),some (.ref (a 3)),some (.int o.n),some (.int (4*((sp-1) % (o.n:Int)))),some (.int (o.c.getD (4*((sp-1) % o.n).toNat+2) 0))] (by rfl) ?_
   fail "";refine⟨_,_,rfl,DPut.k (k:=.inr "stage") (x1.ob 3 ↑4) (l8 _ _ _),?_⟩;rw[d1j];fail "";refine⟨_,_,rfl,DPut.k (k:=.inr "part") d6 (l8 _ _ _),?_⟩;rw[d6x,c5n];generalize u2:upd H1 (a 3) _=H2;have x2:OWx H2 a ((j4 o true (4*((sp-1) % o.n).toNat+2) none).setH true { o.g with st:="look",pa:=0 }) k1 b1 t1:=by
    rw[<- u2];exact x1.stage true { o.g with st:="look",pa:=0 } rfl rfl
   clear u2;have e3:H2 (a 3)=some (.dK (kvH { o.g with st:="look",pa:=0 } (a 5) (a 7))):=x2.ob 3 (by decide)
   have f0:=x2.ob 0 ↑4;have f9:H2 (a 9)=some (.lst (k1.map V.ref)):=x2.ob 9 ↑4;fail "";refine⟨_,.int o.g.at_,rfl,DGet.k (k:=.inr "at") e3,?_⟩;fail "";have kk:∀y:Hd,y.se=o.g.se->y.ps=o.g.ps->e0d o sp false=(j4 o true (4*((sp-1) % o.n).toNat+2) none).setH true y->Q .non (upd H2 (a 3) (.dK (kvH y (a 5) (a 7)))):=λy h1 h2 h3=>by
    refine k _ ⟨k1,b1,t1,?_⟩;rw[h3];exact x2.stage true y h1 h2
   have ka:¬ (0<=o.g.at_/\0<o.c.getD (4*((sp-1) % o.n).toNat+2) 0)->Q .non (upd H2 (a 3) (.dK (kvH { o.g with st:="look",pa:=0,at_:=o.g.at_+1 } (a 5) (a 7)))):=λz=>kk _ rfl rfl (by
    unfold e0d;rw[if_neg ↑4];exact congrArg (λy=>(j4 o true (4*((sp-1) % o.n).toNat+2) none).setH true y) (if_neg z))
   refine a1y (λz=>?_) (λz=>?_)
   ·fail ""
    refine a1y (λz2=>?_) (λz2=>?_)
    ·fail ""
     refine⟨_,.ref (a 9),rfl,DGet.k (k:=.inr "orders") f0,?_⟩;fail "";refine⟨_,.int o.g.at_,rfl,DGet.k (k:=.inr "at") e3,?_⟩;fail "";have hi:=ha9 rfl z;obtain⟨q,hq⟩:∃q,k1[o.g.at_.toNat]?=some q:=⟨_,List.getElem?_eq_getElem (by have:=x2.rk.1;have:k1.length=o.os.length:=this;lia)⟩
     have hr:=(x2.rk.2 _ q _ hq (show o.os[o.g.at_.toNat]?=some (o.os.getD o.g.at_.toNat []) by rw[List.getD_eq_getElem?_getD,List.getElem?_eq_getElem ↑2];rfl)).2
     refine w9 (v:=.ref q) f9 ?_ ?_
     ·unfold atI ixN
      rw[if_pos z,if_pos (by rw[List.length_map];have:=x2.rk.1;have:k1.length=o.os.length:=this;lia)]
      show(k1.map V.ref)[o.g.at_.toNat]?=_;rw[List.getElem?_map,hq]
      rfl
     fail "";rw[List.length_map];refine⟨_,_,rfl,DPut.k (k:=.inr "part") e3 (l8 _ _ _),?_⟩;rw[d6x];refine kk { o.g with st:="look",pa:=((o.os.getD o.g.at_.toNat []).length:Int)-o.c.getD (4*((sp-1) % o.n).toNat+2) 0 } rfl rfl ?_
     unfold e0d;rw[if_neg ↑4];exact congrArg (λy=>(j4 o true (4*((sp-1) % o.n).toNat+2) none).setH true y) (if_pos ⟨z,z2⟩)
    ·fail ""
     refine⟨_,.int o.g.at_,rfl,DGet.k (k:=.inr "at") e3,?_⟩;fail "";refine⟨_,_,rfl,DPut.k (k:=.inr "at") e3 (l8 _ _ _),?_⟩;rw[d1k];exact ka (λy=>z2 y.2)
   ·fail ""
    refine⟨_,.int o.g.at_,rfl,DGet.k (k:=.inr "at") e3,?_⟩;fail "";refine⟨_,_,rfl,DPut.k (k:=.inr "at") e3 (l8 _ _ _),?_⟩;rw[d1k];exact ka (λy=>z y.1)
noncomputable def d5q:List (Key×V)->Str->Option V
 | [],_=>none
 | (k,v)::r,s=>if k=.inr s then some v else d5q r s
theorem c8l:∀(kvs:List (Key×V))(s:Str),c9e kvs (.inr s)=d5q kvs s
 | [],_=>rfl
 | (k,v)::r,s=>by
  have:=c8l r s;unfold c9e at this ⊢;unfold d5q;rw[List.find?_cons];by_cases z:k=.inr s
  ·subst z;simp
  ·rw[if_neg z,<- this];simp[z]
theorem d0q{R:V->Prop}{H:Hp}{a:Addr}{kvs:List (Key×V)}{s:Str}{v:V}(h:H a=some (.dK kvs))(hv:d5q kvs s=some v)(q:R v):∃a' v',V.ref a=.ref a'/\DGet H a' (.str s) (some v')/\R v' :=
 ⟨a,v,rfl,hv ▸ c8l kvs s ▸ DGet.k (k:=.inr s) h,q⟩
set_option hygiene false in
local macro_rules | `(tactic| walk_at "go1")=>`(tactic| first|walk_at "ga"|((with_reducible refine' d0q ?h ?v ?_);(case h=>assumption);(case v=>exact rfl))|rw[efv] | rw[esv] | ((with_reducible refine' g_I ?h ?_);(case h=>exact⟨by lia,d8z _ ↑2 ↑2⟩)))
set_option hygiene false in
local macro_rules | `(tactic| walk_at "st")=>`(tactic| ((rw[a0m]);first|(rw[decide_eq_true (by rfl)])|(rw[decide_eq_false ↑4])))
section
variable{H:Hp}{a:Nat->Addr}{s:Ow}{ks bs ts:List Addr}
noncomputable def kvO(n:Nat)(a:Nat->Addr):List (Key×V):=[(.inr "size",.int n),(.inr "cells",.ref (a 1)),(.inr "hands",.ref (a 2)),(.inr "orders",.ref (a 9)),(.inr "book",.ref (a 10)),(.inr "trail",.ref (a 11))]
noncomputable def kvQ(st:Str)(sp fi:Hr)(at_ pa le:Int)(s p:Addr):List (Key×V):=[(.inr "stage",.str st),(.inr "spot",sp.v),(.inr "first",fi.v),(.inr "seen",.ref s),(.inr "at",.int at_),(.inr "part",.int pa),(.inr "parts",.ref p),(.inr "left",.int le)]
theorem OWx.e0(h:OWx H a s ks bs ts):H (a 0)=some (.dK (kvO s.n a)):=h.ob 0 ↑4
theorem OWx.eg(h:OWx H a s ks bs ts):H (a 3)=some (.dK (kvQ s.g.st s.g.sp s.g.fi s.g.at_ s.g.pa s.g.le (a 5) (a 7))):=h.ob 3 ↑4
theorem OWx.et(h:OWx H a s ks bs ts):H (a 4)=some (.dK (kvQ s.t.st s.t.sp s.t.fi s.t.at_ s.t.pa s.t.le (a 6) (a 8))):=h.ob 4 ↑4
theorem a4c(h:OWx H a s ks bs ts)(b:Bool)(x:Hd){R:Hp->Prop}{k:Str}{v:V}(hs:x.se=(s.h b).se)(hp:x.ps=(s.h b).ps)(e:b5q (kvH (s.h b) (a (if b then 5 else 6)) (a (if b then 7 else 8))) (.inr k) v=kvH x (a (if b then 5 else 6)) (a (if b then 7 else 8)))(q:∀H',OWx H' a (s.setH b x) ks bs ts->R H'):∃a' H',V.ref (a (ha b))=.ref a'/\DPut H a' (.str k) v H'/\R H' :=
 ⟨_,_,rfl,DPut.k (k:=.inr k) (h.hd b) (by show 8<sizeLine;decide),q _ (by rw[e];exact h.stage b x hs hp)⟩
theorem OWx.parts(h:OWx H a s ks bs ts){l:Addr}(hl:H l=none):OWx (upd (upd H l (.lst [])) (a 4) (.dK (b5q (kvH s.t (a 6) (a 8)) (.inr "parts") (.ref l)))) (λj=>if j=8 then l else a j) { s with t:={ s.t with ps:=[] } } ks bs ts:=by
 have na:∀j,j<12->a j≠l:=λj hj z=>by have:=h.ob j hj;rw[z,hl] at this;cases this
 have nr:∀{p:Addr}{o:HO},H p=some o->p≠l:=λe z=>by rw[z,hl] at e;cases e
 have rows:∀{ps:List Addr}{os:List ↑26},RwO H a ps os->RwO (upd (upd H l (.lst [])) (a 4) (.dK (b5q (kvH s.t (a 6) (a 8)) (.inr "parts") (.ref l)))) (λj=>if j=8 then l else a j) ps os:=λr=>⟨r.1,λi p o hp ho=>by
  obtain⟨r1,r2⟩:=r.2 i p o hp ho;refine⟨λj hj=>?_,by rw[c9 (r1 4 ↑4),c9 (nr r2)];exact r2⟩
  dsimp only;split
  ·exact nr r2
  ·exact r1 j hj⟩
 refine⟨λi j hi hj n=>?_,λk hk=>?_,rows h.rk,rows h.rb,h.rt.1,λi p t hp ht=>?_⟩
 ·show(if i=8 then l else a i)≠(if j=8 then l else a j)
  split <;> split
  ·lia
  ·exact(na j hj).symm
  ·exact na i hi
  ·exact h.inj i j hi hj n
 ·dsimp only
  by_cases e8:k=8
  ·subst e8;rw[if_pos rfl,c9 (na 4 ↑4).symm,d6];rfl
  rw[if_neg e8];by_cases e4:k=4
  ·subst e4;rw[d6];rfl
  rw[c9 (h.inj k 4 hk ↑4 e4),c9 (na k hk),h.ob k hk];have:k=0\/k=1\/k=2\/k=3\/k=5\/k=6\/k=7\/k=9\/k=10\/k=11:=by lia
  rcases this with rfl|rfl|rfl|rfl|rfl|rfl|rfl|rfl|rfl|rfl <;> rfl
 ·have e:=h.rt.2 i p t hp ht
  rw[c9,c9 (nr e)]
  ·exact e
  ·intro z;rw[z,h.et] at e;cases e
end
noncomputable def c4y(s:Ow)(sp fi:Int):Ow :=
 if fi=sp then { s with t:={ s.t with st:="look",sp:=.int ((sp+1) % (2*s.n)),ps:=[],fi:=.int ((fi+1) % (2*s.n)) } }
 else { s with t:={ s.t with st:="free",fi:=.int ((fi+1) % (2*s.n)) } }
noncomputable def b8c(s:Ow)(sp fi:Int):Stg->Ow
 | .free=>{ j4 s false (4*(fi % s.n).toNat) (some (2*(fi / s.n))) with t:={ s.t with st:="card" } }
 | .card=>if s.c.getD (4*s.n) 0=(fi+s.n) % (2*s.n) then { j4 s false (4*s.n) none with t:={ s.t with st:="ring" } } else c4y (j4 s false (4*s.n) none) sp fi
 | _=>c4y (j4 s false (4*s.n+2) (some 1)) sp fi
def b5f:Sp:=λvs H Q _=>∃(a:Nat->Addr)(s:Ow)(sp fi:Int)(x:Stg),vs=[.ref (a 0)]/\OW H a s/\Fit s false sp/\s.t.fi=.int fi/\0<=fi/\fi<2*s.n/\(x=.free\/x=.card\/x=.ring)/\s.t.st=a0a x/\∀H' a' s',a' 0=a 0->OW H' a' s'->s'=b8c s sp fi x->Q .non H'
set_option hygiene false in
abbrev b1k:Stmt:=top 119
theorem a3k:g2 ["lane","hand","size","stage","due"] ["lane"] (d7 b1k):=↑1
theorem c4e(D:DefT K mg "_law_frees" b1k ["lane"])(T:↑18)(G_law_touch:↑901 "_law_touch" 1 ["lane","who","cell","value"] v2):↑901 "_law_frees" 2 ["lane"] b5f:=by
 refine D.fn a3k ↑7 ↑8
 ·obtain⟨a,⟨n,c,g,⟨st,spv,fiv,se,at_,pa,ps,le⟩,os,bk,tr⟩,sp,fi,x,rfl,ow,ft,ef,f0,f1,hx,es,k⟩:=h
  obtain rfl:fiv=.int fi:=ef;obtain rfl:spv=.int sp:=ft.es;obtain rfl:st=a0a x:=es;refine⟨_,(
        b9 (i6 (i:=1) a3k.nd rfl ↑23 (l7 ↑12 ↑42 d8 ↑10))
   (b9 (i6 (i:=2) a3k.nd rfl ↑23 ↑42)
   (b9 (i6 (i:=3) a3k.nd rfl ↑23 ↑9)
   (b9 (i6 (i:=4) a3k.nd rfl ↑23 (g7 a0f (g7 j9 ↑9 (pv 2)) (g7 m6 d8 (pv 2))))
   (d5 (
        m4 (g9 v3 (pv 3) g6 ↑32)
    (
     b9 (i3 (i5 G_law_touch hr ↑4 rfl g4 (a9 (pv 0) (a9 d8 (a9 (g7 m6 d8 (g7 a0f ↑9 (pv 2))) (a9 (g7 m6 d8 (g7 a2n ↑9 (pv 2))) d9))))))
     (d5 ↑19))
    (d5 (m4 (PW.pt (b5p (g9 v3 (pv 3) g6 ↑32) (a8t (g9 v3 (i5 G_law_touch hr ↑4 rfl g4 (a9 (pv 0) (a9 d8 (a9 (g7 m6 d8 (pv 2)) (a9 a2k d9))))) (pv 4) ↑32))))
      (d5 ↑19)
      (
      b9 (m4 (g9 v3 (pv 3) g6 ↑32)
        (d5 (i3 (i5 G_law_touch hr ↑4 rfl g4 (a9 (pv 0) (a9 d8 (a9 (g7 j9 (g7 m6 d8 (pv 2)) d8) ↑22))))))
        m3)
      (b9 ↑19
      (b9 (m4 (g9 v3 ↑9 ↑9 ↑32)
        (
        b9 ↑19
        (b9 (n6 ↑25 (pv 1) g6 (g7 a0f (g7 j9 ↑9 d8) (g7 m6 d8 (pv 2))) rfl)
        (d5 (n6 ↑25 (pv 1) g6 (k8 d9) rfl))))
        m3)
      (d5 (n6 ↑25 (pv 1) g6 (g7 a0f (g7 j9 ↑9 d8) (g7 m6 d8 (pv 2))) rfl))))))))))))),?_⟩
  obtain⟨ks,bs,ts,owx⟩:=id ow;have e0:H (a 0)=some (.dK (kvO n a)):=owx.e0;have e2:=owx.hs;have et:H (a 4)=some (.dK (kvQ (a0a x) (.int sp) (.int fi) at_ pa le (a 6) (a 8))):=owx.et;have n2:2<=n:=ft.n2;have n8:n<=8:=ft.n8;have lc:c.length=4*n+4:=ft.lc;have lt:tr.length<=4000000:=ft.lt;have f0:0<=fi:=f0;have f1:fi<2*n:=f1;have m0:=Int.emod_nonneg fi (show(n:Int)≠0 by lia)
  have m1:=Int.emod_lt_of_pos fi (show(0:Int)<n by lia)
  fail "";rcases hx with rfl|rfl|rfl
  ·walk_at "st"
   fail "";refine⟨a,_,false,4*(fi % n).toNat,some (2*(fi / n)),?_,ow,?_,?_,lt,λH1 h1 _=>?_⟩
   ·rw[show((4*(fi % n).toNat:Nat):Int)=4*(fi % (n:Int)) by lia]
    rfl
   ·show _<c.length;lia
   ·show c.length<=_;lia
   obtain⟨k1,b1,t1,x1⟩:=h1;fail "";exact a4c x1 false ⟨"card",.int sp,.int fi,se,at_,pa,ps,le⟩ rfl rfl rfl λH2 x2=>k H2 a _ rfl ⟨_,_,_,x2⟩ rfl
  ·walk_at "st"
   fail "";walk_at "st";fail "";refine⟨a,_,false,4*n,none,by push_cast;rfl,ow,(by show _<c.length;lia),(by show c.length<=_;lia),lt,λH1 h1 _=>?_⟩
   obtain⟨k1,b1,t1,x1⟩:=h1;fail "";rw[a4v];fail "j"
   ·fail ""
    exact a4c x1 false ⟨"ring",.int sp,.int fi,se,at_,pa,ps,le⟩ rfl rfl rfl λH2 x2=>k H2 a _ rfl ⟨_,_,_,x2⟩ (if_pos y).symm
   ·have eF:b8c ⟨n,c,g,⟨a0a .card,.int sp,.int fi,se,at_,pa,ps,le⟩,os,bk,tr⟩ sp fi .card=c4y _ sp fi:=if_neg y
    fail "";walk_at "st"
    (fail "");(refine a4c x1 false ⟨"free",.int sp,.int fi,se,at_,pa,ps,le⟩ rfl rfl rfl λH2 x2=>?_)
    (have et2:H2 (a 4)=some (.dK (kvQ "free" (.int sp) (.int fi) at_ pa le (a 6) (a 8))):=x2.et)
    (fail "");(rw[a4v])
    fail "j"
    ·(fail "")
     refine a4c x2 false ⟨"look",.int sp,.int fi,se,at_,pa,ps,le⟩ rfl rfl rfl λH3 x3=>?_
     (have et3:H3 (a 4)=some (.dK (kvQ "look" (.int sp) (.int fi) at_ pa le (a 6) (a 8))):=x3.et)
     (fail "")
     refine a4c x3 false ⟨"look",.int ((sp+1) % (2*n)),.int fi,se,at_,pa,ps,le⟩ rfl rfl rfl λH4 x4=>?_
     (fail "")
     refine⟨Nat.zero_le _,λl hl=>?_⟩;have x5:OWx (upd (upd H4 l (.lst [])) (a 4) (.dK (b5q (kvH ⟨"look",.int ((sp+1) % (2*n)),.int fi,se,at_,pa,ps,le⟩ (a 6) (a 8)) (.inr "parts") (.ref l)))) (λj=>if j=8 then l else a j) _ _ _ _:=x4.parts hl
     (have et4:H4 (a 4)=some (.dK (kvH ⟨"look",.int ((sp+1) % (2*n)),.int fi,se,at_,pa,ps,le⟩ (a 6) (a 8))):=x4.et)
     (fail "")
     refine⟨_,_,rfl,DPut.k (k:=.inr "parts") (g3 hl _ _ et4) (by show 8<sizeLine;decide),?_⟩
     have et5:_=some (HO.dK (kvQ "look" (.int ((sp+1) % (2*n))) (.int fi) at_ pa le (a 6) l)):=x5.et
     revert x5 et5
     generalize upd (upd H4 l _) (a 4) _=H5;intro x5 et5;obtain⟨a2,ea2⟩:∃a2,a2=λj=>if j=8 then l else a j:=⟨_,rfl⟩
     (have e20:a2 0=a 0:=by rw[ea2];rfl);(have e24:a 4=a2 4:=by rw[ea2];rfl)
     rw[<- ea2] at x5;rw[e24];rw[e24] at et5
     (fail "")
     exact a4c x5 false ⟨"look",.int ((sp+1) % (2*n)),.int ((fi+1) % (2*n)),se,at_,pa,[],le⟩ rfl rfl rfl λH6 x6=>k H6 a2 _ e20 ⟨_,_,_,x6⟩ (eF.trans (if_pos y)).symm
    ·(fail "")
     exact a4c x2 false ⟨"free",.int sp,.int ((fi+1) % (2*n)),se,at_,pa,ps,le⟩ rfl rfl rfl λH4 x4=>k H4 a _ rfl ⟨_,_,_,x4⟩ (eF.trans (if_neg y)).symm
  ·walk_at "st"
   fail "";walk_at "st";fail "";walk_at "st";fail "";refine⟨a,_,false,4*n+2,some 1,by push_cast;rfl,ow,(by show _<c.length;lia),(by show c.length<=_;lia),lt,λH1 h1 _=>?_⟩
   obtain⟨k1,b1,t1,x1⟩:=h1;have eF:b8c ⟨n,c,g,⟨a0a .ring,.int sp,.int fi,se,at_,pa,ps,le⟩,os,bk,tr⟩ sp fi .ring=c4y _ sp fi:=rfl
   (fail "");(refine a4c x1 false ⟨"free",.int sp,.int fi,se,at_,pa,ps,le⟩ rfl rfl rfl λH2 x2=>?_)
   (have et2:H2 (a 4)=some (.dK (kvQ "free" (.int sp) (.int fi) at_ pa le (a 6) (a 8))):=x2.et)
   (fail "");(rw[a4v])
   fail "j"
   ·(fail "")
    refine a4c x2 false ⟨"look",.int sp,.int fi,se,at_,pa,ps,le⟩ rfl rfl rfl λH3 x3=>?_
    (have et3:H3 (a 4)=some (.dK (kvQ "look" (.int sp) (.int fi) at_ pa le (a 6) (a 8))):=x3.et)
    (fail "")
    refine a4c x3 false ⟨"look",.int ((sp+1) % (2*n)),.int fi,se,at_,pa,ps,le⟩ rfl rfl rfl λH4 x4=>?_
    (fail "")
    refine⟨Nat.zero_le _,λl hl=>?_⟩;have x5:OWx (upd (upd H4 l (.lst [])) (a 4) (.dK (b5q (kvH ⟨"look",.int ((sp+1) % (2*n)),.int fi,se,at_,pa,ps,le⟩ (a 6) (a 8)) (.inr "parts") (.ref l)))) (λj=>if j=8 then l else a j) _ _ _ _:=x4.parts hl
    (have et4:H4 (a 4)=some (.dK (kvH ⟨"look",.int ((sp+1) % (2*n)),.int fi,se,at_,pa,ps,le⟩ (a 6) (a 8))):=x4.et)
    (fail "")
    refine⟨_,_,rfl,DPut.k (k:=.inr "parts") (g3 hl _ _ et4) (by show 8<sizeLine;decide),?_⟩
    have et5:_=some (HO.dK (kvQ "look" (.int ((sp+1) % (2*n))) (.int fi) at_ pa le (a 6) l)):=x5.et
    revert x5 et5
    generalize upd (upd H4 l _) (a 4) _=H5;intro x5 et5;obtain⟨a2,ea2⟩:∃a2,a2=λj=>if j=8 then l else a j:=⟨_,rfl⟩
    (have e20:a2 0=a 0:=by rw[ea2];rfl);(have e24:a 4=a2 4:=by rw[ea2];rfl)
    rw[<- ea2] at x5;rw[e24];rw[e24] at et5
    (fail "")
    exact a4c x5 false ⟨"look",.int ((sp+1) % (2*n)),.int ((fi+1) % (2*n)),se,at_,pa,[],le⟩ rfl rfl rfl λH6 x6=>k H6 a2 _ e20 ⟨_,_,_,x6⟩ (eF.trans (if_pos y)).symm
   ·(fail "")
    exact a4c x2 false ⟨"free",.int sp,.int ((fi+1) % (2*n)),se,at_,pa,ps,le⟩ rfl rfl rfl λH4 x4=>k H4 a _ rfl ⟨_,_,_,x4⟩ (eF.trans (if_neg y)).symm
set_option hygiene false in
local macro_rules | `(tactic| walk_at "gb")=>`(tactic| first|walk_at "ga"|((with_reducible refine' d0q ?h ?v ?_);(case h=>assumption);(case v=>exact rfl)))
local macro_rules | `(tactic| walk_at "gc")=>`(tactic| first|walk_at "gb"|((with_reducible refine' g_I ?h ?_);(case h=>exact⟨by lia,d8z _ ↑2 ↑2⟩)))
local macro_rules | `(tactic| walk_at "go1")=>`(tactic| walk_at "gc")
noncomputable def d3d(s:Ow)(sp:Int):Ow :=
 if s.g.pa+1=((s.os.getD s.g.at_.toNat []).length:Int) then { s with g:={ s.g with st:="look",sp:=.int ((sp+1) % (2*s.n)),at_:=s.g.at_+1,pa:=0 } }
 else { s with g:={ s.g with st:="look",sp:=.int ((sp+1) % (2*s.n)),pa:=s.g.pa+1 } }
noncomputable def b8a(s:Ow)(sp:Int)(x:Stg):Ow :=
 let h:=4*(sp % s.n).toNat
 let o:=s.os.getD s.g.at_.toNat []
 match x with
 | .look=>{ j4 s true h none with g:={ s.g with st:=a0a (if c2b s.n true sp (s.c.getD h 0) then .number else .wish) } }
 | .number=>{ j4 s true (h+1) (some s.g.at_) with g:={ s.g with st:="left" } }
 | .left=>{ j4 s true (h+2) (some ((o.length:Int)-1-s.g.pa)) with g:={ s.g with st:="thing" } }
 | .thing=>{ j4 s true (h+3) (some (o.getD s.g.pa.toNat 0)) with g:={ s.g with st:="mark" } }
 | .mark=>{ j4 s true h (some (2*(sp / s.n)+1)) with g:={ s.g with st:="card" } }
 | .card=>if s.c.getD (4*s.n+1) 0=sp then { j4 s true (4*s.n+1) none with g:={ s.g with st:="ring" } } else d3d (j4 s true (4*s.n+1) none) sp
 | _=>d3d (j4 s true (4*s.n+3) (some 1)) sp
def b6r:Sp:=λvs H Q _=>∃(a:Nat->Addr)(s:Ow)(sp:Int)(x:Stg),vs=[.ref (a 0)]/\OW H a s/\Fit s true sp/\(x=.look\/x=.number\/x=.left\/x=.thing\/x=.mark\/x=.card\/x=.ring)/\s.g.st=a0a x/\0<=s.g.at_/\s.g.at_<s.os.length/\(x=.thing->0<=s.g.pa/\s.g.pa<(s.os.getD s.g.at_.toNat []).length)/\∀H' s',OW H' a s'->s'=b8a s sp x->Q .non H'
set_option hygiene false in
theorem d3e{H:Hp}{a:Nat->Addr}{s:Ow}{ks bs ts:List Addr}(h:OWx H a s ks bs ts){q:Addr}{o:HO}(nq:∀j,j<12->q≠a j)(eq:H q=some o)(b:Bool)(x:Hd){R:Hp->Prop}{k:Str}{v:V}(hs:x.se=(s.h b).se)(hp:x.ps=(s.h b).ps)(e:b5q (kvH (s.h b) (a (if b then 5 else 6)) (a (if b then 7 else 8))) (.inr k) v=kvH x (a (if b then 5 else 6)) (a (if b then 7 else 8)))(r:∀H',OWx H' a (s.setH b x) ks bs ts->H' q=some o->R H'):∃a' H',V.ref (a (ha b))=.ref a'/\DPut H a' (.str k) v H'/\R H' :=
 ⟨_,_,rfl,DPut.k (k:=.inr k) (h.hd b) (by show 8<sizeLine;decide),r _ (by rw[e];exact h.stage b x hs hp) (by rw[c9 (nq _ (by cases b <;> decide))];exact eq)⟩
theorem OWx.row{H:Hp}{a:Nat->Addr}{s:Ow}{ks bs ts:List Addr}{i:Int}{q:Addr}(h:OWx H a s ks bs ts)(hq:ks[i.toNat]?=some q)(h0:0<=i)(h1:i<(s.os.length:Int)):(∀j,j<12->q≠a j)/\H q=some (.lst ((s.os.getD i.toNat []).map V.int)) :=
 h.rk.2 i.toNat q _ hq (by rw[List.getD_eq_getElem?_getD,List.getElem?_eq_getElem ↑2];rfl)
abbrev b4f:Stmt:=top 117
theorem a1p:g2 ["lane","hand","size","here","order","stage","mark"] ["lane"] (d7 b4f):=↑1
theorem c6q(
           D:DefT K mg "_law_give" b4f ["lane"])(T:↑18)(G_law_touch:↑901 "_law_touch" 1 ["lane","who","cell","value"] v2)(G_law_lets:↑901 "_law_lets" 1 ["lane","who","mark"] a6r):↑901 "_law_give" 2 ["lane"] b6r:=by
 refine D.fn a1p ↑7 ↑8
 ·obtain⟨a,⟨n,c,⟨st,spv,fiv,se,at_,pa,ps,le⟩,t,os,bk,tr⟩,sp,x,rfl,ow,ft,hx,es,hi0,hi1,hp,k⟩:=h
  obtain rfl:spv=.int sp:=ft.es;obtain rfl:st=a0a x:=es;refine⟨_,(b9 (
             i6 (i:=1) a1p.nd rfl ↑23 (l7 ↑12 ↑42 d8 ↑10))
   (b9 (i6 (i:=2) a1p.nd rfl ↑23 ↑42)
   (b9 (i6 (i:=3) a1p.nd rfl ↑23 (g7 m6 d8 (g7 a0f ↑9 (pv 2))))
   (b9 (i6 (i:=4) a1p.nd rfl ↑23 (l7 ↑12 ↑42 ↑9 ↑10))
   (b9 (i6 (i:=5) a1p.nd rfl ↑23 ↑9)
   (d5 (m4 (
            g9 v3 (pv 5) g6 ↑32)
    (
     b9 (i6 (i:=6) a1p.nd rfl ↑23 (i5 G_law_touch hr ↑4 rfl g4 (a9 (pv 0) (a9 d8 (a9 (pv 3) (a9 a2k d9))))))
     (d5 (n6 ↑25 (pv 1) g6 (l7 ↑12 (k8 ↑21) (m9 a2p (by rfl) T.z_int PyProof.Rows.boot_int (a9 (i5 G_law_lets hr ↑4 rfl g4 (a9 (pv 0) (a9 d8 (a9 (pv 6) d9)))) d9)) ↑10) rfl)))
    (d5 (
         m4 (g9 v3 (pv 5) g6 ↑32)
      (
      b9 (i3 (i5 G_law_touch hr ↑4 rfl g4 (a9 (pv 0) (a9 d8 (a9 (g7 j9 (pv 3) d8) (a9 ↑9 d9))))))
      (d5 ↑19))
      (d5 (
           m4 (g9 v3 (pv 5) g6 ↑32)
       (
        b9 (i3 (i5 G_law_touch hr ↑4 rfl g4 (a9 (pv 0) (a9 d8 (a9 (g7 j9 (pv 3) d8) (a9 (g7 a3n (g7 a3n (k0 ↑34 (by rfl) T.z_len PySem.boot_len (a9 (pv 4) d9)) d8) ↑9) d9))))))
        (d5 ↑19))
       (d5 (
            m4 (g9 v3 (pv 5) g6 ↑32)
         (
         b9 (i3 (i5 G_law_touch hr ↑4 rfl g4 (a9 (pv 0) (a9 d8 (a9 (g7 j9 (pv 3) d8) (a9 (l7 ↑12 (pv 4) ↑9 ↑10) d9))))))
         (d5 ↑19))
         (d5 (
              m4 (g9 v3 (pv 5) g6 ↑32)
          (
           b9 (i3 (i5 G_law_touch hr ↑4 rfl g4 (a9 (pv 0) (a9 d8 (a9 (pv 3) (a9 (g7 j9 (g7 m6 d8 (g7 a2n ↑9 (pv 2))) d8) d9))))))
           (d5 ↑19))
          (d5 (m4 (PW.pt (b5p (g9 v3 (pv 5) g6 ↑32) (a8t (g9 v3 (i5 G_law_touch hr ↑4 rfl g4 (a9 (pv 0) (a9 d8 (a9 (g7 j9 (g7 m6 d8 (pv 2)) d8) (a9 a2k d9))))) ↑9 ↑32))))
            (d5 ↑19)
            (
            b9 (m4 (g9 v3 (pv 5) g6 ↑32)
              (d5 (i3 (i5 G_law_touch hr ↑4 rfl g4 (a9 (pv 0) (a9 d8 (a9 (g7 j9 (g7 m6 d8 (pv 2)) d8) ↑22))))))
              m3)
            (b9 ↑19
            (b9 (n6 ↑25 (pv 1) g6 (g7 a0f (g7 j9 ↑9 d8) (g7 m6 d8 (pv 2))) rfl)
            (b9 (n6 ↑25 (pv 1) g6 (g7 j9 ↑9 d8) rfl)
            (d5 (m4 (g9 v3 ↑9 (k0 ↑34 (by rfl) T.z_len PySem.boot_len (a9 (pv 4) d9)) ↑32)
             (
              b9 (n6 ↑25 (pv 1) g6 (g7 j9 ↑9 d8) rfl)
              (d5 (n6 ↑25 (pv 1) g6 d8 rfl)))
             m3))))))))))))))))))))))),?_⟩
  obtain⟨ks,bs,ts,owx⟩:=id ow;have e0:H (a 0)=some (.dK (kvO n a)):=owx.e0;have e2:=owx.hs;have eg:H (a 3)=some (.dK (kvQ (a0a x) (.int sp) fiv at_ pa le (a 5) (a 7))):=owx.eg;have e9:H (a 9)=some (.lst (ks.map V.ref)):=owx.ob 9 ↑4;have n2:2<=n:=ft.n2;have n8:n<=8:=ft.n8;have lc:c.length=4*n+4:=ft.lc;have lt:tr.length<=4000000:=ft.lt;have hi0:0<=at_:=hi0;have hi1:at_<os.length:=hi1;have m0:=Int.emod_nonneg sp (show(n:Int)≠0 by lia)
  have m1:=Int.emod_lt_of_pos sp (show(0:Int)<n by lia)
  have lk:ks.length=os.length:=owx.rk.1;obtain⟨q,hq⟩:∃q,ks[at_.toNat]?=some q:=⟨_,List.getElem?_eq_getElem ↑2⟩;obtain⟨nq,eq⟩:=owx.row hq hi0 hi1;have eq:H q=some (.lst ((os.getD at_.toNat []).map V.int)):=eq;have hat:atI (ks.map V.ref) at_=some (.ref q):=by
   unfold atI ixN;rw[if_pos hi0,if_pos (by rw[List.length_map];lia)]
   show(ks.map V.ref)[at_.toNat]?=_;rw[List.getElem?_map,hq]
   rfl
  fail "";refine w9 e9 hat ?_;have tch:∀(j:Nat)(v:Option Int)(R:V->Hp->Prop),j<4*n+4->(∀H1 k1 b1 t1,OWx H1 a (j4 ⟨n,c,⟨a0a x,.int sp,fiv,se,at_,pa,ps,le⟩,t,os,bk,tr⟩ true j v) k1 b1 t1->H1 q=some (.lst ((os.getD at_.toNat []).map V.int))->R (.int ((j4 ⟨n,c,⟨a0a x,.int sp,fiv,se,at_,pa,ps,le⟩,t,os,bk,tr⟩ true j v).c.getD j 0)) H1)->v2 [.ref (a 0),.int 0,.int (j:Nat),vO v] H R E:=λj v R hj fn=>⟨a,_,true,j,v,rfl,ow,(by show _<c.length;lia),(by show c.length<=_;lia),lt,λH1 h1 kp=>by
   obtain⟨k1,b1,t1,x1⟩:=h1;exact fn H1 k1 b1 t1 x1 (kp _ _ eq nq)⟩
  have eh:((4*(sp % n).toNat:Nat):Int)=4*(sp % (n:Int)):=by lia
  rcases hx with rfl|rfl|rfl|rfl|rfl|rfl|rfl
  ·walk_at "st"
   fail "";rw[<- eh];refine tch _ none _ ↑2 λH1 k1 b1 t1 x1 eq1=>?_;fail "";refine⟨by show 2<=sizeLine;decide,λl hl=>?_⟩
   generalize u2:upd H1 l _=H2;obtain⟨s2,f2⟩:=nwS u2 hl;fail "";refine⟨a,_,true,_,sp,rfl,⟨k1,b1,t1,x1.same s2⟩,rfl,n2,n8,ft.s0,ft.s1,λH3 s3 h3=>.inr ⟨_,rfl,?_⟩⟩;obtain⟨k3,b3,t3,x3⟩:=h3;refine w9 (v:=.str (a0a (if c2b n true sp (c.getD (4*(sp % n).toNat) 0) then .number else .wish))) (s3 _ _ f2) (by show atI _ (if c2b n true sp (c.getD (4*(sp % n).toNat) 0)=true then 1 else 0)=_;cases c2b n true sp (c.getD (4*(sp % n).toNat) 0) <;> rfl) ?_
   fail "";exact a4c x3 true ⟨a0a (if c2b n true sp (c.getD (4*(sp % n).toNat) 0) then .number else .wish),.int sp,fiv,se,at_,pa,ps,le⟩ rfl rfl rfl λH4 x4=>k H4 _ ⟨_,_,_,x4⟩ rfl
  ·walk_at "st"
   walk_at "st";fail "";rw[<- eh];refine tch (4*(sp % n).toNat+1) (some at_) _ ↑2 λH1 k1 b1 t1 x1 eq1=>?_;fail "";exact a4c x1 true ⟨"left",.int sp,fiv,se,at_,pa,ps,le⟩ rfl rfl rfl λH4 x4=>k H4 _ ⟨_,_,_,x4⟩ rfl
  ·walk_at "st"
   walk_at "st";walk_at "st";fail "";rw[<- eh,List.length_map];refine tch (4*(sp % n).toNat+2) (some (((os.getD at_.toNat []).length:Int)-1-pa)) _ ↑2 λH1 k1 b1 t1 x1 eq1=>?_;fail "";exact a4c x1 true ⟨"thing",.int sp,fiv,se,at_,pa,ps,le⟩ rfl rfl rfl λH4 x4=>k H4 _ ⟨_,_,_,x4⟩ rfl
  ·obtain⟨p0,p1⟩:=hp rfl
   have p0:0<=pa:=p0;have p1:pa<(os.getD at_.toNat []).length:=p1;walk_at "st";walk_at "st";walk_at "st";walk_at "st";fail "";refine w9 eq (b9x p0 p1) ?_;fail "";rw[<- eh];refine tch (4*(sp % n).toNat+3) (some ((os.getD at_.toNat []).getD pa.toNat 0)) _ ↑2 λH1 k1 b1 t1 x1 eq1=>?_;fail "";exact a4c x1 true ⟨"mark",.int sp,fiv,se,at_,pa,ps,le⟩ rfl rfl rfl λH4 x4=>k H4 _ ⟨_,_,_,x4⟩ rfl
  ·walk_at "st"
   walk_at "st";walk_at "st";walk_at "st";walk_at "st";fail "";rw[<- eh];refine tch (4*(sp % n).toNat) (some (2*(sp / n)+1)) _ ↑2 λH1 k1 b1 t1 x1 eq1=>?_;fail "";exact a4c x1 true ⟨"card",.int sp,fiv,se,at_,pa,ps,le⟩ rfl rfl rfl λH4 x4=>k H4 _ ⟨_,_,_,x4⟩ rfl
  ·walk_at "st"
   walk_at "st";walk_at "st";walk_at "st";walk_at "st";walk_at "st";fail "";refine tch (4*n+1) none _ ↑2 λH1 k1 b1 t1 x1 eq1=>?_;have eg1:H1 (a 3)=some (.dK (kvQ (a0a .card) (.int sp) fiv at_ pa le (a 5) (a 7))):=x1.eg;fail "";rw[a4v];fail "j"
   ·fail ""
    exact a4c x1 true ⟨"ring",.int sp,fiv,se,at_,pa,ps,le⟩ rfl rfl rfl λH2 x2=>k H2 _ ⟨_,_,_,x2⟩ (if_pos y).symm
   ·have eF:b8a ⟨n,c,⟨a0a .card,.int sp,fiv,se,at_,pa,ps,le⟩,t,os,bk,tr⟩ sp .card=d3d _ sp:=if_neg y
    walk_at "st"
    (fail "");(refine d3e x1 nq eq1 true ⟨"look",.int sp,fiv,se,at_,pa,ps,le⟩ rfl rfl rfl λH2 x2 eq2=>?_)
    (have eg2:H2 (a 3)=some (.dK (kvQ "look" (.int sp) fiv at_ pa le (a 5) (a 7))):=x2.eg)
    (fail "")
    (refine d3e x2 nq eq2 true ⟨"look",.int ((sp+1) % (2*n)),fiv,se,at_,pa,ps,le⟩ rfl rfl rfl λH3 x3 eq3=>?_)
    (have eg3:H3 (a 3)=some (.dK (kvQ "look" (.int ((sp+1) % (2*n))) fiv at_ pa le (a 5) (a 7))):=x3.eg)
    (fail "")
    (refine d3e x3 nq eq3 true ⟨"look",.int ((sp+1) % (2*n)),fiv,se,at_,pa+1,ps,le⟩ rfl rfl rfl λH4 x4 eq4=>?_)
    (have eg4:H4 (a 3)=some (.dK (kvQ "look" (.int ((sp+1) % (2*n))) fiv at_ (pa+1) le (a 5) (a 7))):=x4.eg)
    (fail "")
    rw[a4v,List.length_map];refine a1y (λy2=>?_) (λy2=>?_)
    ·(fail "")
     (refine a4c x4 true ⟨"look",.int ((sp+1) % (2*n)),fiv,se,at_+1,pa+1,ps,le⟩ rfl rfl rfl λH5 x5=>?_)
     (fail "")
     exact a4c x5 true ⟨"look",.int ((sp+1) % (2*n)),fiv,se,at_+1,0,ps,le⟩ rfl rfl rfl λH6 x6=>k H6 _ ⟨_,_,_,x6⟩ (eF.trans (if_pos y2)).symm
    ·(fail "")
     exact k H4 _ ⟨_,_,_,x4⟩ (eF.trans (if_neg y2)).symm
  ·walk_at "st"
   walk_at "st";walk_at "st";walk_at "st";walk_at "st";walk_at "st";walk_at "st";fail "";refine tch (4*n+3) (some 1) _ ↑2 λH1 k1 b1 t1 x1 eq1=>?_;have eg1:H1 (a 3)=some (.dK (kvQ (a0a .ring) (.int sp) fiv at_ pa le (a 5) (a 7))):=x1.eg;have eF:b8a ⟨n,c,⟨a0a .ring,.int sp,fiv,se,at_,pa,ps,le⟩,t,os,bk,tr⟩ sp .ring=d3d _ sp:=rfl
   (fail "");(refine d3e x1 nq eq1 true ⟨"look",.int sp,fiv,se,at_,pa,ps,le⟩ rfl rfl rfl λH2 x2 eq2=>?_)
   (have eg2:H2 (a 3)=some (.dK (kvQ "look" (.int sp) fiv at_ pa le (a 5) (a 7))):=x2.eg)
   (fail "")
   (refine d3e x2 nq eq2 true ⟨"look",.int ((sp+1) % (2*n)),fiv,se,at_,pa,ps,le⟩ rfl rfl rfl λH3 x3 eq3=>?_)
   (have eg3:H3 (a 3)=some (.dK (kvQ "look" (.int ((sp+1) % (2*n))) fiv at_ pa le (a 5) (a 7))):=x3.eg)
   (fail "")
   (refine d3e x3 nq eq3 true ⟨"look",.int ((sp+1) % (2*n)),fiv,se,at_,pa+1,ps,le⟩ rfl rfl rfl λH4 x4 eq4=>?_)
   (have eg4:H4 (a 3)=some (.dK (kvQ "look" (.int ((sp+1) % (2*n))) fiv at_ (pa+1) le (a 5) (a 7))):=x4.eg)
   (fail "")
   rw[a4v,List.length_map];refine a1y (λy2=>?_) (λy2=>?_)
   ·(fail "")
    (refine a4c x4 true ⟨"look",.int ((sp+1) % (2*n)),fiv,se,at_+1,pa+1,ps,le⟩ rfl rfl rfl λH5 x5=>?_)
    (fail "")
    exact a4c x5 true ⟨"look",.int ((sp+1) % (2*n)),fiv,se,at_+1,0,ps,le⟩ rfl rfl rfl λH6 x6=>k H6 _ ⟨_,_,_,x6⟩ (eF.trans (if_pos y2)).symm
   ·(fail "")
    exact k H4 _ ⟨_,_,_,x4⟩ (eF.trans (if_neg y2)).symm
set_option hygiene false in
section
variable{H:Hp}{a:Nat->Addr}{s:Ow}{ks bs ts:List Addr}
theorem OWx.pushP(h:OWx H a s ks bs ts)(v:Int):OWx (upd H (a 8) (.lst (s.t.ps.map V.int++[.int v]))) a { s with t:={ s.t with ps:=s.t.ps++[v] } } ks bs ts:=by
 refine h.set (s':={ s with t:={ s.t with ps:=s.t.ps++[v] } }) (k:=8) (by decide) (λj hj z=>?_) rfl rfl rfl (by show _=HO.lst ((s.t.ps++[v]).map V.int);rw[List.map_append];rfl)
 have:j=0\/j=1\/j=2\/j=3\/j=4\/j=5\/j=6\/j=7\/j=9\/j=10\/j=11:=by lia
 rcases this with rfl|rfl|rfl|rfl|rfl|rfl|rfl|rfl|rfl|rfl|rfl <;> rfl
theorem RwO.push{ps:List Addr}{os:List ↑26}{p:Addr}{o:List Int}{k:Nat}(hk:k<12){u:HO}(h:RwO H a ps os)(hp:H p=some ↑36)(np:∀j,j<12->p≠a j):RwO (upd H (a k) u) a (ps++[p]) (os++[o]):=by
 refine⟨by rw[List.length_append,List.length_append,h.1];rfl,λi q r hq hr=>?_⟩
 by_cases z:i<ps.length
 ·rw[List.getElem?_append_left z] at hq
  rw[List.getElem?_append_left (by rw[<- h.1];exact z)] at hr
  obtain⟨r1,r2⟩:=h.2 i q r hq hr;exact⟨r1,by rw[c9 (r1 k hk)];exact r2⟩
 ·rw[List.getElem?_append_right ↑2] at hq
  have e:i=ps.length:=by
   by_cases y:i-ps.length=0
   ·lia
   ·rw[List.getElem?_eq_none (by simp;lia)] at hq;cases hq
  subst e;rw[Nat.sub_self] at hq;rw[List.getElem?_append_right (by rw[h.1];exact Nat.le_refl _),h.1,Nat.sub_self] at hr
  cases hq;cases hr;exact⟨np,by rw[c9 (np k hk)];exact hp⟩
theorem RwO.off{ps:List Addr}{os:List ↑26}{k:Nat}(hk:k<12){u:HO}(h:RwO H a ps os):RwO (upd H (a k) u) a ps os:=⟨h.1,λi q r hq hr=>by
 obtain⟨r1,r2⟩:=h.2 i q r hq hr;exact⟨r1,by rw[c9 (r1 k hk)];exact r2⟩⟩
theorem OWx.pushR(h:OWx H a s ks bs ts)(b:Bool){p:Addr}{o:List Int}(hp:H p=some ↑36)(np:∀j,j<12->p≠a j):OWx (upd H (a (if b then 9 else 10)) (.lst ((if b then ks else bs).map V.ref++[.ref p]))) a (if b then { s with os:=s.os++[o] } else { s with bk:=s.bk++[o] }) (if b then ks++[p] else ks) (if b then bs else bs++[p]) ts:=by
 have rt:∀k u,k<12->TrO (upd H (a k) u) ts s.tr:=λk u hk=>⟨h.rt.1,λi p t hp ht=>by
  have e:=h.rt.2 i p t hp ht;rw[c9]
  ·exact e
  ·rintro rfl
   have:=d2i s a ks bs ts k;rw[h.ob k hk] at e;injection e with e
   rw[e] at this;exact this⟩
 cases b with
 | true=>
  refine⟨h.inj,λj hj=>?_,h.rk.push ↑4 hp np,h.rb.off ↑4,rt 9 _ ↑4⟩;by_cases z:j=9
  ·subst z;exact d6.trans (by show _=some (HO.lst ((ks++[p]).map V.ref));rw[List.map_append];rfl)
  ·refine (c9 (h.inj j 9 hj ↑4 z)).trans ((h.ob j hj).trans ?_)
   have:j=0\/j=1\/j=2\/j=3\/j=4\/j=5\/j=6\/j=7\/j=8\/j=10\/j=11:=by lia
   rcases this with rfl|rfl|rfl|rfl|rfl|rfl|rfl|rfl|rfl|rfl|rfl <;> rfl
 | false=>
  refine⟨h.inj,λj hj=>?_,h.rk.off ↑4,h.rb.push ↑4 hp np,rt 10 _ ↑4⟩;by_cases z:j=10
  ·subst z;exact d6.trans (by show _=some (HO.lst ((bs++[p]).map V.ref));rw[List.map_append];rfl)
  ·refine (c9 (h.inj j 10 hj ↑4 z)).trans ((h.ob j hj).trans ?_)
   have:j=0\/j=1\/j=2\/j=3\/j=4\/j=5\/j=6\/j=7\/j=8\/j=9\/j=11:=by lia
   rcases this with rfl|rfl|rfl|rfl|rfl|rfl|rfl|rfl|rfl|rfl|rfl <;> rfl
end
noncomputable def b9d(s:Ow)(sp:Int)(x:Stg):Ow :=
 let h:=4*(sp % s.n).toNat
 match x with
 | .look=>{ j4 s false h none with t:={ s.t with st:=a0a (if c2b s.n false sp (s.c.getD h 0) then .number else .wish) } }
 | .number=>{ j4 s false (h+1) none with t:={ s.t with at_:=s.c.getD (h+1) 0,st:="left" } }
 | .left=>{ j4 s false (h+2) none with t:={ s.t with le:=s.c.getD (h+2) 0,st:="thing" } }
 | _=>if 0<s.t.le then { j4 s false (h+3) none with t:={ s.t with ps:=s.t.ps++[s.c.getD (h+3) 0],st:="look",sp:=.int ((sp+1) % (2*s.n)) } }
  else if s.t.at_=s.bk.length then { j4 s false (h+3) none with t:={ s.t with ps:=s.t.ps++[s.c.getD (h+3) 0],st:="free" },bk:=s.bk++[s.t.ps++[s.c.getD (h+3) 0]] }
  else { j4 s false (h+3) none with t:={ s.t with ps:=s.t.ps++[s.c.getD (h+3) 0],st:="free" } }
def b5b:Sp:=λvs H Q _=>∃(a:Nat->Addr)(s:Ow)(sp:Int)(x:Stg),vs=[.ref (a 0)]/\OW H a s/\Fit s false sp/\(x=.look\/x=.number\/x=.left\/x=.thing)/\s.t.st=a0a x/\s.t.ps.length<=1000/\s.bk.length<=1000/\∀H' s',OW H' a s'->s'=b9d s sp x->Q .non H'
abbrev b1f:Stmt:=top 118
theorem a1v:g2 ["lane","hand","size","here","stage","mark"] ["lane"] (d7 b1f):=↑1
theorem c3z(D:DefT K mg "_law_takes" b1f ["lane"])(T:↑18)(G_law_touch:↑901 "_law_touch" 1 ["lane","who","cell","value"] v2)(G_law_lets:↑901 "_law_lets" 1 ["lane","who","mark"] a6r):↑901 "_law_takes" 2 ["lane"] b5b:=by
 refine D.fn a1v ↑7 ↑8
 ·obtain⟨a,⟨n,c,g,⟨st,spv,fiv,se,at_,pa,ps,le⟩,os,bk,tr⟩,sp,x,rfl,ow,ft,hx,es,lp,lb,k⟩:=h
  obtain rfl:spv=.int sp:=ft.es;obtain rfl:st=a0a x:=es;refine⟨_,(b9 (i6 (i:=1) a1v.nd rfl ↑23 (l7 ↑12 ↑42 d8 ↑10))
   (b9 (i6 (i:=2) a1v.nd rfl ↑23 ↑42)
   (b9 (i6 (i:=3) a1v.nd rfl ↑23 (g7 m6 d8 (g7 a0f ↑9 (pv 2))))
   (b9 (i6 (i:=4) a1v.nd rfl ↑23 ↑9)
   (d5 (m4 (g9 v3 (pv 4) g6 ↑32)
    (
     b9 (i6 (i:=5) a1v.nd rfl ↑23 (i5 G_law_touch hr ↑4 rfl g4 (a9 (pv 0) (a9 d8 (a9 (pv 3) (a9 a2k d9))))))
     (d5 (n6 ↑25 (pv 1) g6 (l7 ↑12 (k8 ↑21) (m9 a2p (by rfl) T.z_int PyProof.Rows.boot_int (a9 (i5 G_law_lets hr ↑4 rfl g4 (a9 (pv 0) (a9 d8 (a9 (pv 5) d9)))) d9)) ↑10) rfl)))
    (d5 (
         m4 (g9 v3 (pv 4) g6 ↑32)
      (
      b9 (n6 ↑25 (pv 1) g6 (i5 G_law_touch hr ↑4 rfl g4 (a9 (pv 0) (a9 d8 (a9 (g7 j9 (pv 3) d8) (a9 a2k d9))))) rfl)
      (d5 ↑19))
      (d5 (m4 (g9 v3 (pv 4) g6 ↑32)
       (
        b9 (n6 ↑25 (pv 1) g6 (i5 G_law_touch hr ↑4 rfl g4 (a9 (pv 0) (a9 d8 (a9 (g7 j9 (pv 3) d8) (a9 a2k d9))))) rfl)
        (d5 ↑19))
       (
        b9 (i3 (n9 (K:=K) ↑9 (a9 (i5 G_law_touch hr ↑4 rfl g4 (a9 (pv 0) (a9 d8 (a9 (g7 j9 (pv 3) d8) (a9 a2k d9))))) d9)))
        (b9 ↑19
        (d5 (m4 (g9 b8q ↑9 d8 ↑32)
         (d5 (n6 ↑25 (pv 1) g6 (g7 a0f (g7 j9 ↑9 d8) (g7 m6 d8 (pv 2))) rfl))
         (
         b9 ↑19
         (d5 (m4 (g9 v3 ↑9 (k0 ↑34 (by rfl) T.z_len PySem.boot_len (a9 ↑42 d9)) ↑32)
          (d5 (i3 (n9 (K:=K) ↑42 (a9 (m9 (a0e (K:=K)) (by rfl) T.z_list PyProof.Rows.boot_list (a9 ↑9 d9)) d9))))
          m3))))))))))))))))),?_⟩
  obtain⟨ks,bs,ts,owx⟩:=id ow;have e0:H (a 0)=some (.dK (kvO n a)):=owx.e0;have e2:=owx.hs;have et:H (a 4)=some (.dK (kvQ (a0a x) (.int sp) fiv at_ pa le (a 6) (a 8))):=owx.et;have n2:2<=n:=ft.n2;have n8:n<=8:=ft.n8;have lc:c.length=4*n+4:=ft.lc;have lt:tr.length<=4000000:=ft.lt;have lp:ps.length<=1000:=lp;have lb:bk.length<=1000:=lb;have h60:2000<=sizeLine:=by decide
  have m0:=Int.emod_nonneg sp (show(n:Int)≠0 by lia)
  have m1:=Int.emod_lt_of_pos sp (show(0:Int)<n by lia)
  have tch:∀(j:Nat)(R:V->Hp->Prop),j<4*n+4->(∀H1 k1 b1 t1,OWx H1 a (j4 ⟨n,c,g,⟨a0a x,.int sp,fiv,se,at_,pa,ps,le⟩,os,bk,tr⟩ false j none) k1 b1 t1->R (.int (c.getD j 0)) H1)->v2 [.ref (a 0),.int 1,.int (j:Nat),.non] H R E:=λj R hj fn=>⟨a,_,false,j,none,rfl,ow,(by show _<c.length;lia),(by show c.length<=_;lia),lt,λH1 h1 kp=>by
   obtain⟨k1,b1,t1,x1⟩:=h1;exact fn H1 k1 b1 t1 x1⟩
  have eh:((4*(sp % n).toNat:Nat):Int)=4*(sp % (n:Int)):=by lia
  fail "";rcases hx with rfl|rfl|rfl|rfl
  ·walk_at "st"
   fail "";rw[<- eh];refine tch _ _ ↑2 λH1 k1 b1 t1 x1=>?_;fail "";refine⟨by show 2<=sizeLine;decide,λl hl=>?_⟩
   generalize u2:upd H1 l _=H2;obtain⟨s2,f2⟩:=nwS u2 hl;fail "";refine⟨a,_,false,_,sp,rfl,⟨k1,b1,t1,x1.same s2⟩,rfl,n2,n8,ft.s0,ft.s1,λH3 s3 h3=>.inr ⟨_,rfl,?_⟩⟩;obtain⟨k3,b3,t3,x3⟩:=h3;refine w9 (v:=.str (a0a (if c2b n false sp (c.getD (4*(sp % n).toNat) 0) then .number else .wish))) (s3 _ _ f2) (by show atI _ (if c2b n false sp (c.getD (4*(sp % n).toNat) 0)=true then 1 else 0)=_;cases c2b n false sp (c.getD (4*(sp % n).toNat) 0) <;> rfl) ?_
   fail "";exact a4c x3 false ⟨a0a (if c2b n false sp (c.getD (4*(sp % n).toNat) 0) then .number else .wish),.int sp,fiv,se,at_,pa,ps,le⟩ rfl rfl rfl λH4 x4=>k H4 _ ⟨_,_,_,x4⟩ rfl
  ·walk_at "st"
   walk_at "st";fail "";rw[<- eh];refine tch (4*(sp % n).toNat+1) _ ↑2 λH1 k1 b1 t1 x1=>?_;fail "";refine a4c x1 false ⟨a0a .number,.int sp,fiv,se,c.getD (4*(sp % n).toNat+1) 0,pa,ps,le⟩ rfl rfl rfl λH3 x3=>?_;fail "";exact a4c x3 false ⟨"left",.int sp,fiv,se,c.getD (4*(sp % n).toNat+1) 0,pa,ps,le⟩ rfl rfl rfl λH4 x4=>k H4 _ ⟨_,_,_,x4⟩ rfl
  ·walk_at "st"
   walk_at "st";walk_at "st";fail "";rw[<- eh];refine tch (4*(sp % n).toNat+2) _ ↑2 λH1 k1 b1 t1 x1=>?_;fail "";refine a4c x1 false ⟨a0a .left,.int sp,fiv,se,at_,pa,ps,c.getD (4*(sp % n).toNat+2) 0⟩ rfl rfl rfl λH3 x3=>?_;fail "";exact a4c x3 false ⟨"thing",.int sp,fiv,se,at_,pa,ps,c.getD (4*(sp % n).toNat+2) 0⟩ rfl rfl rfl λH4 x4=>k H4 _ ⟨_,_,_,x4⟩ rfl
  ·walk_at "st"
   walk_at "st";walk_at "st";fail "";have e80:H (a 8)=some (.lst (ps.map V.int)):=owx.ob 8 ↑4;fail "";rw[<- eh];refine tch (4*(sp % n).toNat+3) _ ↑2 λH1 k1 b1 t1 x1=>?_;have e8:H1 (a 8)=some (.lst (ps.map V.int)):=x1.ob 8 ↑4;have lp2:(ps.map V.int).length<sizeLine:=by rw[List.length_map];lia
   fail "";have x2:OWx (upd H1 (a 8) (.lst (ps.map V.int++[.int (c.getD (4*(sp % n).toNat+3) 0)]))) a _ _ _ _:=x1.pushP (c.getD (4*(sp % n).toNat+3) 0)
   revert x2
   generalize upd H1 (a 8) _=H2;intro x2;refine a4c x2 false ⟨"look",.int sp,fiv,se,at_,pa,ps++[c.getD (4*(sp % n).toNat+3) 0],le⟩ rfl rfl rfl λH3 x3=>?_;have et3:H3 (a 4)=some (.dK (kvQ "look" (.int sp) fiv at_ pa le (a 6) (a 8))):=x3.et;fail "";fail "j"
   ·fail ""
    exact a4c x3 false ⟨"look",.int ((sp+1) % (2*n)),fiv,se,at_,pa,ps++[c.getD (4*(sp % n).toNat+3) 0],le⟩ rfl rfl rfl λH4 x4=>k H4 _ ⟨_,_,_,x4⟩ (if_pos y).symm
   ·fail ""
    refine a4c x3 false ⟨"free",.int sp,fiv,se,at_,pa,ps++[c.getD (4*(sp % n).toNat+3) 0],le⟩ rfl rfl rfl λH4 x4=>?_;have et4:H4 (a 4)=some (.dK (kvQ "free" (.int sp) fiv at_ pa le (a 6) (a 8))):=x4.et;have e04:H4 (a 0)=some (.dK (kvO n a)):=x4.e0;have e8:H4 (a 8)=some (.lst ((ps++[c.getD (4*(sp % n).toNat+3) 0]).map V.int)):=x4.ob 8 ↑4;have e10:H4 (a 10)=some (.lst (b1.map V.ref)):=x4.ob 10 ↑4;have lb1:b1.length=bk.length:=x4.rb.1;fail "";rw[a4v,List.length_map,lb1];refine a1y (λy2=>?_) (λy2=>?_)
    ·fail ""
     intro l hl;have s5:=g3 (o:=.lst ((ps++[c.getD (4*(sp % n).toNat+3) 0]).map V.int)) hl;have x5:=(x4.same s5).pushR false d6 λj hj z=>by
      have:=x4.ob j hj;rw[<- z,hl] at this;cases this
     have e105:=s5 _ _ e10;have ll:(b1.map V.ref).length<sizeLine:=by rw[List.length_map];lia
     fail "";exact k _ _ ⟨_,_,_,x5⟩ ((if_neg y).trans (if_pos y2)).symm
    ·fail ""
     exact k H4 _ ⟨_,_,_,x4⟩ ((if_neg y).trans (if_neg y2)).symm
set_option hygiene false in
theorem c7x{α:Type}(k:Nat)(x:α):(List.replicate k [x]).flatten=List.replicate k x:=by
 induction k with
 | zero=>rfl
 | succ k ih=>rw[List.replicate_succ,List.flatten_cons,ih];rfl
theorem e1d{n t:Nat}(n2:2<=n)(ht:t<2*n):(List.replicate ((t:Int) % (n:Int)).toNat [V.int ((t:Int) / (n:Int))]).flatten++(List.replicate ((n:Int)-(t:Int) % (n:Int)).toNat [V.int (1-(t:Int) / (n:Int))]).flatten=((c2m n t).map b2i).map V.int:=by
 rw[c7x,c7x];have e1:((t:Int) % (n:Int)).toNat=t % n:=by lia
 have hm:=Nat.mod_lt t (show 0<n by lia)
 have e2:((n:Int)-(t:Int) % (n:Int)).toNat=n-t % n:=by lia
 have hd:t / n<2:=by rw[Nat.div_lt_iff_lt_mul ↑2];lia
 have e3:(t:Int) / (n:Int)=b2i (t / n == 1):=by
  have:((t:Int) / (n:Int))=((t / n:Nat):Int):=by push_cast;rfl
  rw[this]
  revert hd
  generalize t / n=d;intro hd
  match d,hd with
  | 0,_=>rfl
  | 1,_=>rfl
 have e4:1-b2i (t / n == 1)=b2i (!(t / n == 1)):=by cases (t / n == 1) <;> rfl
 rw[e1,e2,e3,e4];unfold c2m;simp only[List.map_append,List.map_replicate]
theorem d4y{n i t:Nat}(n2:2<=n)(n8:n<=8)(hi:i<2*n)(ht:t<2*n)(e:c2m n i=c2m n t):i=t:=by
 have:=a9t n2 n8 hi;rw[e,a9t n2 n8 ht] at this;cases this;rfl
theorem d4x{n t:Nat}(n2:2<=n):(c2m n t).length=n:=by
 unfold c2m;have:=Nat.mod_lt t (show 0<n by lia)
 rw[List.length_append,List.length_replicate,List.length_replicate];lia
def b0g:Sp:=λvs H Q _=>∃(n t:Nat)(p:Addr),vs=[.int n,.ref p]/\H p=some (.lst (((c2m n t).map b2i).map V.int))/\2<=n/\n<=8/\t<2*n/\∀H',Same H H'->Q (.int t) H'
abbrev a7a:Stmt:=top 112
theorem a1k:g2 ["size","bits","turn","lap","place","row"] ["size","bits"] (d7 a7a):=↑1
theorem b8s(D:DefT K mg "_law_turn_by" a7a ["size","bits"])(T:↑18):↑901 "_law_turn_by" 1 ["size","bits"] b0g:=by
 refine D.fn a1k ↑7 ↑8
 ·obtain⟨n,t,p,rfl,ep,n2,n8,ht,k⟩:=h
  refine⟨_,(b9 (b0n a2m rfl (a8v rfl T.z_range (a9 (g7 m6 d8 (pv 0)) d9)) (o9 (i:=2) a1k.nd rfl ↑23)
     (
     b9 (i6 (i:=3) a1k.nd rfl ↑23 (g7 a2n (pv 2) (pv 0)))
     (b9 (i6 (i:=4) a1k.nd rfl ↑23 (g7 a0f (pv 2) (pv 0)))
     (b9 (i6 (i:=5) a1k.nd rfl ↑23 (g7 c8f (g7 c8d (k8 (a9 (pv 3) d9)) (pv 4)) (g7 c8d (k8 (a9 (g7 a3n d8 (pv 3)) d9)) (g7 a3n (pv 0) (pv 4)))))
     (d5 (m4 (g9 (b9k (K:=K) (n:=0) ↑25) (pv 1) (pv 5) ↑32)
      (d5 (i9 (pv 2)))
      m3))))))
   (d5 (i9 a2k))),?_⟩
  have h60:2000<=sizeLine:=by decide
  fail "";rw[show(2*(n:Int)).toNat=2*n by lia]
  refine a9u (n:=2*n) (λi σ H'=>∃x2 x3 x4 x5,σ=[some (.int n),some (.ref p),x2,x3,x4,x5]/\Same H H'/\i<=t) ⟨_,_,_,_,rfl,Same.refl H,Nat.zero_le _⟩ ?_ ?_
  ·rintro i σ H1 hi ⟨x2,x3,x4,x5,rfl,s1,hn⟩
   rw[Int.zero_add];have m0:=Int.emod_nonneg (i:Int) (show(n:Int)≠0 by lia)
   have m1:=Int.emod_lt_of_pos (i:Int) (show(0:Int)<(n:Int) by lia)
   fail "";refine⟨(by show 1<=sizeLine;decide),λp1 hp1=>?_⟩
   fail "";refine⟨p1,_,_,rfl,rfl,d6,by lia,by lia,(by show 1*_<=_;lia),λp2 hp2=>?_⟩
   fail "";refine⟨(by show 1<=sizeLine;decide),λp3 hp3=>?_⟩
   fail "";refine⟨p3,_,_,rfl,rfl,d6,by lia,by lia,(by show 1*_<=_;lia),λp4 hp4=>?_⟩
   have re:=e1d n2 hi;refine⟨p2,p4,_,_,rfl,rfl,g3 hp4 _ _ (g3 hp3 _ _ d6),d6,?_,λp5 hp5=>?_⟩
   ·rw[<- List.length_append,re,List.length_map,List.length_map,d4x n2];lia
   rw[re];have s5:Same H1 (upd (upd (upd (upd H1 p1 (.lst [.int ((i:Int) / (n:Int))])) p2 (.lst (List.replicate ((i:Int) % (n:Int)).toNat [V.int ((i:Int) / (n:Int))]).flatten)) p3 (.lst [.int (1-(i:Int) / (n:Int))])) p4 (.lst (List.replicate ((n:Int)-(i:Int) % (n:Int)).toNat [V.int (1-(i:Int) / (n:Int))]).flatten)):=(((g3 hp1).trans (g3 hp2)).trans (g3 hp3)).trans (g3 hp4)
   revert s5 hp5
   generalize upd (upd (upd (upd H1 p1 _) p2 _) p3 _) p4 _=H5;intro hp5 s5;have s6:Same H (upd H5 p5 (.lst (((c2m n i).map b2i).map V.int))):=(s1.trans s5).trans (g3 hp5);fail "";refine d3i (c2j (i4 (s5 _ _ (s1 _ _ ep)) hp5) (SqL.of (s6 _ _ ep)) (SqL.of d6) (a9e _) (a9e _)) ?_;rw[c2k];fail "";by_cases c:((c2m n t).map b2i)=((c2m n i).map b2i)
   ·rw[decide_eq_true c]
    have e:=d4y n2 n8 ht hi (d9y c);subst e;fail "";exact k _ s6
   ·rw[decide_eq_false c]
    have ne:i≠t:=λz=>c (by rw[z])
    fail "";exact⟨_,_,_,_,rfl,s6,by lia⟩
  ·rintro σ H1 ⟨x2,x3,x4,x5,rfl,s1,hn⟩
   exact absurd ht ↑2
section
variable{H:Hp}{a:Nat->Addr}{s:Ow}{ks bs ts:List Addr}
def ia(b:Bool):Nat:=if b then 5 else 6
def ib(b:Bool):Nat:=if b then 7 else 8
theorem OWx.eh(h:OWx H a s ks bs ts)(b:Bool):H (a (ha b))=some (.dK (kvQ (s.h b).st (s.h b).sp (s.h b).fi (s.h b).at_ (s.h b).pa (s.h b).le (a (ia b)) (a (ib b)))):=by
 cases b
 ·exact h.et
 ·exact h.eg
theorem OWx.es(h:OWx H a s ks bs ts)(b:Bool):H (a (ia b))=some (.lst ((s.h b).se.map V.int)):=by
 cases b
 ·exact h.ob 6 ↑4
 ·exact h.ob 5 ↑4
theorem a7v(s:Ow)(b:Bool)(x:Hd):(s.setH b x).h b=x:=by cases b <;> rfl
theorem b6s(s:Ow)(b:Bool)(x y:Hd):(s.setH b x).setH b y=s.setH b y:=by cases b <;> rfl
theorem OWx.pushS(h:OWx H a s ks bs ts)(b:Bool)(v:Int):OWx (upd H (a (ia b)) (.lst ((s.h b).se.map V.int++[.int v]))) a (s.setH b { s.h b with se:=(s.h b).se++[v] }) ks bs ts:=by
 cases b with
 | true=>
  refine h.set (s':={ s with g:={ s.g with se:=s.g.se++[v] } }) (k:=5) (by decide) (λj hj z=>?_) rfl rfl rfl (by show _=HO.lst ((s.g.se++[v]).map V.int);rw[List.map_append];rfl)
  have:j=0\/j=1\/j=2\/j=3\/j=4\/j=6\/j=7\/j=8\/j=9\/j=10\/j=11:=by lia
  rcases this with rfl|rfl|rfl|rfl|rfl|rfl|rfl|rfl|rfl|rfl|rfl <;> rfl
 | false=>
  refine h.set (s':={ s with t:={ s.t with se:=s.t.se++[v] } }) (k:=6) (by decide) (λj hj z=>?_) rfl rfl rfl (by show _=HO.lst ((s.t.se++[v]).map V.int);rw[List.map_append];rfl)
  have:j=0\/j=1\/j=2\/j=3\/j=4\/j=5\/j=7\/j=8\/j=9\/j=10\/j=11:=by lia
  rcases this with rfl|rfl|rfl|rfl|rfl|rfl|rfl|rfl|rfl|rfl|rfl <;> rfl
theorem b9u(h:OWx H a s ks bs ts)(b:Bool)(x:Hd){R:Hp->Prop}{k:Str}{v:V}(hs:x.se=(s.h b).se)(hp:x.ps=(s.h b).ps)(e:b5q (kvQ (s.h b).st (s.h b).sp (s.h b).fi (s.h b).at_ (s.h b).pa (s.h b).le (a (ia b)) (a (ib b))) (.inr k) v=kvQ x.st x.sp x.fi x.at_ x.pa x.le (a (ia b)) (a (ib b)))(q:∀H',OWx H' a (s.setH b x) ks bs ts->R H'):∃a' H',V.ref (a (ha b))=.ref a'/\DPut H a' (.str k) v H'/\R H' :=
 a4c h b x hs hp e q
end
noncomputable def d3z(b:Bool)(m:Int):Int:=if b then m / 2 else (m / 2+m) % 2
noncomputable def d1e(s:Ow)(b:Bool)(t:Nat)(x:Stg):Ow :=
 match x with
 | .rouse=>(j4 s b (4*s.n+3-wn b) (some 1)).setH b { s.h b with st:="clear" }
 | .clear=>(j4 s b (4*s.n+wn b) (some (-1))).setH b { s.h b with st:="mute" }
 | .mute=>(j4 s b (4*s.n+2+wn b) (some 0)).setH b { s.h b with st:="marks" }
 | _=>if (s.h b).se.length+1=s.n then (j4 s b (4*(s.h b).se.length) none).setH b { s.h b with se:=(s.h b).se++[s.c.getD (4*(s.h b).se.length) 0],sp:=.int t,fi:=.int t,st:=if b then "told" else "look" }
  else (j4 s b (4*(s.h b).se.length) none).setH b { s.h b with se:=(s.h b).se++[s.c.getD (4*(s.h b).se.length) 0] }
def b6p:Sp:=λvs H Q _=>∃(a:Nat->Addr)(s:Ow)(b:Bool)(t:Nat)(x:Stg),vs=[.ref (a 0),.int (wi b)]/\OW H a s/\2<=s.n/\s.n<=8/\s.c.length=4*s.n+4/\s.tr.length<=4000000/\(x=.rouse\/x=.clear\/x=.mute\/x=.marks)/\(s.h b).st=a0a x /\
 (x=.marks->(s.h b).se.length<s.n/\((s.h b).se.length+1=s.n->t<2*s.n/\((s.h b).se++[s.c.getD (4*(s.h b).se.length) 0]).map (d3z b)=(c2m s.n t).map b2i))/\∀H' s',OW H' a s'->s'=d1e s b t x->Q .non H'
abbrev b4c:Stmt:=top 113
theorem a4m:g2 ["lane","who","hand","size","stage","bits"] ["lane","who"] (d7 b4c):=↑1
theorem c6n(D:DefT K mg "_law_rise" b4c ["lane","who"])(T:↑18)(G_law_touch:↑901 "_law_touch" 1 ["lane","who","cell","value"] v2)(G_law_turn_by:↑901 "_law_turn_by" 1 ["size","bits"] b0g):↑901 "_law_rise" 2 ["lane","who"] b6p:=by
 refine D.fn a4m ↑7 ↑8
 ·obtain⟨a,o,b,t,x,rfl,ow,n2,n8,lc,lt,hx,es,hm,k⟩:=h
  refine⟨_,(b9 (i6 (i:=2) a4m.nd rfl ↑23 (l7 ↑12 ↑42 (pv 1) ↑10))
   (b9 (i6 (i:=3) a4m.nd rfl ↑23 ↑42)
   (b9 (i6 (i:=4) a4m.nd rfl ↑23 (a2l ↑25 (pv 2) g6 ↑10))
   (d5 (m4 (g9 v3 (pv 4) g6 ↑32)
    (
     b9 (i3 (i5 G_law_touch hr ↑4 rfl g4 (a9 (pv 0) (a9 (pv 1) (a9 (g7 a3n (g7 j9 (g7 m6 d8 (pv 3)) d8) (pv 1)) ↑22)))))
     (d5 (n6 ↑25 (pv 2) g6 g6 rfl)))
    (d5 (
         m4 (g9 v3 (pv 4) g6 ↑32)
      (
      b9 (i3 (i5 G_law_touch hr ↑4 rfl g4 (a9 (pv 0) (a9 (pv 1) (a9 (g7 j9 (g7 m6 d8 (pv 3)) (pv 1)) (a9 (c6f b6i d8) d9))))))
      (d5 (n6 ↑25 (pv 2) g6 g6 rfl)))
      (d5 (m4 (g9 v3 (pv 4) g6 ↑32)
       (
        b9 (i3 (i5 G_law_touch hr ↑4 rfl g4 (a9 (pv 0) (a9 (pv 1) (a9 (g7 j9 (g7 j9 (g7 m6 d8 (pv 3)) d8) (pv 1)) ↑22)))))
        (d5 (n6 ↑25 (pv 2) g6 g6 rfl)))
       (
        b9 (i3 (n9 (K:=K) (a2l ↑25 (pv 2) g6 ↑10) (a9 (i5 G_law_touch hr ↑4 rfl g4 (a9 (pv 0) (a9 (pv 1) (a9 (g7 m6 d8 (k0 ↑34 (by rfl) T.z_len PySem.boot_len (a9 (a2l ↑25 (pv 2) g6 ↑10) d9))) (a9 a2k d9))))) d9)))
        (d5 (m4 (g9 v3 (k0 ↑34 (by rfl) T.z_len PySem.boot_len (a9 (a2l ↑25 (pv 2) g6 ↑10) d9)) (pv 3) ↑32)
         (
         b9 (a6i (ix:=5) (N:=["mark","who"]) (nt:=1) (fr:=[1]) rfl (c8x (i:=1) rfl rfl (by decide +kernel) (by decide +kernel) rfl rfl rfl rfl rfl rfl rfl) (a0r (K:=K) (a2l ↑25 (pv 2) g6 ↑10)) (a7i ↑4) (λ_ _ _ _ _=>o9 (i:=0) (show(["mark","who"]:List Str).Nodup by decide +kernel) rfl (Or.inl rfl) (Or.inr rfl)) (λ_ _ _ _ _=>(l7 ↑12 (k8 (a9 (g7 a2n (pv 0) d8) (a9 (g7 a0f (g7 j9 (g7 a2n (pv 0) d8) (pv 0)) d8) d9))) (pv 1) ↑10)) a4m.nd rfl rfl)
         (b9 (n6 ↑25 (pv 2) g6 (i5 G_law_turn_by hr ↑4 rfl g4 (a9 (pv 3) (a9 (pv 5) d9))) rfl)
         (b9 (n6 ↑25 (pv 2) g6 (a2l ↑25 (pv 2) g6 ↑10) rfl)
         (d5 (n6 ↑25 (pv 2) g6 (l7 ↑12 (k8 ↑21) (pv 1) ↑10) rfl)))))
         m3)))))))))))),?_⟩
  obtain⟨ks,bs,ts,owx⟩:=id ow;have e0:H (a 0)=some (.dK (kvO o.n a)):=owx.e0;have e2:=owx.hs;have eh:=owx.eh b;rw[es] at eh;have w2:=e0h b;have h60:2000<=sizeLine:=by decide
  have tch:∀(j:Nat)(v:Option Int)(R:V->Hp->Prop),j<4*o.n+4->(∀H1 k1 b1 t1,OWx H1 a (j4 o b j v) k1 b1 t1->R (.int ((j4 o b j v).c.getD j 0)) H1)->v2 [.ref (a 0),.int (wi b),.int (j:Nat),vO v] H R E:=λj v R hj fn=>⟨a,o,b,j,v,rfl,ow,↑2,↑2,lt,λH1 h1 kp=>by
   obtain⟨k1,b1,t1,x1⟩:=h1;exact fn H1 k1 b1 t1 x1⟩
  fail "";refine w9 e2 (c2l a b) ?_;fail "";rcases hx with rfl|rfl|rfl|rfl
  ·walk_at "st"
   fail "";rw[show 4*(o.n:Int)+3-wi b=((4*o.n+3-wn b:Nat):Int) by rw[c5l];lia]
   refine tch (4*o.n+3-wn b) (some 1) _ ↑2 λH1 k1 b1 t1 x1=>?_;fail "";exact b9u x1 b { o.h b with st:="clear" } (by rw[a3r]) (by rw[a3r]) (by rw[a3r];rfl) λH2 x2=>k H2 _ ⟨_,_,_,x2⟩ rfl
  ·walk_at "st"
   walk_at "st";fail "";rw[show 4*(o.n:Int)+wi b=((4*o.n+wn b:Nat):Int) by rw[c5l];lia]
   refine tch (4*o.n+wn b) (some (-1)) _ ↑2 λH1 k1 b1 t1 x1=>?_;fail "";exact b9u x1 b { o.h b with st:="mute" } (by rw[a3r]) (by rw[a3r]) (by rw[a3r];rfl) λH2 x2=>k H2 _ ⟨_,_,_,x2⟩ rfl
  ·walk_at "st"
   walk_at "st";walk_at "st";fail "";rw[show 4*(o.n:Int)+2+wi b=((4*o.n+2+wn b:Nat):Int) by rw[c5l];lia]
   refine tch (4*o.n+2+wn b) (some 0) _ ↑2 λH1 k1 b1 t1 x1=>?_;fail "";exact b9u x1 b { o.h b with st:="marks" } (by rw[a3r]) (by rw[a3r]) (by rw[a3r];rfl) λH2 x2=>k H2 _ ⟨_,_,_,x2⟩ rfl
  ·obtain⟨hl,ht⟩:=hm rfl
   have esl:=owx.es b;walk_at "st";walk_at "st";walk_at "st";fail "";refine d0q eh rfl ?_;fail "";refine d0q eh rfl ?_;fail "";rw[List.length_map,show 4*(((o.h b).se.length:Nat):Int)=((4*(o.h b).se.length:Nat):Int) by push_cast;rfl]
   have tchR:∀(j:Nat)(R:V->Hp->Prop),j<4*o.n+4->(∀H1 k1 b1 t1,OWx H1 a (j4 o b j none) k1 b1 t1->R (.int (o.c.getD j 0)) H1)->v2 [.ref (a 0),.int (wi b),.int (j:Nat),.non] H R E:=λj R hj fn=>tch j none R hj fn;refine tchR (4*(o.h b).se.length) _ ↑2 λH1 k1 b1 t1 x1=>?_;have lse:((o.h b).se.map V.int).length<sizeLine:=by rw[List.length_map];lia
   have es1:H1 (a (ia b))=some (.lst ((o.h b).se.map V.int)):=by have:=x1.es b;rw[a3r] at this;exact this
   fail "";have x2:OWx (upd H1 (a (ia b)) (.lst ((o.h b).se.map V.int++[.int (o.c.getD (4*(o.h b).se.length) 0)]))) a ((j4 o b (4*(o.h b).se.length) none).setH b { o.h b with se:=(o.h b).se++[o.c.getD (4*(o.h b).se.length) 0] }) k1 b1 t1:=by have:=x1.pushS b (o.c.getD (4*(o.h b).se.length) 0);rw[a3r] at this;exact this
   revert x2
   generalize upd H1 (a (ia b)) _=H2;intro x2;have eh2:=x2.eh b;have es2:=x2.es b;rw[a7v] at eh2 es2;have eh2:H2 (a (ha b))=some (.dK (kvQ (o.h b).st (o.h b).sp (o.h b).fi (o.h b).at_ (o.h b).pa (o.h b).le (a (ia b)) (a (ib b)))):=eh2;have es2:H2 (a (ia b))=some (.lst (((o.h b).se++[o.c.getD (4*(o.h b).se.length) 0]).map V.int)):=es2;generalize hv:o.c.getD (4*(o.h b).se.length) 0=vv at *;refine d0q eh2 rfl ?_;fail "";rw[a4v,List.length_map,List.length_append,show(((o.h b).se.length+[vv].length:Nat):Int)=(((o.h b).se.length+1:Nat):Int) from rfl];fail "j"
   ·have y':(o.h b).se.length+1=o.n:=by lia
    obtain⟨t2n,hbits⟩:=ht y';fail "";refine d0q eh2 rfl ?_;refine⟨_,rfl,⟨_,SqL.of es2⟩,a4e (K:=K) (xs:=((o.h b).se++[vv]).map V.int) (by rw[List.length_map,List.length_append];show(o.h b).se.length+1<_;lia) (λD i acc H'=>H' D=some (.lst acc)/\Same H2 H'/\acc=((((o.h b).se++[vv]).take i).map (d3z b)).map V.int/\acc.length=i) (λD hD=>⟨d6,g3 hD,rfl,rfl⟩) ?_ ?_ ?_⟩
    ·rintro D i acc H' ⟨p1,p2,p3,p4⟩
     exact⟨p1,p4,SqL.of (p2 _ _ es2)⟩
    ·rintro D i x acc H' hD hx ⟨p1,p2,p3,p4⟩
     have hi:=(List.getElem?_eq_some_iff.mp hx).1;rw[List.length_map] at hi;rw[List.getElem?_map,List.getElem?_eq_getElem hi] at hx;cases hx;generalize hmm:((o.h b).se++[vv])[i]=m at *;fail "";refine⟨by show 2<=sizeLine;lia,λl hl=>?_⟩
     have nd:D≠l:=λz=>by rw[<- z,p1] at hl;cases hl
     fail "";refine w9 (v:=.int (d3z b m)) d6 (by cases b <;> rfl) ?_
     refine⟨by rw[c9 nd];exact p1,d6,λq u e=>?_,?_,by rw[List.length_append,p4];rfl⟩
     ·rw[c9 (i4 e hD),g3 hl _ _ (p2 _ _ e)]
     ·rw[p3,List.take_add_one,List.getElem?_eq_getElem hi,hmm,List.map_append,List.map_append]
      rfl
    ·rintro D acc H' hD ⟨p1,p2,p3,p4⟩
     rw[List.length_map,List.take_length,hbits] at p3;rw[p3] at p1;fail "";refine⟨o.n,t,D,rfl,p1,n2,n8,t2n,λH4 s4=>?_⟩;have x4:=x2.same (p2.trans s4);fail "";refine b9u x4 b { o.h b with se:=(o.h b).se++[vv],sp:=.int t } (by rw[a7v]) (by rw[a7v]) (by rw[a7v];rfl) λH5 x5=>?_
     rw[b6s] at x5;have eh5:=x5.eh b;rw[a7v] at eh5;have eh5:H5 (a (ha b))=some (.dK (kvQ (o.h b).st (.int t) (o.h b).fi (o.h b).at_ (o.h b).pa (o.h b).le (a (ia b)) (a (ib b)))):=eh5;fail "";refine d0q eh5 rfl ?_;fail "";refine b9u x5 b { o.h b with se:=(o.h b).se++[vv],sp:=.int t,fi:=.int t } (by rw[a7v]) (by rw[a7v]) (by rw[a7v];rfl) λH6 x6=>?_
     rw[b6s] at x6;fail "";refine⟨by show 2<=sizeLine;lia,λl hl=>?_⟩
     have x7:=x6.same (g3 (o:=.lst [.str "told",.str "look"]) hl);fail "";refine w9 (v:=.str (if b then "told" else "look")) d6 (by cases b <;> rfl) ?_
     fail "";refine b9u x7 b { o.h b with se:=(o.h b).se++[vv],sp:=.int t,fi:=.int t,st:=if b then "told" else "look" } (by rw[a7v]) (by rw[a7v]) (by rw[a7v];rfl) λH8 x8=>?_
     rw[b6s] at x8;exact k H8 _ ⟨_,_,_,x8⟩ (by rw[<- hv];exact(if_pos y').symm)
   ·fail ""
    exact k H2 _ ⟨_,_,_,x2⟩ (by rw[<- hv];exact(if_neg (λz=>y ↑2)).symm)
end
theorem c6y:∀{os:List ↑26}{i:Nat},tot os<=i->i8 os i=os.length
 | [],i,h=>rfl
 | o::os,i,h=>by
  rw[a4w] at h;unfold i8;rw[if_neg ↑2,c6y ↑2]
  rfl
theorem c6z{n:Nat}:∀{os:List ↑26}{j:Nat},Good n os->j<=os.length->i8 os (beg os j)=j
 | [],j,g,h=>by
  have:j=0:=by simpa using h
  subst this;rfl
 | o::os,0,g,h=>by
  rw[a0s];unfold i8;exact if_pos (by have:=g.head;lia)
 | o::os,j+1,g,h=>by
  rw[a0c];unfold i8;rw[if_neg ↑2,show o.length+beg os j-o.length=beg os j by lia,c6z g.tail (by simpa using h)]
theorem d2e{n:Nat}{os:List ↑26}{i:Nat}(gd:Good n os)(hi:i<tot os):(j2 os i=0->i8 os (i+1)=i8 os i+1/\beg os (i8 os i+1)=i+1)/\(0<j2 os i->i8 os (i+1)=i8 os i):=by
 have h1:=(y7 (n:=n) hi).2;refine⟨λz=>?_,λz=>(next_part hi z).2.1⟩;have e:beg os (i8 os i+1)=i+1:=by lia
 refine⟨?_,e⟩;have:=c6z (j:=i8 os i+1) gd (a3p hi)
 rwa [e] at this
def atP(os:List ↑26)(i:Nat)(x:Hd):Prop:=x.at_=(i8 os i:Int)/\x.pa=((i-beg os (i8 os i):Nat):Int)
theorem d6u{os:List ↑26}{o:List Int}{i:Nat}{x:Hd}(ho:1<=o.length)(hi:i<=tot os)(h:atP os i x):atP (os++[o]) i x:=by
 have e:i8 (os++[o]) i=i8 os i/\i8 os i<=os.length:=by
  by_cases z:i<tot os
  ·exact⟨(a1b z).1,by have:=a3p z;lia⟩
  ·have ei:i=tot os:=by lia
   subst ei;rw[c6y ↑31];refine⟨?_,Nat.le_refl _⟩;have:∀(ps:List ↑26),i8 (ps++[o]) (tot ps)=ps.length:=by
    intro ps
    induction ps with
    | nil=>
     show i8 [o] 0=0;unfold i8;exact if_pos ho
    | cons q ps ih=>
     rw[a4w,List.cons_append];unfold i8;rw[if_neg ↑2,show q.length+tot ps-q.length=tot ps by lia,ih]
     rfl
   exact this os
 refine⟨by rw[e.1];exact h.1,by rw[e.1,c8i e.2];exact h.2⟩
noncomputable def hrG(L:Ln):Hr:=if Stg.come L.gs then .non else .int ((gi L % (2*L.n):Nat):Int)
noncomputable def hrT(L:Ln):Hr:=if Stg.come L.ts then .non else .int ((L.t % (2*L.n):Nat):Int)
noncomputable def hrF(L:Ln):Hr:=if Stg.come L.ts then .non else .int (((if L.ts.frees then L.f-1 else L.f) % (2*L.n):Nat):Int)
structure OGr(L:Ln)(x:Hd):Prop where
 st:x.st=a0a L.gs
 sp:x.sp=hrG L
 se:Stg.come L.gs=true->x.se=L.gseen
 po:Stg.come L.gs=false->L.gs≠.told->L.gs≠.lacks->atP L.os (gi L) x
 la:L.gs=.lacks->x.at_=n5 L.os L.g
structure OTr(L:Ln)(x:Hd):Prop where
 st:x.st=a0a L.ts
 sp:x.sp=hrT L
 fi:x.fi=hrF L
 se:Stg.come L.ts=true->x.se=L.tseen
 at_:L.ts=.left\/L.ts=.thing->x.at_=(i8 L.os L.t:Int)
 le:L.ts=.thing->x.le=(j2 L.os L.t:Int)
 ps:L.ts≠.free->L.ts.frees=false->x.ps=v4 L.os L.f (L.t-L.f)
structure ORel(s:Ow)(L:Ln):Prop where
 n:s.n=L.n
 c:s.c=b9h L.n L.c
 os:s.os=L.os
 bk:s.bk=L.bk
 g:OGr L s.g
 t:OTr L s.t
section
variable{s s':Ow}{L:Ln}
theorem ORel.tw(h:ORel s L)(b:Bool){k:Nat}(hk:k<4*L.n+4)(v:Int):(j4 s b k (some v)).c=b9h L.n (Pr.put L.c k v)/\(j4 s b k (some v)).tr=s.tr++[(b,⟨true,k,v⟩)]:=by
 have e:(j4 s b k (some v)).c=b9h L.n (Pr.put L.c k v):=by
  show s.c.set k v=_;rw[h.c,c7v _ _ hk]
 refine⟨e,?_⟩;show s.tr++[(b,⟨true,k,(j4 s b k (some v)).c.getD k 0⟩)]=_;rw[e,a0b _ hk,put_same]
theorem ORel.rd(h:ORel s L){k:Nat}(hk:k<4*L.n+4):s.c.getD k 0=L.c k:=by rw[h.c,a0b _ hk]
theorem ORel.trd(h:ORel s L)(b:Bool){k:Nat}(hk:k<4*L.n+4):(j4 s b k none).tr=s.tr++[(b,⟨false,k,L.c k⟩)]:=by
 show s.tr++[(b,⟨false,k,s.c.getD k 0⟩)]=_;rw[h.rd hk]
theorem OTr.gs(h:OTr L x):OTr (gstep L) x:=by
 obtain⟨n,os,_,sn,ts,f,t⟩:=a1c L;exact⟨by rw[ts];exact h.st,by unfold hrT;rw[ts,t,n];exact h.sp,by unfold hrF;rw[ts,f,n];exact h.fi,by rw[ts,sn];exact h.se,by rw[ts,os,t];exact h.at_,by rw[ts,os,t];exact h.le,by rw[ts,os,f,t];exact h.ps⟩
theorem OGr.ts(h:OGr L x):OGr (tstep L) x:=by
 obtain⟨n,os,sn,gs,g⟩:=a0x L;have gi':gi (Pr.tstep L)=gi L:=by unfold gi;rw[gs,g]
 exact⟨by rw[gs];exact h.st,by unfold hrG;rw[gs,gi',n];exact h.sp,by rw[gs,sn];exact h.se,by rw[gs,os,gi'];exact h.po,by rw[gs,os,g];exact h.la⟩
def c5j(b:Bool)(s:Ow)(L:Ln)(s':Ow):Prop:=ORel s' (a6m b L)/\s'.tr=s.tr++[(b,c5k b L)]
theorem ORel.gw(h:ORel s L){k:Nat}{v:Int}{x:Hd}(hk:k<4*L.n+4)(e:(gstep L).c=Pr.put L.c k v)(et:gT L=⟨true,k,v⟩)(hg:OGr (gstep L) x):c5j true s L { j4 s true k (some v) with g:=x }:=by
 obtain⟨n,os,bk,_⟩:=a1c L;obtain⟨c1,t1⟩:=h.tw true hk v;exact⟨⟨h.n.trans n.symm,by show _=b9h (gstep L).n (gstep L).c;rw[n,e];exact c1,h.os.trans os.symm,h.bk.trans bk.symm,hg,h.t.gs⟩,by show _=s.tr++[(true,gT L)];rw[et];exact t1⟩
theorem ORel.gr(h:ORel s L){k:Nat}{x:Hd}(hk:k<4*L.n+4)(e:(gstep L).c=L.c)(et:gT L=⟨false,k,L.c k⟩)(hg:OGr (gstep L) x):c5j true s L { j4 s true k none with g:=x }:=by
 obtain⟨n,os,bk,_⟩:=a1c L;exact⟨⟨h.n.trans n.symm,by show s.c=b9h (gstep L).n (gstep L).c;rw[n,e];exact h.c,h.os.trans os.symm,h.bk.trans bk.symm,hg,h.t.gs⟩,by show _=s.tr++[(true,gT L)];rw[et];exact h.trd true hk⟩
theorem ORel.tw'(h:ORel s L){k:Nat}{v:Int}{x:Hd}(hk:k<4*L.n+4)(e:(tstep L).c=Pr.put L.c k v)(eb:(tstep L).bk=L.bk)(et:tT L=⟨true,k,v⟩)(hg:OTr (tstep L) x):c5j false s L { j4 s false k (some v) with t:=x }:=by
 obtain⟨n,os,_⟩:=a0x L;obtain⟨c1,t1⟩:=h.tw false hk v;exact⟨⟨h.n.trans n.symm,by show _=b9h (tstep L).n (tstep L).c;rw[n,e];exact c1,h.os.trans os.symm,h.bk.trans eb.symm,h.g.ts,hg⟩,by show _=s.tr++[(false,tT L)];rw[et];exact t1⟩
theorem ORel.tr'(h:ORel s L){k:Nat}{x:Hd}{bk:List ↑26}(hk:k<4*L.n+4)(e:(tstep L).c=L.c)(eb:bk=(tstep L).bk)(et:tT L=⟨false,k,L.c k⟩)(hg:OTr (tstep L) x):c5j false s L { j4 s false k none with t:=x,bk:=bk }:=by
 obtain⟨n,os,_⟩:=a0x L;exact⟨⟨h.n.trans n.symm,by show s.c=b9h (tstep L).n (tstep L).c;rw[n,e];exact h.c,h.os.trans os.symm,eb,h.g.ts,hg⟩,by show _=s.tr++[(false,tT L)];rw[et];exact h.trd false hk⟩
theorem OGr.mv(h:OGr L x){y:Stg}{c':Cells}(h1:Stg.come L.gs=false)(h2:L.gs≠.told)(h3:L.gs≠.lacks)(hf:y.frees=L.gs.frees)(y1:Stg.come y=false)(y3:y≠.lacks):OGr { L with c:=c',gs:=y } { x with st:=a0a y }:=by
 have g:gi { L with c:=c',gs:=y }=gi L:=by unfold gi;dsimp only;rw[hf]
 refine⟨rfl,?_,λz=>?_,λ_ _ _=>?_,λz=>absurd z y3⟩
 ·have:=h.sp
  unfold hrG at this ⊢;rw[g];dsimp only;rw[y1];rw[h1] at this;exact this
 ·rw[show Stg.come y=true from z] at y1;cases y1
 ·rw[g];exact h.po h1 h2 h3
theorem OTr.mv(h:OTr L x){y:Stg}{c':Cells}(h1:Stg.come L.ts=false)(hf:y.frees=L.ts.frees)(y1:Stg.come y=false)(y2:y≠.left)(y3:y≠.thing)(y4:L.ts≠.free\/y.frees=true):OTr { L with c:=c',ts:=y } { x with st:=a0a y }:=by
 refine⟨rfl,?_,?_,λz=>?_,λz=>z.elim (absurd · y2) (absurd · y3),λz=>absurd z y3,λz1 z2=>?_⟩
 ·have:=h.sp
  unfold hrT at this ⊢;dsimp only;rw[y1];rw[h1] at this;exact this
 ·have:=h.fi
  unfold hrF at this ⊢;dsimp only;rw[y1,hf];rw[h1] at this;exact this
 ·rw[show Stg.come y=true from z] at y1;cases y1
 ·rcases y4 with y4|y4
  ·exact h.ps y4 (by rw[<- hf];exact z2)
  ·rw[show y.frees=false from z2] at y4;cases y4
theorem e1z(m:Int):c2b L.n true ((L.g % (2*L.n):Nat):Int) m=decide (m=2*(1-(lap L.n L.g:Int))):=by
 unfold c2b;rw[if_pos rfl,a1z,decide_eq_decide];lia
theorem e1y(m:Int):c2b L.n false ((L.t % (2*L.n):Nat):Int) m=decide (m=2*(lap L.n L.t:Int)+1):=by
 unfold c2b;rw[if_neg ↑4,a1z]
theorem d5r{n g:Nat}(hn:0<n):((((g % (2*n):Nat):Int)-1) % (n:Int)).toNat=(g+2*n-1) % n:=by
 have e1:(((g % (2*n):Nat):Int)-1) % (n:Int)=(((g+2*n-1) % n:Nat):Int):=by
  rw[Int.natCast_emod,Int.sub_emod,Int.emod_emod_of_dvd _ (show(n:Int) ∣ ((2*n:Nat):Int) from⟨2,by push_cast;lia⟩),<- Int.sub_emod,Int.natCast_emod,show((g+2*n-1:Nat):Int)=((g:Int)-1)+(n:Int)*2 by lia,Int.add_mul_emod_self_left]
 rw[e1];rfl
end
theorem OGr.mvE{L:Ln}{x:Hd}{a y:Stg}{c':Cells}(h:OGr L x)(e:L.gs=a)(q:Stg.come a=false/\a≠.told/\a≠.lacks/\y.frees=a.frees/\Stg.come y=false/\y≠.lacks:=by decide):OGr { L with c:=c',gs:=y } { x with st:=a0a y }:=by
 obtain⟨q1,q2,q3,q4,q5,q6⟩:=q;exact h.mv (by rw[e];exact q1) (by rw[e];exact q2) (by rw[e];exact q3) (by rw[e];exact q4) q5 q6
theorem OTr.mvE{L:Ln}{x:Hd}{a y:Stg}{c':Cells}(h:OTr L x)(e:L.ts=a)(q:Stg.come a=false/\y.frees=a.frees/\Stg.come y=false/\y≠.left/\y≠.thing/\(a≠.free\/y.frees=true):=by decide):OTr { L with c:=c',ts:=y } { x with st:=a0a y }:=by
 obtain⟨q1,q2,q3,q4,q5,q6⟩:=q;exact h.mv (by rw[e];exact q1) (by rw[e];exact q2) q3 q4 q5 (by rw[e];exact q6)
section
variable{s:Ow}{L:Ln}{x:Stg}
theorem e0j(h:ORel s L)(ok:Ok L)(e:L.gs=x)(wx:x.wait=true):c5j true s L (c5m s true ((L.g % (2*L.n):Nat):Int) x):=by
 obtain⟨n,c,g,t,os,bk,tr⟩:=s;obtain rfl:n=L.n:=h.n;have pl:=ok.core.pl L.g;cases x <;> first|exact absurd wx ↑4|skip
 ·have es:gstep L={ L.put (4*L.n) ((L.g % (2*L.n):Nat):Int) with gs:=.again }:=by unfold gstep;rw[e]
  exact h.gw (k:=4*L.n) ↑2 ↑39 (by unfold gT;rw[e];rfl) (by rw[es];exact h.g.mvE e)
 ·unfold c5m
  dsimp only;rw[k7,e1z,show c.getD (4*(L.g % L.n)) 0=L.c (4*(L.g % L.n)) from h.rd ↑2];by_cases y:L.c (4*(L.g % L.n))=2*(1-(lap L.n L.g:Int))
  ·have es:gstep L={ L with gs:=.unwish }:=by unfold gstep;rw[e];exact if_pos y
   rw[decide_eq_true y];exact h.gr (k:=4*(L.g % L.n)) ↑2 ↑39 (by unfold gT;rw[e];rfl) (by rw[es];exact h.g.mvE e)
  ·have es:gstep L={ L with gs:=.sleep }:=by unfold gstep;rw[e];exact if_neg y
   rw[decide_eq_false y];exact h.gr (k:=4*(L.g % L.n)) ↑2 ↑39 (by unfold gT;rw[e];rfl) (by rw[es];exact h.g.mvE e)
 ·unfold c5m
  dsimp only;rw[show c.getD (4*L.n+2+wn true) 0=L.c (4*L.n+2) from h.rd (show 4*L.n+2<_ by lia)]
  by_cases y:L.c (4*L.n+2)=0
  ·have es:gstep L={ L with gs:=.sleep }:=by unfold gstep;rw[e];exact(if_pos y).trans (by rw[<- e])
   rw[if_pos y];exact h.gr (k:=4*L.n+2) ↑2 ↑39 (by unfold gT;rw[e];rfl) (by rw[es];exact h.g.mvE e)
  ·have es:gstep L={ L with gs:=.hush }:=by unfold gstep;rw[e];exact if_neg y
   rw[if_neg y];exact h.gr (k:=4*L.n+2) ↑2 ↑39 (by unfold gT;rw[e];rfl) (by rw[es];exact h.g.mvE e)
 ·have es:gstep L={ L.put (4*L.n+2) 0 with gs:=.unwish }:=by unfold gstep;rw[e]
  exact h.gw (k:=4*L.n+2) ↑2 ↑39 (by unfold gT;rw[e];rfl) (by rw[es];exact h.g.mvE e)
 ·have es:gstep L={ L.put (4*L.n) (-1) with gs:=.look }:=by unfold gstep;rw[e]
  exact h.gw (k:=4*L.n) ↑2 ↑39 (by unfold gT;rw[e];rfl) (by rw[es];exact h.g.mvE e)
theorem e0i(h:ORel s L)(ok:Ok L)(e:L.ts=x)(wx:x.wait=true):c5j false s L (c5m s false ((L.t % (2*L.n):Nat):Int) x):=by
 obtain⟨n,c,g,t,os,bk,tr⟩:=s;obtain rfl:n=L.n:=h.n;have pl:=ok.core.pl L.t;cases x <;> first|exact absurd wx ↑4|skip
 ·have es:tstep L={ L.put (4*L.n+1) ((L.t % (2*L.n):Nat):Int) with ts:=.again }:=by unfold tstep;rw[e]
  exact h.tw' (k:=4*L.n+1) ↑2 ↑39 ↑39 (by unfold tT;rw[e];rfl) (by rw[es];exact h.t.mvE e)
 ·unfold c5m
  dsimp only;rw[k7,e1y,show c.getD (4*(L.t % L.n)) 0=L.c (4*(L.t % L.n)) from h.rd ↑2];by_cases y:L.c (4*(L.t % L.n))=2*(lap L.n L.t:Int)+1
  ·have es:tstep L={ L with ts:=.unwish }:=by unfold tstep;rw[e];exact if_pos y
   rw[decide_eq_true y];exact h.tr' (k:=4*(L.t % L.n)) ↑2 ↑39 (by rw[es];exact h.bk) (by unfold tT;rw[e];rfl) (by rw[es];exact h.t.mvE e)
  ·have es:tstep L={ L with ts:=.sleep }:=by unfold tstep;rw[e];exact if_neg y
   rw[decide_eq_false y];exact h.tr' (k:=4*(L.t % L.n)) ↑2 ↑39 (by rw[es];exact h.bk) (by unfold tT;rw[e];rfl) (by rw[es];exact h.t.mvE e)
 ·unfold c5m
  dsimp only;rw[show c.getD (4*L.n+2+wn false) 0=L.c (4*L.n+3) from h.rd (show 4*L.n+3<_ by lia)]
  by_cases y:L.c (4*L.n+3)=0
  ·have es:tstep L={ L with ts:=.sleep }:=by unfold tstep;rw[e];exact(if_pos y).trans (by rw[<- e])
   rw[if_pos y];exact h.tr' (k:=4*L.n+3) ↑2 ↑39 (by rw[es];exact h.bk) (by unfold tT;rw[e];rfl) (by rw[es];exact h.t.mvE e)
  ·have es:tstep L={ L with ts:=.hush }:=by unfold tstep;rw[e];exact if_neg y
   rw[if_neg y];exact h.tr' (k:=4*L.n+3) ↑2 ↑39 (by rw[es];exact h.bk) (by unfold tT;rw[e];rfl) (by rw[es];exact h.t.mvE e)
 ·have es:tstep L={ L.put (4*L.n+3) 0 with ts:=.unwish }:=by unfold tstep;rw[e]
  exact h.tw' (k:=4*L.n+3) ↑2 ↑39 ↑39 (by unfold tT;rw[e];rfl) (by rw[es];exact h.t.mvE e)
 ·have es:tstep L={ L.put (4*L.n+1) (-1) with ts:=.look }:=by unfold tstep;rw[e]
  exact h.tw' (k:=4*L.n+1) ↑2 ↑39 ↑39 (by unfold tT;rw[e];rfl) (by rw[es];exact h.t.mvE e)
theorem c2h{a:Stg}(e:L.gs=a)(h:a.frees=false:=by rfl):gi L=L.g:=d3a e h
theorem OGr.spG{y:Hd}(h:OGr L y){a:Stg}(e:L.gs=a)(q:Stg.come a=false:=by rfl):y.sp=.int ((gi L % (2*L.n):Nat):Int):=by
 have:=h.sp;unfold hrG at this;rw[e,q] at this;exact this
theorem d2x{L':Ln}(q:Stg.come L'.gs=false)(n:L'.n=L.n)(g:gi L'=gi L):hrG L'=.int ((gi L % (2*L.n):Nat):Int):=by
 unfold hrG;rw[q,n,g]
 rfl
theorem e4e(h:ORel s L)(ok:Ok L)(told:Bool)(e:L.gs=if told then .told else .lacks):c5j true s L (e0d s ((L.g % (2*L.n):Nat):Int) told):=by
 obtain⟨n,c,g,t,os,bk,tr⟩:=s;obtain rfl:n=L.n:=h.n;obtain rfl:os=L.os:=h.os;have hn:=ok.hn;have pl:=Nat.mod_lt (L.g+2*L.n-1) hn;obtain⟨sa1,sa2⟩:=b3r ok;unfold e0d;dsimp only;rw[d5r hn,show c.getD (4*((L.g+2*L.n-1) % L.n)+1) 0=_ from h.rd ↑2,show c.getD (4*((L.g+2*L.n-1) % L.n)+2) 0=_ from h.rd ↑2,sa1,sa2];cases told with
 | true=>
  have e:L.gs=.told:=e;have es:gstep L={ L with gs:=.lacks }:=by unfold gstep;rw[e]
  rw[if_pos rfl];refine h.gr (k:=4*((L.g+2*L.n-1) % L.n)+1) (x:={ g with at_:=n5 L.os L.g,st:="lacks" }) (by lia) (by rw[es]) (by unfold gT;rw[e];rfl) (by rw[es];exact⟨rfl,(h.g.spG e).trans (d2x (L:=L) (L':={ L with gs:=.lacks }) rfl rfl (show L.g=gi L from(c2h e).symm)).symm,noC,λ_ _ z=>absurd rfl z,λ_=>rfl⟩)
 | false=>
  have e:L.gs=.lacks:=e;have es:gstep L={ L with gs:=.look }:=by unfold gstep;rw[e]
  rw[if_neg ↑4];have la:g.at_=n5 L.os L.g:=h.g.la e;rw[la];have key:∀y:Hd,y.sp=g.sp->y.st="look"->atP L.os L.g y->c5j true ⟨L.n,c,g,t,L.os,bk,tr⟩ L ((j4 ⟨L.n,c,g,t,L.os,bk,tr⟩ true (4*((L.g+2*L.n-1) % L.n)+2) none).setH true y):=λy h1 h2 h3=>
   h.gr (k:=4*((L.g+2*L.n-1) % L.n)+2) (x:=y) ↑2 ↑39 (by unfold gT;rw[e];rfl) (by rw[es];exact⟨h2,h1.trans ((h.g.spG e).trans (d2x (L:=L) (L':={ L with gs:=.look }) rfl rfl (show L.g=gi L from(c2h e).symm)).symm),noC,λ_ _ _=>h3,λz=>(nomatch z)⟩)
  have gd:=ok.core.good;have gt:=ok.core.gt;by_cases y:0<=n5 L.os L.g/\0<v7 L.os L.g
  ·rw[if_pos y]
   refine key _ rfl rfl ?_;cases hG:L.g with
   | zero=>rw[hG] at y;exact absurd y.1 (by show ¬ (0:Int) <= -1;decide)
   | succ j=>
    rw[hG] at y la;have yl:0<j2 L.os j:=by have:(0:Int)<(j2 L.os j:Int):=y.2;lia
    have hj:j<tot L.os:=by lia
    have p:=(d2e gd hj).2 yl;obtain⟨q1,q2⟩:=y7 (n:=L.n) hj;obtain⟨o,_,o2,o3⟩:=a5l hj;refine⟨?_,?_⟩
    ·show n5 L.os (j+1)=_
     rw[p];rfl
    ·show((L.os.getD (n5 L.os (j+1)).toNat []).length:Int)-v7 L.os (j+1)=_
     rw[p,show(n5 L.os (j+1)).toNat=i8 L.os j from rfl,o2,show v7 L.os (j+1)=(j2 L.os j:Int) from rfl];lia
  ·rw[if_neg y]
   refine key _ rfl rfl ?_;cases hG:L.g with
   | zero=>
    have z:=c6z (j:=0) gd (Nat.zero_le _);rw[a0s] at z;exact⟨by rw[z];rfl,by rw[z,a0s];rfl⟩
   | succ j=>
    rw[hG] at y;have hj:j<tot L.os:=by lia
    have yl:j2 L.os j=0:=by
     by_cases z:j2 L.os j=0
     ·exact z
     ·exact absurd ⟨(by show(0:Int)<=(i8 L.os j:Int);lia),(by show(0:Int)<(j2 L.os j:Int);lia)⟩ y
    obtain⟨p1,p2⟩:=(d2e gd hj).1 yl;refine⟨?_,?_⟩
    ·show(i8 L.os j:Int)+1=_
     rw[p1];rfl
    ·show(0:Int)=_
     rw[p1,p2,Nat.sub_self];rfl
theorem d7b(h:ORel s L)(ok:Ok L)(e:L.gs.frees=true){k:Nat}{v:Option Int}{c':Cells}:∃y,d3d (j4 s true k v) ((gi L % (2*L.n):Nat):Int)={ j4 s true k v with g:=y }/\OGr { L with c:=c',gs:=.look } y:=by
 obtain⟨n,c,g,t,os,bk,tr⟩:=s;obtain rfl:n=L.n:=h.n;obtain rfl:os=L.os:=h.os;have pos:=ok.gv.pos e;have gt:=ok.core.gt;have gd:=ok.core.good;have g1:gi L=L.g-1:=d0m rfl e;have hi:L.g-1<tot L.os:=by lia
 have ne:Stg.come L.gs=false/\L.gs≠.told/\L.gs≠.lacks:=by cases q:L.gs <;> rw[q] at e <;> first|exact absurd e ↑4|exact⟨rfl,by decide,by decide⟩
 obtain⟨p1,p2⟩:=h.g.po ne.1 ne.2.1 ne.2.2;have p1:g.at_=(i8 L.os (L.g-1):Int):=by rw[<- g1];exact p1
 have p2:g.pa=((L.g-1-beg L.os (i8 L.os (L.g-1)):Nat):Int):=by rw[<- g1];exact p2
 obtain⟨q1,q2⟩:=y7 (n:=L.n) hi;obtain⟨o,_,o2,o3⟩:=a5l hi;have on:=d2e gd hi;rw[show L.g-1+1=L.g by lia] at on
 have sp:Hr.int ((((gi L % (2*L.n):Nat):Int)+1) % (2*(L.n:Int)))=hrG { L with c:=c',gs:=.look }:=by
  rw[a0k,g1,show L.g-1+1=L.g by lia]
  rfl
 have gl:gi { L with c:=c',gs:=.look }=L.g:=rfl
 by_cases y:j2 L.os (L.g-1)=0
 ·obtain⟨r1,r2⟩:=on.1 y
  refine⟨_,if_pos ?_,⟨rfl,sp,noC,λ_ _ _=>?_,λz=>(nomatch z)⟩⟩
  ·show g.pa+1=((L.os.getD g.at_.toNat []).length:Int)
   rw[p1,p2,show((i8 L.os (L.g-1):Int)).toNat=i8 L.os (L.g-1) from rfl,o2];lia
  ·rw[gl]
   refine⟨?_,?_⟩
   ·show g.at_+1=_
    rw[r1,p1];rfl
   ·show(0:Int)=_
    rw[r1,r2,Nat.sub_self];rfl
 ·have r:=on.2 ↑2
  refine⟨_,if_neg ?_,⟨rfl,sp,noC,λ_ _ _=>?_,λz=>(nomatch z)⟩⟩
  ·show ¬ g.pa+1=((L.os.getD g.at_.toNat []).length:Int)
   rw[p1,p2,show((i8 L.os (L.g-1):Int)).toNat=i8 L.os (L.g-1) from rfl,o2];lia
  ·rw[gl]
   refine⟨?_,?_⟩
   ·show g.at_=_
    rw[r,p1]
   ·show g.pa+1=((L.g-beg L.os (i8 L.os L.g):Nat):Int)
    rw[r,p2];lia
theorem e2n(h:ORel s L)(ok:Ok L)(e:L.gs=x)(hx:x=.look\/x=.number\/x=.left\/x=.thing\/x=.mark\/x=.card\/x=.ring)(hl:x=.look->L.g<tot L.os):c5j true s L (b8a s ((gi L % (2*L.n):Nat):Int) x):=by
 obtain⟨n,c,g,t,os,bk,tr⟩:=s;obtain rfl:n=L.n:=h.n;obtain rfl:os=L.os:=h.os;have hn:=ok.hn;have pl:=ok.core.pl L.g;have n2:=ok.core.n2;have po:Stg.frees x=false->x≠.look->atP L.os L.g g/\L.g<tot L.os:=λq q2=>by
  have g0:=c2h e q;have hgv:L.gs.gives=true:=by rw[e];rcases hx with rfl|rfl|rfl|rfl|rfl|rfl|rfl <;> first|rfl|exact absurd rfl q2|cases q
  refine⟨?_,(ok.gv.room hgv).1⟩;rw[<- g0];refine h.g.po ?_ ?_ ?_ <;> rw[e] <;> rcases hx with rfl|rfl|rfl|rfl|rfl|rfl|rfl <;> first|rfl|decide
 rcases hx with rfl|rfl|rfl|rfl|rfl|rfl|rfl
 ·have hl:=hl rfl
  unfold b8a;dsimp only;rw[c2h e,k7,e1z,show c.getD (4*(L.g % L.n)) 0=L.c (4*(L.g % L.n)) from h.rd ↑2];by_cases y:L.c (4*(L.g % L.n))=2*(1-(lap L.n L.g:Int))
  ·have es:gstep L={ L with gs:=.number }:=by unfold gstep;rw[e];exact(if_pos hl).trans (if_pos y)
   rw[decide_eq_true y];exact h.gr (k:=4*(L.g % L.n)) ↑2 ↑39 (by unfold gT;rw[e];rfl) (by rw[es];exact h.g.mvE e)
  ·have es:gstep L={ L with gs:=.wish }:=by unfold gstep;rw[e];exact(if_pos hl).trans (if_neg y)
   rw[decide_eq_false y];exact h.gr (k:=4*(L.g % L.n)) ↑2 ↑39 (by unfold gT;rw[e];rfl) (by rw[es];exact h.g.mvE e)
 ·obtain⟨⟨p1,p2⟩,lt⟩:=po rfl ↑4
  have es:gstep L={ L.put (4*(L.g % L.n)+1) (i8 L.os L.g) with gs:=.left }:=by unfold gstep;rw[e]
  unfold b8a;dsimp only;rw[c2h e,k7];exact h.gw (k:=4*(L.g % L.n)+1) (v:=g.at_) ↑2 (by rw[es,p1]) (by unfold gT;rw[e,p1];rfl) (by rw[es];exact h.g.mvE (y:=.left) e)
 ·obtain⟨⟨p1,p2⟩,lt⟩:=po rfl ↑4
  obtain⟨q1,q2⟩:=y7 (n:=L.n) lt;obtain⟨o,_,o2,o3⟩:=a5l lt;have es:gstep L={ L.put (4*(L.g % L.n)+2) (j2 L.os L.g) with gs:=.thing }:=by unfold gstep;rw[e]
  have hv:((L.os.getD g.at_.toNat []).length:Int)-1-g.pa=(j2 L.os L.g:Int):=by
   rw[p1,p2,show((i8 L.os L.g:Int)).toNat=i8 L.os L.g from rfl,o2];lia
  unfold b8a;dsimp only;rw[c2h e,k7];exact h.gw (k:=4*(L.g % L.n)+2) (v:=((L.os.getD g.at_.toNat []).length:Int)-1-g.pa) ↑2 (by rw[es,hv]) (by unfold gT;rw[e,hv];rfl) (by rw[es];exact h.g.mvE (y:=.thing) e)
 ·obtain⟨⟨p1,p2⟩,lt⟩:=po rfl ↑4
  obtain⟨q1,q2⟩:=y7 (n:=L.n) lt;obtain⟨o,o1,o2,o3⟩:=a5l lt;have es:gstep L={ L.put (4*(L.g % L.n)+3) (x9 L.os L.g) with gs:=.mark }:=by unfold gstep;rw[e]
  have th:=b6k o1 (L.g-beg L.os (i8 L.os L.g)) ↑2;rw[show beg L.os (i8 L.os L.g)+(L.g-beg L.os (i8 L.os L.g))=L.g by lia] at th
  have hv:(L.os.getD g.at_.toNat []).getD g.pa.toNat 0=x9 L.os L.g:=by
   rw[p1,p2,show((i8 L.os L.g:Int)).toNat=i8 L.os L.g from rfl,o2,Int.toNat_natCast,<- th]
  unfold b8a;dsimp only;rw[c2h e,k7];exact h.gw (k:=4*(L.g % L.n)+3) (v:=(L.os.getD g.at_.toNat []).getD g.pa.toNat 0) ↑2 (by rw[es,hv]) (by unfold gT;rw[e,hv];rfl) (by rw[es];exact h.g.mvE (y:=.mark) e)
 ·obtain⟨⟨p1,p2⟩,lt⟩:=po rfl ↑4
  have es:gstep L={ L.put (4*(L.g % L.n)) (2*(lap L.n L.g:Int)+1) with gs:=.card,g:=L.g+1 }:=by unfold gstep;rw[e]
  have gi1:gi (gstep L)=gi L:=by rw[es,c2h e];show(if Stg.frees .card=true then L.g+1-1 else L.g+1)=L.g;rw[if_pos (show Stg.frees .card=true from rfl)];lia
  unfold b8a;dsimp only;have sp:=h.g.spG e;have p:=h.g.po (by rw[e];rfl) (by rw[e];decide) (by rw[e];decide)
  refine h.gw (k:=4*(((gi L % (2*L.n):Nat):Int) % (L.n:Int)).toNat) (v:=2*(((gi L % (2*L.n):Nat):Int) / (L.n:Int))+1) (x:={ g with st:="card" }) ?_ ?_ ?_ ⟨?_,?_,?_,?_,?_⟩
  ·rw[c2h e,k7];lia
  ·rw[c2h e,k7,a1z,es]
  ·rw[c2h e,k7,a1z];unfold gT;rw[e];rfl
  ·rw[es];rfl
  ·exact sp.trans (d2x (by rw[es];rfl) ↑39 gi1).symm
  ·rw[es];exact noC
  ·intro _ _ _;rw[gi1,show(gstep L).os=L.os by rw[es]];exact p
  ·rw[es];exact λz=>(nomatch z)
 ·have g1:gi L=L.g-1:=d0m e rfl
  obtain⟨y1,z1,z2⟩:=d7b (k:=4*L.n+1) (v:=none) (c':=L.c) h ok (by rw[e];rfl)
  unfold b8a;dsimp only;rw[show c.getD (4*L.n+1) 0=L.c (4*L.n+1) from h.rd ↑2,z1];by_cases y:L.c (4*L.n+1)=(((L.g-1) % (2*L.n):Nat):Int)
  ·have es:gstep L={ L with gs:=.ring }:=by unfold gstep;rw[e];exact if_pos y
   rw[g1,if_pos y];exact h.gr (k:=4*L.n+1) ↑2 ↑39 (by unfold gT;rw[e];rfl) (by rw[es];exact h.g.mvE e)
  ·have es:gstep L={ L with gs:=.look }:=by unfold gstep;rw[e];exact if_neg y
   rw[g1,if_neg y];exact h.gr (k:=4*L.n+1) ↑2 ↑39 (by unfold gT;rw[e];rfl) (by rw[es];exact z2)
 ·obtain⟨y1,z1,z2⟩:=d7b (k:=4*L.n+3) (v:=some 1) (c':=Pr.put L.c (4*L.n+3) 1) h ok (by rw[e];rfl)
  have es:gstep L={ L.put (4*L.n+3) 1 with gs:=.look }:=by unfold gstep;rw[e]
  unfold b8a;dsimp only;rw[z1];exact h.gw (k:=4*L.n+3) ↑2 ↑39 (by unfold gT;rw[e];rfl) (by rw[es];exact z2)
theorem OTr.spT{y:Hd}(h:OTr L y){a:Stg}(e:L.ts=a)(q:Stg.come a=false:=by rfl):y.sp=.int ((L.t % (2*L.n):Nat):Int):=by
 have:=h.sp;unfold hrT at this;rw[e,q] at this;exact this
theorem OTr.fiT{y:Hd}(h:OTr L y){a:Stg}(e:L.ts=a)(q:Stg.come a=false:=by rfl):y.fi=.int (((if a.frees then L.f-1 else L.f) % (2*L.n):Nat):Int):=by
 have:=h.fi;unfold hrF at this;rw[e,q] at this;exact this
theorem d8a(h:ORel s L)(ok:Ok L)(e:L.ts=x)(hx:x=.look\/x=.number\/x=.left\/x=.thing):c5j false s L (b9d s ((L.t % (2*L.n):Nat):Int) x):=by
 obtain⟨n,c,g,t,os,bk,tr⟩:=s;obtain rfl:n=L.n:=h.n;obtain rfl:os=L.os:=h.os;obtain rfl:bk=L.bk:=h.bk;have hn:=ok.hn;have pl:=ok.core.pl L.t;have tk:=ok.tk;have sl:x.takes=true->L.t<L.g/\L.f<=L.t/\L.c (4*(L.t % L.n)+1)=i8 L.os L.t/\L.c (4*(L.t % L.n)+2)=j2 L.os L.t/\L.c (4*(L.t % L.n)+3)=x9 L.os L.t:=λq=>by
  have lies:=tk.lies (by rw[e];exact q)
  have ft:L.f<=L.t:=by
   have:=tk.ft;rw[show L.ts.frees=false by rw[e];rcases hx with rfl|rfl|rfl|rfl <;> rfl] at this
   exact this
  exact⟨lies,ft,ok.core.slip L.t lies (.inr ft)⟩
 rcases hx with rfl|rfl|rfl|rfl
 ·unfold b9d
  dsimp only;rw[k7,e1y,show c.getD (4*(L.t % L.n)) 0=L.c (4*(L.t % L.n)) from h.rd ↑2];by_cases y:L.c (4*(L.t % L.n))=2*(lap L.n L.t:Int)+1
  ·have es:tstep L={ L with ts:=.number }:=by unfold tstep;rw[e];exact if_pos y
   rw[decide_eq_true y];exact h.tr' (k:=4*(L.t % L.n)) ↑2 ↑39 (by rw[es];rfl) (by unfold tT;rw[e];rfl) (by rw[es];exact h.t.mvE e)
  ·have es:tstep L={ L with ts:=.wish }:=by unfold tstep;rw[e];exact if_neg y
   rw[decide_eq_false y];exact h.tr' (k:=4*(L.t % L.n)) ↑2 ↑39 (by rw[es];rfl) (by unfold tT;rw[e];rfl) (by rw[es];exact h.t.mvE e)
 ·obtain⟨lies,ft,s1,s2,s3⟩:=sl rfl
  have es:tstep L={ L with ts:=.left }:=by unfold tstep;rw[e]
  unfold b9d;dsimp only;rw[k7,show c.getD (4*(L.t % L.n)+1) 0=L.c (4*(L.t % L.n)+1) from h.rd ↑2];exact h.tr' (k:=4*(L.t % L.n)+1) ↑2 ↑39 (by rw[es];rfl) (by unfold tT;rw[e];rfl) (by rw[es];exact⟨rfl,h.t.spT e,h.t.fiT (a:=.number) e,noC,λ_=>s1,λz=>(nomatch z),λ_ _=>h.t.ps (by rw[e];decide) (by rw[e];rfl)⟩)
 ·obtain⟨lies,ft,s1,s2,s3⟩:=sl rfl
  have es:tstep L={ L with ts:=.thing }:=by unfold tstep;rw[e]
  unfold b9d;dsimp only;rw[k7,show c.getD (4*(L.t % L.n)+2) 0=L.c (4*(L.t % L.n)+2) from h.rd ↑2];exact h.tr' (k:=4*(L.t % L.n)+2) ↑2 ↑39 (by rw[es];rfl) (by unfold tT;rw[e];rfl) (by rw[es];exact⟨rfl,h.t.spT e,h.t.fiT (a:=.left) e,noC,λ_=>h.t.at_ (.inl e),λ_=>s2,λ_ _=>h.t.ps (by rw[e];decide) (by rw[e];rfl)⟩)
 ·obtain⟨lies,ft,s1,s2,s3⟩:=sl rfl
  have hat:t.at_=(i8 L.os L.t:Int):=h.t.at_ (.inr e);have hle:t.le=(j2 L.os L.t:Int):=h.t.le e;have hps:t.ps=v4 L.os L.f (L.t-L.f):=h.t.ps (by rw[e];decide) (by rw[e];rfl)
  have th:t.ps++[L.c (4*(L.t % L.n)+3)]=v4 L.os L.f (L.t+1-L.f):=by
   rw[s3,hps,show L.t+1-L.f=(L.t-L.f)+1 by lia,b6l,show L.f+(L.t-L.f)=L.t by lia]
  have et:tT L=⟨false,4*(L.t % L.n)+3,L.c (4*(L.t % L.n)+3)⟩:=by unfold tT;rw[e];rfl
  unfold b9d;dsimp only;rw[k7,show c.getD (4*(L.t % L.n)+3) 0=L.c (4*(L.t % L.n)+3) from h.rd ↑2,th];by_cases y:0<j2 L.os L.t
  ·have es:tstep L={ L with ts:=.look,t:=L.t+1 }:=by unfold tstep;rw[e];exact if_pos y
   rw[if_pos (show 0<t.le by rw[hle];lia)]
   exact h.tr' (k:=4*(L.t % L.n)+3) ↑2 ↑39 (by rw[es];rfl) et (by rw[es];exact⟨rfl,by rw[a0k];rfl,h.t.fiT (a:=.thing) e,noC,(λz=>by rcases z with z|z <;> cases z),λz=>(nomatch z),λ_ _=>rfl⟩)
  ·have es:tstep L={ L with ts:=.free,bk:=if i8 L.os L.t=L.bk.length then L.bk++[v4 L.os L.f (L.t+1-L.f)] else L.bk }:=by unfold tstep;rw[e];exact if_neg y
   rw[if_neg (show ¬ 0<t.le by rw[hle];lia)]
   have fin:∀bk2,bk2=(tstep L).bk->c5j false ⟨L.n,c,g,t,L.os,L.bk,tr⟩ L { j4 ⟨L.n,c,g,t,L.os,L.bk,tr⟩ false (4*(L.t % L.n)+3) none with t:={ t with ps:=v4 L.os L.f (L.t+1-L.f),st:="free" },bk:=bk2 }:=λbk2 hb=>
    h.tr' (k:=4*(L.t % L.n)+3) ↑2 ↑39 hb et (by rw[es];exact⟨rfl,h.t.spT e,h.t.fiT (a:=.thing) e,noC,(λz=>by rcases z with z|z <;> cases z),λz=>(nomatch z),λz=>absurd rfl z⟩)
   by_cases y2:i8 L.os L.t=L.bk.length
   ·rw[if_pos (show t.at_=((L.bk.length:Nat):Int) by rw[hat,y2])]
    exact fin _ (by rw[es];exact(if_pos y2).symm)
   ·rw[if_neg (show ¬ t.at_=((L.bk.length:Nat):Int) by rw[hat];lia)]
    exact fin L.bk (by rw[es];exact(if_neg y2).symm)
theorem d3k(h:ORel s L)(ok:Ok L)(e:L.ts.frees=true){k:Nat}{v:Option Int}{c':Cells}:∃y,c4y (j4 s false k v) ((L.t % (2*L.n):Nat):Int) (((L.f-1) % (2*L.n):Nat):Int)={ j4 s false k v with t:=y }/\OTr (a2q { L with c:=c' }) y:=by
 obtain⟨n,c,g,t,os,bk,tr⟩:=s;obtain rfl:n=L.n:=h.n;have hn:=ok.hn;have fp:=ok.tk.pos e;have lst:=ok.tk.last (.inr e);have ft:L.f<=L.t+1:=by have:=ok.tk.ft;rw[e] at this;exact this
 have gf:=ok.core.gf;have nc:Stg.come L.ts=false:=by cases q:L.ts <;> rw[q] at e <;> first|exact absurd e ↑4|rfl
 have sp:t.sp=.int ((L.t % (2*L.n):Nat):Int):=by have:=h.t.sp;unfold hrT at this;rw[nc] at this;exact this
 have eqn:(((L.f-1+1) % (2*L.n):Nat):Int)=((L.f % (2*L.n):Nat):Int):=by rw[show L.f-1+1=L.f by lia]
 by_cases y:L.f=L.t+1
 ·have es:a2q { L with c:=c' }={ L with c:=c',ts:=.look,t:=L.f }:=by unfold a2q;exact if_pos y
  rw[es];refine⟨_,if_pos (by rw[y];rfl),⟨rfl,?_,?_,noC,(λz=>by rcases z with z|z <;> cases z),λz=>(nomatch z),λ_ _=>by show[]=v4 L.os L.f (L.f-L.f);rw[Nat.sub_self];rfl⟩⟩
  ·show Hr.int ((((L.t % (2*L.n):Nat):Int)+1) % (2*(L.n:Int)))=Hr.int ((L.f % (2*L.n):Nat):Int)
   rw[a0k,y]
  ·show Hr.int (((((L.f-1) % (2*L.n):Nat):Int)+1) % (2*(L.n:Int)))=Hr.int ((L.f % (2*L.n):Nat):Int)
   rw[a0k,eqn]
 ·have es:a2q { L with c:=c' }={ L with c:=c',ts:=.free }:=by unfold a2q;exact if_neg y
  rw[es];refine⟨_,if_neg (λz=>y ?_),⟨rfl,sp,?_,noC,(λz=>by rcases z with z|z <;> cases z),λz=>(nomatch z),λz=>absurd rfl z⟩⟩
  ·have:=c0b (n:=L.n) (i:=L.f-1) (j:=L.t) ↑2 ↑2 ↑2 hn
   lia
  ·show Hr.int (((((L.f-1) % (2*L.n):Nat):Int)+1) % (2*(L.n:Int)))=Hr.int ((L.f % (2*L.n):Nat):Int)
   rw[a0k,eqn]
theorem d9s(h:ORel s L)(ok:Ok L)(e:L.ts=x)(hx:x=.free\/x=.card\/x=.ring):c5j false s L (b8c s ((L.t % (2*L.n):Nat):Int) (((if x.frees then L.f-1 else L.f) % (2*L.n):Nat):Int) x):=by
 obtain⟨n,c,g,t,os,bk,tr⟩:=s;obtain rfl:n=L.n:=h.n;have hn:=ok.hn;have pl:=ok.core.pl L.f;have ib:bk=L.bk:=h.bk;rcases hx with rfl|rfl|rfl
 ·have es:tstep L={ L.put (4*(L.f % L.n)) (2*(lap L.n L.f:Int)) with ts:=.card,f:=L.f+1 }:=by unfold tstep;rw[e]
  unfold b8c;dsimp only;rw[show(if Stg.frees .free=true then L.f-1 else L.f)=L.f from rfl,k7,a1z];exact h.tw' (k:=4*(L.f % L.n)) ↑2 ↑39 ↑39 (by unfold tT;rw[e];rfl) (by rw[es];exact⟨rfl,h.t.spT e,(h.t.fiT e).trans (by show Hr.int ((L.f % (2*L.n):Nat):Int)=Hr.int (((L.f+1-1) % (2*L.n):Nat):Int);rw[Nat.add_sub_cancel]),noC,(λz=>by rcases z with z|z <;> cases z),λz=>(nomatch z),λ_ z=>(nomatch z)⟩)
 ·have fr:L.ts.frees=true:=by rw[e];rfl
  obtain⟨y1,z1,z2⟩:=d3k (k:=4*L.n) (v:=none) (c':=L.c) h ok fr;unfold b8c;dsimp only;rw[show(if Stg.frees .card=true then L.f-1 else L.f)=L.f-1 from rfl,c2p,show c.getD (4*L.n) 0=L.c (4*L.n) from h.rd ↑2,z1];by_cases y:L.c (4*L.n)=(((L.f-1+L.n) % (2*L.n):Nat):Int)
  ·have es:tstep L={ L with ts:=.ring }:=by unfold tstep;rw[e];exact if_pos y
   rw[if_pos y];exact h.tr' (k:=4*L.n) ↑2 ↑39 (by rw[es];exact ib) (by unfold tT;rw[e];rfl) (by rw[es];exact h.t.mvE e)
  ·have es:tstep L=a2q L:=by unfold tstep;rw[e];exact if_neg y
   have ec:(a2q L).c=L.c/\(a2q L).bk=L.bk:=by unfold a2q;split <;> exact⟨rfl,rfl⟩
   rw[if_neg y];exact h.tr' (k:=4*L.n) ↑2 (by rw[es];exact ec.1) (by rw[es,ec.2];exact ib) (by unfold tT;rw[e];rfl) (by rw[es];exact z2)
 ·have fr:L.ts.frees=true:=by rw[e];rfl
  obtain⟨y1,z1,z2⟩:=d3k (k:=4*L.n+2) (v:=some 1) (c':=Pr.put L.c (4*L.n+2) 1) h ok fr;have es:tstep L=a2q (L.put (4*L.n+2) 1):=by unfold tstep;rw[e]
  have ec:(a2q (L.put (4*L.n+2) 1)).c=Pr.put L.c (4*L.n+2) 1/\(a2q (L.put (4*L.n+2) 1)).bk=L.bk:=by unfold a2q;split <;> exact⟨rfl,rfl⟩
  unfold b8c;dsimp only;rw[show(if Stg.frees .ring=true then L.f-1 else L.f)=L.f-1 from rfl,z1];exact h.tw' (k:=4*L.n+2) ↑2 (by rw[es];exact ec.1) (by rw[es];exact ec.2) (by unfold tT;rw[e];rfl) (by rw[es];exact z2)
theorem c8z{b:Bool}{n i:Nat}(hn:0<n){xs:List Int}(l:xs.length=n)(h:∀(q:Nat) (m:Int),xs[q]?=some m->d3z b m=(b6d n i q:Int)):xs.map (d3z b)=(c2m n (i % (2*n))).map b2i:=by
 have e:=b1v (g:=i) hn (xs:=xs.map (d3z b)) (by rw[List.length_map];exact l) λq m hm=>by
  rw[List.getElem?_map] at hm;cases e2:xs[q]? with
  | none=>rw[e2] at hm;cases hm
  | some m'=>rw[e2] at hm;cases hm;exact h q m' e2
 rw[<- e];refine (c5e (List.all_eq_true.mpr λy hy=>?_)).symm;obtain⟨m,hm,rfl⟩:=List.mem_map.mp hy;obtain⟨q,hq⟩:=List.getElem?_of_mem hm;rw[h q m hq];unfold b6d;have:=b5s n i;have:(if q<i % n then lap n i else 1-lap n i)=0\/(if q<i % n then lap n i else 1-lap n i)=1:=by split <;> lia
 rcases this with z|z <;> rw[z] <;> rfl
theorem d7l(m:Int)(h:0<=m/\m<=3):d3z false m=if m / 2≠m % 2 then 1 else 0:=by
 have:m=0\/m=1\/m=2\/m=3:=by lia
 rcases this with rfl|rfl|rfl|rfl <;> rfl
theorem e1f(h:ORel s L)(ok:Ok L)(e:L.gs=x)(hx:x=.rouse\/x=.clear\/x=.mute\/x=.marks):c5j true s L (d1e s true (L.g % (2*L.n)) x)/\(x=.marks->(s.h true).se.length<s.n/\((s.h true).se.length+1=s.n->L.g % (2*L.n)<2*s.n/\((s.h true).se++[s.c.getD (4*(s.h true).se.length) 0]).map (d3z true)=(c2m s.n (L.g % (2*L.n))).map b2i)):=by
 obtain⟨n,c,g,t,os,bk,tr⟩:=s;obtain rfl:n=L.n:=h.n;have hn:=ok.hn;have come:Stg.come L.gs=true:=by rw[e];rcases hx with rfl|rfl|rfl|rfl <;> rfl
 have sp:g.sp=.non:=by have:=h.g.sp;unfold hrG at this;rw[come] at this;exact this
 have se:g.se=L.gseen:=h.g.se come;have mvc:∀{y:Stg}{c':Cells},Stg.come y=true->y≠.lacks->OGr { L with c:=c',gs:=y } { g with st:=a0a y }:=λ{y c'} hy hl=>⟨rfl,by unfold hrG;dsimp only;rw[hy];exact sp,λ_=>se,λz=>(by rw[show Stg.come y=false from z] at hy;cases hy),λz=>absurd z hl⟩
 rcases hx with rfl|rfl|rfl|rfl
 ·have es:gstep L={ L.put (4*L.n+3) 1 with gs:=.clear }:=by unfold gstep;rw[e]
  exact⟨h.gw (k:=4*L.n+3) ↑2 ↑39 (by unfold gT;rw[e];rfl) (by rw[es];exact mvc rfl ↑4),λz=>(nomatch z)⟩
 ·have es:gstep L={ L.put (4*L.n) (-1) with gs:=.mute }:=by unfold gstep;rw[e]
  exact⟨h.gw (k:=4*L.n) ↑2 ↑39 (by unfold gT;rw[e];rfl) (by rw[es];exact mvc rfl ↑4),λz=>(nomatch z)⟩
 ·have es:gstep L={ L.put (4*L.n+2) 0 with gs:=.marks }:=by unfold gstep;rw[e]
  exact⟨h.gw (k:=4*L.n+2) ↑2 ↑39 (by unfold gT;rw[e];rfl) (by rw[es];exact mvc rfl ↑4),λz=>(nomatch z)⟩
 ·have sl:=ok.gv.seen.1
  have sg:=ok.gv.seen.2;have rd:c.getD (4*L.gseen.length) 0=L.c (4*L.gseen.length):=h.rd (show 4*L.gseen.length<_ by lia)
  refine⟨?_,λ_=>⟨by show g.se.length<L.n;rw[se];exact sl,λy=>⟨b6j hn,?_⟩⟩⟩
  ·unfold d1e
   dsimp only;show c5j true _ L (if g.se.length+1=L.n then _ else _);have et:gT L=⟨false,4*L.gseen.length,L.c (4*L.gseen.length)⟩:=by unfold gT;rw[e];rfl
   by_cases y:L.gseen.length+1<L.n
   ·have es:gstep L={ L with gseen:=L.gseen++[L.c (4*L.gseen.length)] }:=by unfold gstep;rw[e];exact if_pos y
    rw[if_neg (by rw[se];lia)]
    have p:=h.gr (k:=4*L.gseen.length) (x:={ g with se:=g.se++[c.getD (4*g.se.length) 0] }) (by lia) (by rw[es]) et (by
     rw[es];exact⟨h.g.st,by unfold hrG;dsimp only;rw[come];exact sp,λ_=>by show g.se++_=_;rw[se,rd],λz=>(by rw[show Stg.come L.gs=false from z] at come;cases come),λz=>(by rw[show L.gs=.lacks from z] at e;cases e)⟩)
    rw[<- se] at p;exact p
   ·have es:gstep L={ L with gseen:=[],gs:=.told }:=by unfold gstep;rw[e];exact if_neg y
    rw[if_pos (by rw[se];lia)]
    have p:=h.gr (k:=4*L.gseen.length) (x:={ g with se:=g.se++[c.getD (4*g.se.length) 0],sp:=.int ((L.g % (2*L.n):Nat):Int),fi:=.int ((L.g % (2*L.n):Nat):Int),st:="told" }) (by lia) (by rw[es]) et (by
     rw[es];exact⟨rfl,rfl,noC,λ_ z=>absurd rfl z,λz=>(nomatch z)⟩)
    rw[<- se] at p;exact p
  ·show(g.se++[c.getD (4*g.se.length) 0]).map (d3z true)=_
   rw[se,rd];have y:L.gseen.length+1=L.n:=by rw[<- se];exact y
   refine c8z hn (by rw[List.length_append];exact y) λq m hm=>?_
   rcases b6f hm with ⟨_,z⟩|⟨rfl,rfl⟩
   ·exact(sg q m z).1
   ·exact ok.core.mks.laps hn sl
theorem e1e(h:ORel s L)(ok:Ok L)(e:L.ts=x)(hx:x=.rouse\/x=.clear\/x=.mute\/x=.marks):c5j false s L (d1e s false (L.f % (2*L.n)) x)/\(x=.marks->(s.h false).se.length<s.n/\((s.h false).se.length+1=s.n->L.f % (2*L.n)<2*s.n/\((s.h false).se++[s.c.getD (4*(s.h false).se.length) 0]).map (d3z false)=(c2m s.n (L.f % (2*L.n))).map b2i)):=by
 obtain⟨n,c,g,t,os,bk,tr⟩:=s;obtain rfl:n=L.n:=h.n;have hn:=ok.hn;have ib:bk=L.bk:=h.bk;have come:Stg.come L.ts=true:=by rw[e];rcases hx with rfl|rfl|rfl|rfl <;> rfl
 have sp:t.sp=.non:=by have:=h.t.sp;unfold hrT at this;rw[come] at this;exact this
 have fi:t.fi=.non:=by have:=h.t.fi;unfold hrF at this;rw[come] at this;exact this
 have se:t.se=L.tseen:=h.t.se come;have ps:t.ps=v4 L.os L.f (L.t-L.f):=h.t.ps (by rw[e];rcases hx with rfl|rfl|rfl|rfl <;> decide) (by rw[e];rcases hx with rfl|rfl|rfl|rfl <;> rfl)
 have mvc:∀{y:Stg}{c':Cells},Stg.come y=true/\y≠.left/\y≠.thing->OTr { L with c:=c',ts:=y } { t with st:=a0a y }:=λ{y c'} ⟨hy,h1,h2⟩=>⟨rfl,by unfold hrT;dsimp only;rw[hy];exact sp,by unfold hrF;dsimp only;rw[hy];exact fi,λ_=>se,λz=>z.elim (absurd · h1) (absurd · h2),λz=>absurd z h2,λ_ _=>ps⟩
 rcases hx with rfl|rfl|rfl|rfl
 ·have es:tstep L={ L.put (4*L.n+2) 1 with ts:=.clear }:=by unfold tstep;rw[e]
  exact⟨h.tw' (k:=4*L.n+2) ↑2 ↑39 ↑39 (by unfold tT;rw[e];rfl) (by rw[es];exact mvc ↑4),λz=>(nomatch z)⟩
 ·have es:tstep L={ L.put (4*L.n+1) (-1) with ts:=.mute }:=by unfold tstep;rw[e]
  exact⟨h.tw' (k:=4*L.n+1) ↑2 ↑39 ↑39 (by unfold tT;rw[e];rfl) (by rw[es];exact mvc ↑4),λz=>(nomatch z)⟩
 ·have es:tstep L={ L.put (4*L.n+3) 0 with ts:=.marks }:=by unfold tstep;rw[e]
  exact⟨h.tw' (k:=4*L.n+3) ↑2 ↑39 ↑39 (by unfold tT;rw[e];rfl) (by rw[es];exact mvc ↑4),λz=>(nomatch z)⟩
 ·have sl:=ok.tk.seen.1
  have sg:=ok.tk.seen.2;have tf:=ok.tk.come (.inr (.inr (.inr e)));have rd:c.getD (4*L.tseen.length) 0=L.c (4*L.tseen.length):=h.rd (show 4*L.tseen.length<_ by lia)
  refine⟨?_,λ_=>⟨by show t.se.length<L.n;rw[se];exact sl,λy=>⟨b6j hn,?_⟩⟩⟩
  ·unfold d1e
   dsimp only;show c5j false _ L (if t.se.length+1=L.n then _ else _);have et:tT L=⟨false,4*L.tseen.length,L.c (4*L.tseen.length)⟩:=by unfold tT;rw[e];rfl
   by_cases y:L.tseen.length+1<L.n
   ·have es:tstep L={ L with tseen:=L.tseen++[L.c (4*L.tseen.length)] }:=by unfold tstep;rw[e];exact if_pos y
    rw[if_neg (by rw[se];lia)]
    have p:=h.tr' (k:=4*L.tseen.length) (x:={ t with se:=t.se++[c.getD (4*t.se.length) 0] }) (bk:=bk) (by lia) (by rw[es]) (by rw[es];exact ib) et (by
     rw[es];exact⟨h.t.st,by unfold hrT;dsimp only;rw[come];exact sp,by unfold hrF;dsimp only;rw[come];exact fi,λ_=>by show t.se++_=_;rw[se,rd],(λz=>(by rw[e] at z;rcases z with z|z <;> cases z)),λz=>(by rw[e] at z;cases z),λ_ _=>ps⟩)
    rw[<- se] at p;exact p
   ·have es:tstep L={ L with tseen:=[],ts:=.look }:=by unfold tstep;rw[e];exact if_neg y
    rw[if_pos (by rw[se];lia)]
    have p:=h.tr' (k:=4*L.tseen.length) (x:={ t with se:=t.se++[c.getD (4*t.se.length) 0],sp:=.int ((L.f % (2*L.n):Nat):Int),fi:=.int ((L.f % (2*L.n):Nat):Int),st:="look" }) (bk:=bk) (by lia) (by rw[es]) (by rw[es];exact ib) et (by
     rw[es];exact⟨rfl,by show Hr.int _=Hr.int _;rw[tf],rfl,noC,(λz=>by rcases z with z|z <;> cases z),λz=>(nomatch z),λ_ _=>ps⟩)
    rw[<- se] at p;exact p
  ·show(t.se++[c.getD (4*t.se.length) 0]).map (d3z false)=_
   rw[se,rd];have y:L.tseen.length+1=L.n:=by rw[<- se];exact y
   refine c8z hn (by rw[List.length_append];exact y) λq m hm=>?_
   rcases b6f hm with ⟨_,z⟩|⟨rfl,rfl⟩
   ·rw[d7l m (sg q m z).2];exact(sg q m z).1
   ·rw[d7l _ (ok.core.mks.range hn sl)];exact ok.core.mks.sides hn ok.core.fg ok.core.gf sl
def d7h:Hd:=⟨"rouse",.non,.non,[],0,0,[],0⟩
theorem ORel.add(h:ORel s L)(ok:Ok L){o:List Int}(ho:1<=o.length):ORel { s with os:=s.os++[o] } (a0t L o):=by
 have gt:=ok.core.gt;have tg:=ok.tk.tg;refine⟨h.n,h.c,by show s.os++[o]=L.os++[o];rw[h.os],h.bk,⟨h.g.st,h.g.sp,h.g.se,λa b c=>d6u ho (show gi L<=tot L.os by unfold gi;split <;> lia) (h.g.po a b c),λz=>?_⟩,⟨h.t.st,h.t.sp,h.t.fi,h.t.se,λz=>?_,λz=>?_,λa b=>?_⟩⟩
 ·rw[h.g.la z]
  show n5 L.os L.g=n5 (L.os++[o]) L.g;cases e:L.g with
  | zero=>rfl
  | succ i=>show((i8 L.os i:Nat):Int)=((i8 (L.os++[o]) i:Nat):Int);rw[(a1b ↑2).1]
 ·have lt:L.t<L.g:=ok.tk.lies (by rcases z with z|z <;> (have z':L.ts=_:=z;rw[z'];rfl))
  rw[h.t.at_ z];show((i8 L.os L.t:Nat):Int)=((i8 (L.os++[o]) L.t:Nat):Int);rw[(a1b ↑2).1]
 ·have lt:L.t<L.g:=ok.tk.lies (by have z':L.ts=_:=z;rw[z'];rfl)
  rw[h.t.le z];show((j2 L.os L.t:Nat):Int)=((j2 (L.os++[o]) L.t:Nat):Int);rw[(a1b ↑2).2]
 ·rw[h.t.ps a b]
  show v4 L.os L.f (L.t-L.f)=v4 (L.os++[o]) L.f (L.t-L.f);unfold v4;apply List.map_congr_left;intro m hm;have:=List.mem_range.mp hm;exact(a9o ↑2).symm
end
section
variable{P:Program}{w:World}{K:Frag}{mg:Str->Option Value}{base:Heap}{cl:Cl}
theorem e4t{σ:St}{H:Hp}{Q:List (V×V)->Hp->Prop}{tk tv:TE}{r:List (TE×TE)}(q:tk σ H λx H1=>tv σ H1 λy H2=>b6m r σ H2 λps H3=>Q ((x,y)::ps) H3):b6m ((tk,tv)::r) σ H Q:=q
theorem e4u{σ:St}{H:Hp}{Q:List (V×V)->Hp->Prop}(q:Q [] H):b6m [] σ H Q:=q
set_option hygiene false in
local macro_rules | `(tactic| walk_at "go1")=>`(tactic| first|walk_at "ga"|((with_reducible refine' d0q ?h ?v ?_);(case h=>assumption);(case v=>exact rfl))|with_reducible refine e4t ?_|with_reducible refine e4u ?_)
def freshO(H H':Hp)(d p q:Addr):Prop:=H d=none/\H p=none/\H q=none/\p≠q/\Same H H'/\H' d=some (.dK (kvQ "rouse" .non .non 0 0 0 p q))/\H' p=some (.lst [])/\H' q=some (.lst [])
def b5e:Sp:=λvs H Q _=>vs=[]/\∀d p q H',freshO H H' d p q->Q (.ref d) H'
abbrev b1j:Stmt:=top 109
theorem c3a:g2 [] [] (d7 b1j):=↑1
theorem c4d(D:DefT K mg "_law_fresh" b1j [])(T:↑18):↑901 "_law_fresh" 1 [] b5e:=by
 refine D.fn c3a (λvs H Q E h=>?_) ↑8
 ·obtain⟨rfl,_⟩:=h
  rfl
 ·obtain⟨rfl,k⟩:=h
  refine⟨_,(@d5 _ _ _ (@i9 _ _ _ _ (@d1w _ _ _ _ _ (@a0q _ _ _ _ _ _ _ _ _ g6 g6 (@a0q _ _ _ _ _ _ _ _ _ g6 a2k (@a0q _ _ _ _ _ _ _ _ _ g6 a2k (@a0q _ _ _ _ _ _ _ _ _ g6 (k8 d9) (@a0q _ _ _ _ _ _ _ _ _ g6 d8 (@a0q _ _ _ _ _ _ _ _ _ g6 d8 (@a0q _ _ _ _ _ _ _ _ _ g6 (k8 d9) (@a0q _ _ _ _ _ _ _ _ _ g6 d8 d1o)))))))) rfl rfl (List.cons_ne_nil _ _) (Nat.le_of_ble_eq_true rfl)))),?_⟩;refine d7g λd hd=>?_;fail "";refine⟨Nat.zero_le _,λp hp=>?_⟩;fail "";refine⟨Nat.zero_le _,λq hq=>?_⟩;fail "";have dp:d≠p:=λz=>by rw[<- z,d6] at hp;cases hp
  have dq:d≠q:=λz=>by rw[<- z,c9 dp,d6] at hq;cases hq
  have pq:p≠q:=λz=>by rw[<- z,d6] at hq;cases hq
  have hp0:H p=none:=by rw[c9 dp.symm] at hp;exact hp
  have hq0:H q=none:=by rw[c9 pq.symm,c9 dq.symm] at hq;exact hq
  refine⟨by rw[c9 dq,c9 dp,d6],kvQ "rouse" .non .non 0 0 0 p q,rfl,(by show 8<=15;decide),k d p q _ ⟨hd,hp0,hq0,pq,λb v e=>?_,d6,by rw[c9 dp.symm,c9 pq,d6],by rw[c9 dq.symm,d6]⟩⟩
  rw[c9 (i4 e hd),c9 (i4 e hq0),c9 (i4 e hp0),c9 (i4 e hd)];exact e
noncomputable def d9b(n:Nat):Ow:=⟨n,a9a n,d7h,d7h,[],[],[]⟩
def Nd(H:Hp)(l:List Addr):Prop:=l.Nodup/\∀x∈l,∃o,H x=some o
theorem Nd.new{H H':Hp}{l:List Addr}{y:Addr}{o:HO}(h:Nd H l)(s:Same H H')(hy:H y=none)(e:H' y=some o):Nd H' (y::l) :=
 ⟨List.nodup_cons.mpr ⟨(λz=>by obtain⟨o,q⟩:=h.2 _ z;rw[hy] at q;cases q),h.1⟩,λx hx=>by
  rcases List.mem_cons.mp hx with rfl|hx
  ·exact⟨_,e⟩
  ·obtain⟨o,q⟩:=h.2 x hx;exact⟨o,s _ _ q⟩⟩
theorem freshO.nd{H H':Hp}{d p q:Addr}{l:List Addr}(f:freshO H H' d p q)(h:Nd H l):Nd H' (d::p::q::l):=by
 obtain⟨f1,f2,f3,f4,f5,f6,f7,f8⟩:=f;have off:∀y,H y=none->y ∉ l:=λy hy z=>by obtain⟨o,e⟩:=h.2 _ z;rw[hy] at e;cases e
 refine⟨List.nodup_cons.mpr ⟨λz=>?_,List.nodup_cons.mpr ⟨λz=>?_,List.nodup_cons.mpr ⟨off q f3,h.1⟩⟩⟩,λx hx=>?_⟩
 ·rcases List.mem_cons.mp z with rfl|z
  ·rw[f6] at f7;cases f7
  ·rcases List.mem_cons.mp z with rfl|z
   ·rw[f6] at f8;cases f8
   ·exact off d f1 z
 ·rcases List.mem_cons.mp z with z|z
  ·exact f4 z
  ·exact off p f2 z
 ·rcases List.mem_cons.mp hx with rfl|hx
  ·exact⟨_,f6⟩
  ·rcases List.mem_cons.mp hx with rfl|hx
   ·exact⟨_,f7⟩
   ·rcases List.mem_cons.mp hx with rfl|hx
    ·exact⟨_,f8⟩
    ·obtain⟨o,e⟩:=h.2 x hx;exact⟨o,f5 _ _ e⟩
def sg(j:Nat):Nat:=[11,10,3,7,4,8,5,9,6,2,1,0].getD j 0
theorem e1a:(List.range 12).all (λi=>decide (sg i<12) && (List.range 12).all λj=>decide (sg i=sg j->i=j))=true:=by decide
def b6q:Sp:=λvs H Q _=>∃n:Nat,vs=[.int n]/\2<=n/\n<=8/\∀a H',(∀j,j<12->H (a j)=none)->Same H H'->OWx H' a (d9b n) [] [] []->Q (.ref (a 0)) H'
abbrev b4e:Stmt:=top 110
theorem c5u:g2 ["size"] ["size"] (d7 b4e):=↑1
theorem c6p(D:DefT K mg "_law_lane" b4e ["size"])(T:↑18)(G_law_fresh:↑901 "_law_fresh" 1 [] b5e):↑901 "_law_lane" 2 ["size"] b6q:=by
 refine D.fn c5u ↑7 ↑8
 ·obtain⟨n,rfl,n2,n8,k⟩:=h
  refine⟨_,(@d5 _ _ _ (@i9 _ _ _ _ (@d1w _ _ _ _ _ (@a0q _ _ _ _ _ _ _ _ _ g6 (pv 0) (@a0q _ _ _ _ _ _ _ _ _ g6 (g7 c8f (g7 c8d (k8 (a9 d8 (a9 (c6f b6i d8) (a9 d8 ↑22)))) (pv 0)) (k8 (a9 (c6f b6i d8) (a9 (c6f b6i d8) (a9 d8 ↑22))))) (@a0q _ _ _ _ _ _ _ _ _ g6 (k8 (a9 (d6z G_law_fresh hr ↑4 rfl g4) (a9 (d6z G_law_fresh hr ↑4 rfl g4) d9))) (@a0q _ _ _ _ _ _ _ _ _ g6 (k8 d9) (@a0q _ _ _ _ _ _ _ _ _ g6 (k8 d9) (@a0q _ _ _ _ _ _ _ _ _ g6 (k8 d9) d1o)))))) rfl rfl (List.cons_ne_nil _ _) (Nat.le_of_ble_eq_true rfl)))),?_⟩;have h60:2000<=sizeLine:=by decide
  refine d7g λd hd=>?_;generalize u0:upd H d (.dK [])=H0;obtain⟨s0,e0⟩:=nwS u0 hd;have nd:Nd H0 [d]:=⟨List.nodup_cons.mpr ⟨(λz=>by cases z),List.nodup_nil⟩,λx hx=>by rw[List.mem_singleton.mp hx];exact⟨_,e0⟩⟩
  fail "";refine⟨(by show 4<=sizeLine;lia),λp1 hp1=>?_⟩
  generalize u1:upd H0 p1 _=H1;obtain⟨s1,e1⟩:=nwS u1 hp1;fail "";refine⟨p1,_,_,rfl,rfl,e1,by lia,by lia,(by show 4*(n:Int).toNat<=_;lia),λp2 hp2=>?_⟩
  generalize u2:upd H1 p2 _=H2;obtain⟨s2,e2⟩:=nwS u2 hp2;fail "";refine⟨(by show 4<=sizeLine;lia),λp3 hp3=>?_⟩
  generalize u3:upd H2 p3 _=H3;obtain⟨s3,e3⟩:=nwS u3 hp3;have cells:(List.replicate (n:Int).toNat [V.int 2,.int (-1),.int 0,.int 0]).flatten++[.int (-1),.int (-1),.int 0,.int 0]=(a9a n).map V.int:=by
   have:n=2\/n=3\/n=4\/n=5\/n=6\/n=7\/n=8:=by lia
   rcases this with rfl|rfl|rfl|rfl|rfl|rfl|rfl <;> rfl
  refine d6l (s3 _ _ e2) e3 ?_ λp4 hp4=>?_
  ·rw[<- List.length_append,cells,List.length_map,b9m];lia
  rw[cells];generalize u4:upd H3 p4 _=H4;obtain⟨s4,e4⟩:=nwS u4 hp4;have sd4:=(s1.trans s2).trans s3;have nd4:Nd H4 [p4,d]:=Nd.new ⟨nd.1,λx hx=>by obtain⟨o,e⟩:=nd.2 x hx;exact⟨o,sd4 _ _ e⟩⟩ s4 hp4 e4
  fail "";refine⟨rfl,λd0 p0 q0 H5 f5=>?_⟩;have nd5:=f5.nd nd4;obtain⟨a5,b5,c5,_,s5,x5,y5,z5⟩:=f5;fail "";refine⟨rfl,λd1 p6 q6 H6 f6=>?_⟩;have nd6:=f6.nd nd5;obtain⟨a6,b6,c6,_,s6,x6,y6,z6⟩:=f6;fail "";refine⟨(by show 2<=sizeLine;lia),λph hph=>?_⟩
  generalize u7:upd H6 ph _=H7;obtain⟨s7,e7⟩:=nwS u7 hph;have nd7:=nd6.new s7 hph e7;fail "";refine⟨Nat.zero_le _,λpo hpo=>?_⟩;generalize u8:upd H7 po _=H8;obtain⟨s8,e8⟩:=nwS u8 hpo;have nd8:=nd7.new s8 hpo e8;fail "";refine⟨Nat.zero_le _,λpb hpb=>?_⟩;generalize u9:upd H8 pb _=H9;obtain⟨s9,e9⟩:=nwS u9 hpb;have nd9:=nd8.new s9 hpb e9;fail "";refine⟨Nat.zero_le _,λpt hpt=>?_⟩;generalize uA:upd H9 pt _=HA;obtain⟨sA,eA⟩:=nwS uA hpt;have ndA:=nd9.new sA hpt eA;fail "";have t9:=sA;have t8:=s9.trans t9;have t7:=s8.trans t8;have t6:=s7.trans t7;have t5:=s6.trans t6;have t4:=s5.trans t5;have t0:=sd4.trans (s4.trans t4);have ob:∃a:Nat->Addr,a=λj=>[pt,pb,po,ph,d1,p6,q6,d0,p0,q0,p4,d].getD (sg j) d:=⟨_,rfl⟩;obtain⟨a,ea⟩:=ob;refine⟨t0 _ _ e0,kvO n a,by rw[ea];rfl,(by show 6<=15;decide),?_⟩
  have inj:∀i j,i<12->j<12->i≠j->a i≠a j:=λi j hi hj ne e=>by
   have q:=List.all_eq_true.mp e1a i (List.mem_range.mpr hi);rw[Bool.and_eq_true] at q;have qj:=List.all_eq_true.mp e1a j (List.mem_range.mpr hj);rw[Bool.and_eq_true] at qj;have r:=of_decide_eq_true (List.all_eq_true.mp q.2 j (List.mem_range.mpr hj));have l1:=of_decide_eq_true q.1;have l2:=of_decide_eq_true qj.1;refine ne (r ?_);rw[ea] at e;have e:[pt,pb,po,ph,d1,p6,q6,d0,p0,q0,p4,d].getD (sg i) d=[pt,pb,po,ph,d1,p6,q6,d0,p0,q0,p4,d].getD (sg j) d:=e;rw[List.getD_eq_getElem?_getD,List.getD_eq_getElem?_getD,List.getElem?_eq_getElem (show sg i<[pt,pb,po,ph,d1,p6,q6,d0,p0,q0,p4,d].length from l1),List.getElem?_eq_getElem (show sg j<[pt,pb,po,ph,d1,p6,q6,d0,p0,q0,p4,d].length from l2)] at e;exact(List.getElem?_inj l1 ndA.1).mp (by rw[List.getElem?_eq_getElem (show sg i<[pt,pb,po,ph,d1,p6,q6,d0,p0,q0,p4,d].length from l1),List.getElem?_eq_getElem (show sg j<[pt,pb,po,ph,d1,p6,q6,d0,p0,q0,p4,d].length from l2)];exact congrArg some e)
  have ad:d=a 0:=by rw[ea];rfl
  have nd0:∀j,j<12->j≠0->a j≠d:=λj hj ne=>ad ▸ inj j 0 hj ↑4 ne;rw[ad];have cs:∀{j:Nat},j<12->j≠0->j=1\/j=2\/j=3\/j=4\/j=5\/j=6\/j=7\/j=8\/j=9\/j=10\/j=11:=by lia
  have r3:=s0.trans sd4;have r4:=r3.trans s4;have r5:=r4.trans s5;have r6:=r5.trans s6;have r7:=r6.trans s7;have r8:=r7.trans s8;have r9:=r8.trans s9;have rA:=r9.trans sA;subst ea;refine k _ _ (λj hj=>?_) (λx o e=>(c9 (show x≠d from i4 e hd)).trans (rA _ _ e)) ⟨inj,λj hj=>?_,⟨rfl,λi p o hp=>by simp at hp⟩,⟨rfl,λi p o hp=>by simp at hp⟩,⟨rfl,λi p t hp=>by simp at hp⟩⟩
  ·by_cases z:j=0
   ·subst z;exact hd
   rcases cs hj z with rfl|rfl|rfl|rfl|rfl|rfl|rfl|rfl|rfl|rfl|rfl
   ·exact j1 r3 hp4
   ·exact j1 r6 hph
   ·exact j1 r4 a5
   ·exact j1 r5 a6
   ·exact j1 r4 b5
   ·exact j1 r5 b6
   ·exact j1 r4 c5
   ·exact j1 r5 c6
   ·exact j1 r7 hpo
   ·exact j1 r8 hpb
   ·exact j1 r9 hpt
  ·by_cases z:j=0
   ·subst z;exact d6
   refine (c9 (nd0 j hj z)).trans ?_;rcases cs hj z with rfl|rfl|rfl|rfl|rfl|rfl|rfl|rfl|rfl|rfl|rfl
   ·exact t4 _ _ e4
   ·exact t7 _ _ e7
   ·exact t5 _ _ x5
   ·exact t6 _ _ x6
   ·exact t5 _ _ y5
   ·exact t6 _ _ y6
   ·exact t5 _ _ z5
   ·exact t6 _ _ z6
   ·exact t8 _ _ e8
   ·exact t9 _ _ e9
   ·exact eA
set_option hygiene false in
local macro_rules | `(tactic| walk_at "go1")=>`(tactic| first|walk_at "ga"|((with_reducible refine' d0q ?h ?v ?_);(case h=>assumption);(case v=>exact rfl)))
theorem d0r(b:Bool):decide (V.int (wi b)=V.int 0)=b:=by cases b <;> rfl
def b0h:Sp:=λvs H Q _=>∃(a:Nat->Addr)(s:Ow)(L:Ln)(b:Bool),vs=[.ref (a 0),.int (wi b)]/\OW H a s/\ORel s L/\Ok L/\s.tr.length<=4000000/\L.os.length<=400/\∀H' a' s',a' 0=a 0->OW H' a' s'->ORel s' (a6m b L)->s'.tr=trB b L s.tr->Q (.bl (!a4b b L)) H'
theorem d8k{s:Ow}{L:Ln}(h:ORel s L)(ok:Ok L):d4z s=a4b true L:=by
 unfold d4z a4b;rw[h.g.st,h.os,Bool.true_and];by_cases e:L.gs=.look
 ·have p:=(h.g.po (by rw[e];rfl) (by rw[e];decide) (by rw[e];decide)).1
  rw[c2h e] at p;rw[e,p,decide_eq_true (show a0a .look="look" from rfl),decide_eq_true (show Stg.look=.look from rfl),Bool.true_and,Bool.true_and,decide_eq_decide];have gt:=ok.core.gt;constructor
  ·intro z
   by_cases y:L.g<tot L.os
   ·have:=a3p y;lia
   ·lia
  ·intro z
   rw[c6y ↑2];exact Int.le_refl _
 ·rw[decide_eq_false e,decide_eq_false (λz=>e (a9g (z.trans (show("look":Str)=a0a .look from rfl)))),Bool.false_and,Bool.false_and]
theorem c7q{x:Stg}{l:List Stg}:inV (.str (a0a x)) (l.map λy=>V.str (a0a y))=decide (x∈l):=by
 unfold inV;rw[List.any_map,Bool.eq_iff_iff,List.any_eq_true,decide_eq_true_iff];constructor
 ·rintro⟨y,hy,e⟩
  have:a0a y=a0a x:=by
   have e:eqV (.str (a0a y)) (.str (a0a x))=true:=e;rw[a5x] at e;exact of_decide_eq_true e
  exact a9g this ▸ hy
 ·exact λh=>⟨x,h,by show eqV (.str (a0a x)) (.str (a0a x))=true;rw[a5x];exact decide_eq_true rfl⟩
abbrev a7b:Stmt:=top 121
theorem b0j:g2 ["lane","who","stage"] ["lane","who"] (d7 a7b):=↑1
theorem b8t(D:DefT K mg "_law_stepped" a7b ["lane","who"])(T:↑18)(G_law_rests:↑901 "_law_rests" 1 ["lane"] b5d)(G_law_rise:↑901 "_law_rise" 2 ["lane","who"] b6p)(G_law_wait:↑901 "_law_wait" 2 ["lane","who"] b6o)(G_law_remember:↑901 "_law_remember" 2 ["lane"] a7q)(G_law_give:↑901 "_law_give" 2 ["lane"] b6r)(G_law_frees:↑901 "_law_frees" 2 ["lane"] b5f)(G_law_takes:↑901 "_law_takes" 2 ["lane"] b5b):↑901 "_law_stepped" 3 ["lane","who"] b0h:=by
 refine D.fn b0j ↑7 ↑8
 ·obtain⟨a,o,L,b,rfl,ow,rel,ok,lt,os4,k⟩:=h
  refine⟨_,(b9 (i6 (i:=2) b0j.nd rfl ↑23 (a2l ↑25 (l7 ↑12 ↑42 (pv 1) ↑10) g6 ↑10))
   (b9 (m4 (PW.pt (b5p (g9 v3 (pv 1) d8 ↑32) (a8t (a6h (i5 G_law_rests hr ↑4 rfl g4 ↑16)))))
     ↑37
     m3)
   (b9 (m4 (g9 (c3q (K:=K)) (pv 2) (k8 (a9 g6 (a9 g6 ↑21))) (by with_unfolding_all rfl))
     (d5 (i3 (i5 G_law_rise hr ↑4 rfl g4 (a9 (pv 0) ↑15))))
     (d5 (m4 (g9 (c3q (K:=K)) (pv 2) (k8 (a9 g6 (a9 g6 (a9 g6 ↑21)))) (by with_unfolding_all rfl))
      (d5 (i3 (i5 G_law_wait hr ↑4 rfl g4 (a9 (pv 0) ↑15))))
      (d5 (m4 (g9 (c3q (K:=K)) (pv 2) (k8 ↑21) (by with_unfolding_all rfl))
        (d5 (i3 (i5 G_law_remember hr ↑4 rfl g4 ↑16)))
        (d5 (m4 (g9 v3 (pv 1) d8 ↑32)
         (d5 (i3 (i5 G_law_give hr ↑4 rfl g4 ↑16)))
         (d5 (m4 (g9 (c3q (K:=K)) (pv 2) (k8 (a9 g6 ↑21)) (by with_unfolding_all rfl))
           (d5 (i3 (i5 G_law_frees hr ↑4 rfl g4 ↑16)))
           (d5 (i3 (i5 G_law_takes hr ↑4 rfl g4 ↑16))))))))))))
   ↑37))),?_⟩
  obtain⟨ks,bs,ts,owx⟩:=id ow;have e0:H (a 0)=some (.dK (kvO o.n a)):=owx.e0;have e2:=owx.hs;have eh:=owx.eh b;have est:(o.h b).st=a0a (e4c b L):=by cases b;exact rel.t.st;exact rel.g.st
  rw[est] at eh;have nL:=rel.n;have n2:=ok.core.n2;have n8:=ok.core.n8;have lc:o.c.length=4*o.n+4:=by rw[rel.c,d4w,nL]
  fail "";refine w9 e2 (c2l a b) ?_;fail "";rw[d0r];rename_i nX hX;have h60:2000<=sizeLine:=by decide
  have key:a4b b L=false->nX [some (.ref (a 0)),some (.int (wi b)),some (.str (a0a (e4c b L)))] H:=λhr0=>by
   have fin:∀H' a' s',a' 0=a 0->OW H' a' s'->c5j b o L s'->Q (.bl true) H':=λH' a' s' h1 h2 h3=>by
    have:=k H' a' s' h1 h2 h3.1 (by rw[b4x hr0];exact h3.2)
    rw[hr0] at this;exact this
   refine c4w hX ?_;clear hX;generalize ex:e4c b L=x at *;fail "";refine⟨(by show 4<=sizeLine;lia),λp1 hp1=>?_⟩
   generalize u1:upd H p1 _=H1;obtain⟨s1,f1⟩:=nwS u1 hp1;refine⟨p1,_,rfl,.inl (SqL.of f1),rfl,rfl,?_⟩;rw[show inV (.str (a0a x)) [V.str "rouse",.str "clear",.str "mute",.str "marks"]=decide (x∈[.rouse,.clear,.mute,.marks]) from c7q (l:=[.rouse,.clear,.mute,.marks])];refine⟨_,rfl,?_⟩;rw[if_neg (show ¬ (false=true) by decide)]
   refine a1y (λy1=>?_) (λy1=>?_)
   ·have hx:x=.rouse\/x=.clear\/x=.mute\/x=.marks:=by simpa using y1
    fail "";cases b with
    | true=>
     obtain⟨r1,r2⟩:=e1f rel ok ex hx;refine⟨a,o,true,_,x,rfl,⟨ks,bs,ts,owx.same s1⟩,by lia,by lia,lc,lt,hx,est,r2,λH2 s' h1 h2=>?_⟩
     fail "";exact fin H2 a s' rfl h1 (h2 ▸ r1)
    | false=>
     obtain⟨r1,r2⟩:=e1e rel ok ex hx;refine⟨a,o,false,_,x,rfl,⟨ks,bs,ts,owx.same s1⟩,by lia,by lia,lc,lt,hx,est,r2,λH2 s' h1 h2=>?_⟩
     fail "";exact fin H2 a s' rfl h1 (h2 ▸ r1)
   fail "";refine⟨(by show 5<=sizeLine;lia),λp2 hp2=>?_⟩
   generalize u2:upd H1 p2 _=H2;obtain⟨s2,f2⟩:=nwS u2 hp2;refine⟨p2,_,rfl,.inl (SqL.of f2),rfl,rfl,?_⟩;rw[show inV (.str (a0a x)) [V.str "wish",.str "again",.str "sleep",.str "hush",.str "unwish"]=decide (x∈[.wish,.again,.sleep,.hush,.unwish]) from c7q (l:=[.wish,.again,.sleep,.hush,.unwish])];refine⟨_,rfl,?_⟩;rw[if_neg (show ¬ (false=true) by decide)]
   refine a1y (λy2=>?_) (λy2=>?_)
   ·have wx:x.wait=true:=by
     have hx:x=.wish\/x=.again\/x=.sleep\/x=.hush\/x=.unwish:=by simpa using y2
     rcases hx with rfl|rfl|rfl|rfl|rfl <;> rfl
    have nc:Stg.come x=false:=by cases x <;> first|rfl|exact absurd wx ↑4
    have nf:x.frees=false:=by cases x <;> first|rfl|exact absurd wx ↑4
    fail "";cases b with
    | true=>
     have sp:=rel.g.spG ex nc;rw[c2h ex nf] at sp;have tn:=a0l (i:=L.g) ok.hn;refine⟨a,o,true,_,x,rfl,⟨ks,bs,ts,(owx.same s1).same s2⟩,⟨by lia,by lia,lc,sp,tn.1,by lia,lt⟩,wx,est,λH3 h1=>?_⟩
     fail "";exact fin H3 a _ rfl h1 (e0j rel ok ex wx)
    | false=>
     have sp:=rel.t.spT ex nc;have tn:=a0l (i:=L.t) ok.hn;refine⟨a,o,false,_,x,rfl,⟨ks,bs,ts,(owx.same s1).same s2⟩,⟨by lia,by lia,lc,sp,tn.1,by lia,lt⟩,wx,est,λH3 h1=>?_⟩
     fail "";exact fin H3 a _ rfl h1 (e0i rel ok ex wx)
   fail "";refine⟨(by show 2<=sizeLine;lia),λp3 hp3=>?_⟩
   generalize u3:upd H2 p3 _=H3;obtain⟨s3,f3⟩:=nwS u3 hp3;refine⟨p3,_,rfl,.inl (SqL.of f3),rfl,rfl,?_⟩;rw[show inV (.str (a0a x)) [V.str "told",.str "lacks"]=decide (x∈[.told,.lacks]) from c7q (l:=[.told,.lacks])];refine⟨_,rfl,?_⟩;rw[if_neg (show ¬ (false=true) by decide)]
   refine a1y (λy3=>?_) (λy3=>?_)
   ·have hx:x=.told\/x=.lacks:=by simpa using y3
    have hb:b=true:=by
     cases b with
     | true=>rfl
     | false=>
      have:=ok.tk.st;rw[show L.ts=x from ex] at this;rcases hx with rfl|rfl
      ·exact absurd rfl this.1
      ·exact absurd rfl this.2.1
    subst hb;obtain⟨told,et⟩:∃told:Bool,x=if told then .told else .lacks:=by
     rcases hx with rfl|rfl
     ·exact⟨true,rfl⟩
     ·exact⟨false,rfl⟩
    have eg:L.gs=if told then .told else .lacks:=by rw[<- et];exact ex
    have sp:=rel.g.spG ex (by rw[et];cases told <;> rfl)
    rw[c2h ex (by rw[et];cases told <;> rfl)] at sp
    have tn:=a0l (i:=L.g) ok.hn;fail "";refine⟨a,o,_,told,rfl,⟨ks,bs,ts,((owx.same s1).same s2).same s3⟩,⟨by lia,by lia,lc,sp,tn.1,by lia,lt⟩,by rw[<- et];exact est,λz1 z2=>?_,λH4 h1=>?_⟩
    ·subst z1
     have la:=rel.g.la eg;rw[la] at z2 ⊢;cases hG:L.g with
     | zero=>rw[hG] at z2;exact absurd z2 (by show ¬ (0:Int) <= -1;decide)
     | succ j=>
      have:=a3p (os:=L.os) (i:=j) (by have:=ok.core.gt;lia)
      show(i8 L.os j:Int)<_;rw[rel.os];lia
    ·fail ""
     exact fin H4 a _ rfl h1 (e4e rel ok told eg)
   fail "";rw[d0r];have s123:=(s1.trans s2).trans s3;have y1:¬ (x=.rouse\/x=.clear\/x=.mute\/x=.marks):=by simpa using y1
   have y2:¬ (x=.wish\/x=.again\/x=.sleep\/x=.hush\/x=.unwish):=by simpa using y2
   have y3:¬ (x=.told\/x=.lacks):=by simpa using y3
   cases b with
   | true=>
    have hx:x=.look\/x=.number\/x=.left\/x=.thing\/x=.mark\/x=.card\/x=.ring:=by
     have:=ok.gv.st;rw[show L.gs=x from ex] at this;cases x <;> simp_all
    have nc:Stg.come x=false:=by rcases hx with rfl|rfl|rfl|rfl|rfl|rfl|rfl <;> rfl
    have sp:=rel.g.spG ex nc;have tn:=a0l (i:=gi L) ok.hn;have gd:=ok.core.good;have gt:=ok.core.gt;have hl:x=.look->L.g<tot L.os:=λz=>by
     unfold a4b at hr0;rw[show L.gs=.look from ex.trans z,Bool.true_and] at hr0;have:¬ tot L.os<=L.g:=λz2=>by rw[decide_eq_true z2] at hr0;cases hr0
     lia
    have po:=rel.g.po (by rw[show L.gs=x from ex];exact nc) (by rw[show L.gs=x from ex];rintro rfl;exact y3 ↑23) (by rw[show L.gs=x from ex];rintro rfl;exact y3 (.inr rfl))
    have gil:gi L<tot L.os:=by
     rcases hx with rfl|rfl|rfl|rfl|rfl|rfl|rfl
     ·rw[c2h ex];exact hl rfl
     ·rw[c2h ex];exact(ok.gv.room (by rw[show L.gs=_ from ex];rfl)).1
     ·rw[c2h ex];exact(ok.gv.room (by rw[show L.gs=_ from ex];rfl)).1
     ·rw[c2h ex];exact(ok.gv.room (by rw[show L.gs=_ from ex];rfl)).1
     ·rw[c2h ex];exact(ok.gv.room (by rw[show L.gs=_ from ex];rfl)).1
     ·have:=ok.gv.pos (by rw[show L.gs=_ from ex];rfl);rw[d0m ex rfl];lia
     ·have:=ok.gv.pos (by rw[show L.gs=_ from ex];rfl);rw[d0m ex rfl];lia
    have nl:=a3p gil;fail "";refine⟨a,o,_,x,rfl,⟨ks,bs,ts,owx.same s123⟩,⟨by lia,by lia,lc,sp,tn.1,by lia,lt⟩,hx,est,?_,?_,λ_=>?_,λH4 s' h1 h2=>?_⟩
    ·rw[po.1];lia
    ·rw[po.1,rel.os];lia
    ·rw[po.1,po.2,rel.os,Int.toNat_natCast]
     obtain⟨q1,q2⟩:=y7 (n:=L.n) gil;obtain⟨o',_,o2,o3⟩:=a5l gil;rw[o2];lia
    ·fail ""
     exact fin H4 a s' rfl h1 (h2 ▸ e2n rel ok ex hx hl)
   | false=>
    fail "";refine⟨(by show 3<=sizeLine;lia),λp4 hp4=>?_⟩
    generalize u4:upd H3 p4 _=H4;obtain⟨s4,f4⟩:=nwS u4 hp4;refine⟨p4,_,rfl,.inl (SqL.of f4),rfl,rfl,?_⟩;rw[show inV (.str (a0a x)) [V.str "free",.str "card",.str "ring"]=decide (x∈[.free,.card,.ring]) from c7q (l:=[.free,.card,.ring])];refine⟨_,rfl,?_⟩;rw[if_neg (show ¬ (false=true) by decide)]
    have tn:=a0l (i:=L.t) ok.hn;refine a1y (λy4=>?_) (λy4=>?_)
    ·have hx:x=.free\/x=.card\/x=.ring:=by simpa using y4
     have nc:Stg.come x=false:=by rcases hx with rfl|rfl|rfl <;> rfl
     have fn:=a0l (i:=if x.frees then L.f-1 else L.f) ok.hn;fail "";refine⟨a,o,_,_,x,rfl,⟨ks,bs,ts,(owx.same s123).same s4⟩,⟨by lia,by lia,lc,rel.t.spT ex nc,tn.1,by lia,lt⟩,rel.t.fiT ex nc,fn.1,by rw[nL];exact fn.2,hx,est,λH5 a' s' h0 h1 h2=>?_⟩
     fail "";exact fin H5 a' s' h0 h1 (h2 ▸ d9s rel ok ex hx)
    ·have y4:¬ (x=.free\/x=.card\/x=.ring):=by simpa using y4
     have hx:x=.look\/x=.number\/x=.left\/x=.thing:=by
      have:=ok.tk.st;rw[show L.ts=x from ex] at this;cases x <;> simp_all
     have nc:Stg.come x=false:=by rcases hx with rfl|rfl|rfl|rfl <;> rfl
     have pl:o.t.ps.length<=1000:=by
      rw[rel.t.ps (by rw[show L.ts=x from ex];rcases hx with rfl|rfl|rfl|rfl <;> decide) (by rw[show L.ts=x from ex];rcases hx with rfl|rfl|rfl|rfl <;> rfl)]
      unfold v4;rw[List.length_map,List.length_range];have:=ok.tk.tg;have:=ok.core.gf;lia
     fail "";refine⟨a,o,_,x,rfl,⟨ks,bs,ts,(owx.same s123).same s4⟩,⟨by lia,by lia,lc,rel.t.spT ex nc,tn.1,by lia,lt⟩,hx,est,pl,by have:=ok.tk.bl;rw[rel.bk];lia,λH5 s' h1 h2=>?_⟩
     fail "";exact fin H5 a s' rfl h1 (h2 ▸ d8a rel ok ex hx)
  clear hX;cases b with
  | false=>
   fail "";exact key rfl
  | true=>
   fail "";refine⟨a,o,rfl,ow,?_⟩;rw[d8k rel ok];fail "";cases z:a4b true L with
   | true=>
    fail "";have q:=k H a o rfl ow (by rw[show a6m true L=L from b4m z];exact rel) (by rw[c0e z])
    rw[z] at q;exact q
   | false=>
    fail "";exact key z
end
end
section
open PySem PySem.Spec L2 Pr
theorem _root_.L2.for_listH{K:Frag}{a:Addr}{xs:List V}{g:TG}{tb:TS}{nx:St->Hp->Prop}{rt:VK}{σ:St}{H:Hp}(Pv:Nat->St->Hp->Prop)(h0:Pv 0 σ H)(hl:∀i σ H,i<=xs.length->Pv i σ H->SqL K H a xs)(hs:∀i x σ H,xs[i]?=some x->Pv i σ H->e5r (Pv (i+1)) λN=>g x σ H λσ2 H2=>tb ⟨N,rt,nx,N⟩ σ2 H2)(hd:∀σ H,Pv xs.length σ H->nx σ H):
  ∃W:Nat->Nat->St->Hp->Prop,(∃m,W 0 m σ H)/\∀i m σ H,W i m σ H->((Itl K a).stop i H/\nx σ H)\/((Itl K a).go i H/\∃N:St->Hp->Prop,(∀σ' H',N σ' H'->∃m',m'<m/\W (i+1) m' σ' H')/\∀x H',(Itl K a).yld i H x H'->g x σ H' λσ2 H2=>tb ⟨N,rt,nx,N⟩ σ2 H2) :=
 c2i (D:=⟨nx,rt,λ_ _=>False,λ_ _=>False⟩) Pv h0 hl (λi x σ H hx p=>hs i x σ H hx p _ rfl) hd
theorem d9a{n:Nat}(h2:2<=n)(h8:n<=8):ORel (d9b n) (a0i n) :=
 ⟨rfl,c7w h2 h8,rfl,rfl,⟨rfl,rfl,λ_=>rfl,λz=>(nomatch z),λz=>(nomatch z)⟩,⟨rfl,rfl,rfl,λ_=>rfl,(λz=>by rcases z with z|z <;> cases z),λz=>(nomatch z),λ_ _=>rfl⟩⟩
section
variable{P:Program}{w:World}{K:Frag}{mg:Str->Option Value}{base:Heap}{cl:Cl}
structure Tch where
 w:Str
 d:Str
 k:Int
 x:Int
noncomputable def c5o(t:Tch):HO:=.tup [.str t.w,.str t.d,.int t.k,.int t.x]
noncomputable def b0e(x:Str):Option Bool:=if x="giver" then some true else if x="taker" then some false else none
def nmB(b:Bool):Str:=if b then "giver" else "taker"
theorem e2l(b:Bool):HN b (nmB b):=by cases b;exact .inr ⟨rfl,rfl⟩;exact .inl ⟨rfl,rfl⟩
theorem d0k{x:Str}{b:Bool}(h:b0e x=some b):x=nmB b:=by
 unfold b0e at h;split at h
 ·cases h;assumption
 ·split at h
  ·cases h;assumption
  ·cases h
noncomputable def eqT(c:Tc)(t:Tch):Bool:=decide (c.d=t.d) && (decide ((c.k:Int)=t.k) && decide (c.x=t.x))
noncomputable def okT(b:Bool)(L:Ln)(t:Tch):Bool:=!a4b b L && eqT (c5k b L) t
noncomputable def b2j:Ln->List Tch->Bool
 | _,[]=>true
 | L,t::r=>match b0e t.w with
  | none=>false
  | some b=>okT b L t && b2j (a6m b L) r
def d0p(t:Tr):Tch:=⟨nmB t.1,t.2.d,t.2.k,t.2.x⟩
theorem d3m(x:Str)(k i:Int)(y:Str)(l j:Int):eqL [.str x,.int k,.int i] [.str y,.int l,.int j]=(decide (x=y) && (decide (k=l) && decide (i=j))):=by
 show(eqV (.str x) (.str y) && (eqV (.int k) (.int l) && (eqV (.int i) (.int j) && true)))=_;rw[a5x,Bool.and_true];have e:∀a b:Int,eqV (.int a) (.int b)=decide (a=b):=λa b=>by
  show(a == b)=_;rw[Bool.eq_iff_iff];simp
 rw[e,e]
theorem c8s{H:Hp}{p q:Addr}{xs ys:List V}(ne:p≠q)(hp:H p=some (.tup xs))(hq:H q=some (.tup ys))(l:xs.length=ys.length)(fx:xs.all a6l=true)(fy:ys.all a6l=true):EqD K H 1 (.ref p) (.ref q) (eqL xs ys):=by
 rw[<- b8d l];have h:=EqD.tup (K:=K) (n:=0) (e:=λj=>eqV (xs.getD j .non) (ys.getD j .non)) ne (SqT.of hp) (SqT.of hq) (λj x y hx hy=>by
  have e1:xs.getD j .non=x:=by rw[List.getD_eq_getElem?_getD,hx];rfl
  have e2:ys.getD j .non=y:=by rw[List.getD_eq_getElem?_getD,hy];rfl
  show EqD K H 0 x y (eqV (xs.getD j .non) (ys.getD j .non));rw[e1,e2];exact EqD.flat (List.all_eq_true.mp fx x (List.mem_of_getElem? hx)) (List.all_eq_true.mp fy y (List.mem_of_getElem? hy)))
 rw[<- l,Nat.min_self,show(xs.length == xs.length)=true from beq_self_eq_true _,Bool.and_true] at h;exact h
noncomputable def kpB:HO->Bool
 | .own _=>false
 | .tbl _=>false
 | _=>true
theorem d2p{o:HO}(n:kpB o=true):∀a,o≠.own a:=λa z=>by rw[z] at n;cases n
def SamP(H H':Hp):Prop:=∀x o,H x=some o->kpB o=true->H' x=some o
theorem SamP.of{H H':Hp}(h:Same H H'):SamP H H':=λx o e _=>h x o e
theorem SamP.trans{H H1 H2:Hp}(a:SamP H H1)(b:SamP H1 H2):SamP H H2:=λx o e n=>b x o (a x o e n) n
structure LaneOf(cl:Cl)(H0 H:Hp)(la:Addr)(A:Ad)(L:Ln)(tl:List Tr):Prop where
 ln:LN cl H la A L tl
 same:Same H0 H
 off:∀x o,H0 x=some o->x≠la/\∀j,j<8->x≠A.o j
theorem LaneOf.go{H0 H H':Hp}{la:Addr}{A A':Ad}{L L':Ln}{tl tl':List Tr}(h:LaneOf cl H0 H la A L tl)(n:LN cl H' la A' L' tl')(k:KpL la A H H')(x:NxA A A' H):LaneOf cl H0 H' la A' L' tl' :=
 ⟨n,λp o e=>k p o (h.same p o e) (h.off p o e).1 (h.off p o e).2,λp o e=>⟨(h.off p o e).1,x.off (h.same p o e) (h.off p o e).2⟩⟩
theorem LaneOf.grow{H0 H H':Hp}{la:Addr}{A:Ad}{L:Ln}{tl:List Tr}(h:LaneOf cl H0 H la A L tl)(s:Same H H'):LaneOf cl H0 H' la A L tl:=⟨h.ln.same s,h.same.trans s,h.off⟩
theorem LaneOf.new{H0 H1 H2:Hp}{la:Addr}{A:Ad}{L:Ln}{tl:List Tr}(hla:H0 la=none)(sm:Same H0 H1)(n:LN cl H2 la A L tl)(kp:Kp [la] H1 H2)(fr:∀j,j<8->H1 (A.o j)=none):LaneOf cl H0 H2 la A L tl :=
 have nl:∀x o,H0 x=some o->x≠la:=λx o e z=>by rw[z,hla] at e;cases e
 ⟨n,λx o e=>kp x o (sm _ _ e) (by simpa using nl x o e),λx o e=>⟨nl x o e,λj hj z=>by have:=sm _ _ e;rw[z,fr j hj] at this;cases this⟩⟩
noncomputable def c3n(n:Nat)(os:List ↑26):Ln:=os.foldl a0t (a0i n)
theorem a8w(n:Nat)(os:List ↑26):(c3n n os).n=n/\(c3n n os).os=os:=by
 have:∀(os:List ↑26)(L:Ln),(os.foldl a0t L).n=L.n/\(os.foldl a0t L).os=L.os++os:=by
  intro os
  induction os with
  | nil=>intro L;exact⟨rfl,(List.append_nil _).symm⟩
  | cons o r ih=>
   intro L;obtain⟨a,b⟩:=ih (a0t L o);refine⟨a,b.trans ?_⟩;show(L.os++[o])++r=L.os++(o::r);rw[List.append_assoc];rfl
 obtain⟨a,b⟩:=this os (a0i n);exact⟨a,b.trans (List.nil_append _)⟩
theorem c8c(n:Nat)(os:List ↑26)(o:List Int):c3n n (os++[o])=a0t (c3n n os) o:=by
 unfold c3n;rw[List.foldl_append]
 rfl
def b5g(cl:Cl):Sp:=λvs H Q _=>∃(n:Nat)(oa:Addr)(os:List ↑26),vs=[.int n,.ref oa]/\2<=n/\n<=8/\Rws H oa os/\(∀o∈os,1<=o.length/\o.length<=n)/\os.length<=400/\∀la A H',LaneOf cl H H' la A (c3n n os) []->Q (.ref la) H'
abbrev b1l:Stmt:=top 101
theorem a7x:g2 ["size","orders","lane","order"] ["size","orders"] (d7 b1l):=↑1
theorem c4f(D:DefT K mg "lane_with" b1l ["size","orders"])(T:↑18)(G_Lane:MakeT P w K mg base "Lane" cl.Lane 6 ["self","size"] (a7u cl))(G_Lane_hand_in:↑904 cl.Lane "hand_in" 3 ["self","order"] (a4l cl)):↑901 "lane_with" 8 ["size","orders"] (b5g cl):=by
 refine D.fn a7x ↑7 ↑3
 ·obtain⟨n,oa,os,rfl,n2,n8,⟨ps,ea,hl,hr'⟩,ho,hz,k⟩:=h
  refine⟨_,(b9 (i6 (i:=2) a7x.nd rfl ↑23 (d1u G_Lane hr ↑4 rfl g4 ↑16))
   (b9 (b0n a2m rfl (a0r (K:=K) (pv 1)) (o9 (i:=3) a7x.nd rfl ↑23)
     (d5 (i3 (a3m (pv 2) T.k_Lane G_Lane_hand_in hr ↑4 g4 (a9 (pv 3) d9)))))
   (d5 (i9 (pv 2))))),?_⟩
  have h60:6000000<=sizeLine:=by decide
  fail "";intro la dx hla hdx ne;have sm:=b2f (u:=.own la) (o:=.ins cl.Lane dx []) hla hdx ne;have ela:upd (upd H dx (.own la)) la (.ins cl.Lane dx []) la=some (.ins cl.Lane dx []):=d6;generalize upd (upd H dx _) la _=H1 at *;refine⟨la,dx,n,rfl,ela,n2,n8,λ_=>False,(λx hx=>hx.elim),λA H2 eF N kp fr ul=>⟨rfl,?_⟩⟩;have W:=LaneOf.new hla sm N kp fr;clear N kp fr ul ela sm;have ea2:=W.same _ _ ea;fail "";refine for_listH (xs:=ps.map V.ref) (λi σ H'=>∃x3,σ=[some (.int n),some (.ref oa),some (.ref la),x3]/\LaneOf cl H H' la A (c3n n (os.take i)) []) ⟨_,rfl,W⟩ ?_ ?_ ?_
  ·rintro i σ H' _ ⟨x3,_,W⟩
   exact SqL.of (W.same _ _ ea)
  ·clear W ea2
   rintro i x σ H' hx ⟨x3,rfl,W⟩;rw[List.getElem?_map] at hx;cases hpi:ps[i]? with
   | none=>rw[hpi] at hx;cases hx
   | some q=>
    rw[hpi] at hx;cases hx;have hi:i<os.length:=by rw[<- hl];exact(List.getElem?_eq_some_iff.mp hpi).1
    have hoi:=List.getElem?_eq_getElem hi;have eq:=W.same _ _ (hr' i q _ hpi hoi);obtain⟨l1,l2⟩:=ho _ (List.getElem_mem hi);obtain⟨dxl,el⟩:=W.ln.ob;obtain⟨o1,o2⟩:=a8w n (os.take i);fail "";refine⟨la,A,_,[],q,_,rfl,W.ln,eq,l1,by rw[o1];exact l2,by rw[o2,List.length_take];lia,λH3 N3 k3=>?_⟩
    have W3:=W.go N3 k3 (NxA.refl A H');rw[<- c8c,show os.take i++[os[i]]=os.take (i+1) by rw[List.take_add_one,hoi];rfl] at W3
    fail "";exact⟨_,rfl,W3⟩
  ·rintro σ H' ⟨x3,rfl,W⟩
   rw[List.length_map,hl,List.take_length] at W;fail "";exact k _ _ _ W
def b9f(cl:Cl):Sp:=λvs H Q _=>∃H0 la A L tl t tc,vs=[.ref la,.ref t]/\LaneOf cl H0 H la A L tl/\H0 t=some (c5o tc)/\L.os.length<=400/\tl.length<=4000000/\(b0e tc.w=none->Q (.bl false) H)/\(∀b H' A',b0e tc.w=some b->LaneOf cl H0 H' la A' (a6m b L) (trB b L tl)->Q (.bl (okT b L tc)) H')
abbrev b7c:Stmt:=top 102
theorem a6b:g2 ["lane","touch","hand","deed","cell","value"] ["lane","touch"] (d7 b7c):=↑1
theorem c9u(D:DefT K mg "follows" b7c ["lane","touch"])(T:↑18)(LS:↑904 cl.Lane "step" 9 ["self","hand"] (a7t cl))(G_Board_last_touch:↑904 cl.Board "last_touch" 1 ["self"] (a0g cl)):↑901 "follows" 10 ["lane","touch"] (b9f cl):=by
 refine D.fn a6b ↑7 ↑3
 ·obtain⟨H0,la,A,L,tl,t,⟨w',d',k',x'⟩,rfl,W,et,os4,tl4,kn,ks⟩:=h
  refine⟨_,(b9 (a8u (pv 1) (c6e (K:=K) rfl (a3e (o9 (i:=2) a6b.nd rfl ↑23) (a3e (o9 (i:=3) a6b.nd rfl ↑23) (a3e (o9 (i:=4) a6b.nd rfl ↑23) (a3e (o9 (i:=5) a6b.nd rfl ↑23) c6d))))))
   (b9 (m4 (PW.pt (b5p (g9 d1z (pv 2) g6 ↑32) (a8t (g9 d1z (pv 2) g6 ↑32))))
     ↑37
     m3)
   (d5 (i9 (c3m (c7z (k:=9) (pv 0) hr ↑4 g4 (a9 (pv 2) d9)) (b9j (a0w (d8v (K:=K) (n:=0) ↑25) (c8a ↑6 T.k_Board G_Board_last_touch hr ↑4 g4) (a5j (a9 (pv 3) (a9 (pv 4) (a9 (pv 5) d9)))) ↑32))))))),?_⟩
  have h60:6000000<=sizeLine:=by decide
  have eT:H t=some (.tup [.str w',.str d',.int k',.int x']):=W.same _ _ et;obtain⟨dxl,el⟩:=W.ln.ob;fail "";refine d7c eT rfl ?_;fail "";rw[a0m];rename_i nX hX;have key:∀b,w'=nmB b->nX [some (.ref la),some (.ref t),some (.str w'),some (.str d'),some (.int k'),some (.int x')] H:=λb hb=>by
   have hbt:b0e w'=some b:=by rw[hb];cases b <;> rfl
   refine c4w hX ?_;clear hX;fail "e";refine⟨la,cl.Lane,dxl,_,_,_,rfl,el,rfl,T.k_Lane,LS,?_⟩;fail "";refine⟨la,A,L,tl,b,w',rfl,by rw[hb];exact e2l b,W.ln,os4,tl4,λH1 A1 N1 k1 x1=>?_⟩
   have W1:=W.go N1 k1 x1;cases z:a4b b L with
   | true=>
    have q:=ks b H1 A1 hbt W1;unfold okT at q;rw[z,Bool.not_true,Bool.false_and] at q;fail "";exact q
   | false=>
    rw[b4x z] at N1;obtain⟨_,_,_,_,hL,_⟩:=id N1.lr;obtain⟨many,last,hB,lk⟩:=hL.brd;have lo:(c8k (tl++[(b,c5k b L)])).o=some (c5k b L):=by unfold c8k;rw[List.getLast?_append];rfl
    obtain⟨tt,elt,_,ett⟩:=lk.2.2 _ lo;obtain⟨dxl1,el1⟩:=N1.ob;obtain⟨⟨dxb,eb⟩,_⟩:=id hB;fail "";refine⟨A1.bd,A1.l,_,_,many,last,rfl,hB,?_⟩;fail "";refine⟨(show 3<=sizeLine by lia),λp hp=>?_⟩
    generalize u1:upd H1 p _=H2;obtain⟨s1,e1⟩:=nwS u1 hp;rw[elt];have ne:tt≠p:=i4 ett hp;have qd:=c8s (K:=K) ne (s1 _ _ ett) e1 rfl rfl rfl;rw[d3m] at qd;have q:=ks b H2 A1 hbt (W1.grow s1);unfold okT at q;rw[z,Bool.not_false,Bool.true_and] at q;exact .inr ⟨tt,p,_,rfl,rfl,qd,q⟩
  clear hX;by_cases y1:w'="giver"
  ·rw[decide_eq_true y1]
   fail "";exact key true y1
  ·rw[decide_eq_false y1]
   fail "";rw[a0m];by_cases y2:w'="taker"
   ·rw[decide_eq_true y2]
    fail "";exact key false y2
   ·rw[decide_eq_false y2]
    fail "";refine kn ?_;show b0e w'=none;unfold b0e;rw[if_neg y1,if_neg y2]
def TrV(H:Hp)(ps:List Addr)(tl:List Tch):Prop:=ps.length=tl.length/\∀(i:Nat)(p:Addr)(t:Tch),ps[i]?=some p->tl[i]?=some t->H p=some (c5o t)
theorem TrV.same{H H':Hp}{ps:List Addr}{tl:List Tch}(h:TrV H ps tl)(s:SamP H H'):TrV H' ps tl:=⟨h.1,λi p t hp ht=>s _ _ (h.2 i p t hp ht) rfl⟩
theorem b4u{L:Ln}{t:Tch}{r:List Tch}{b:Bool}(h:b0e t.w=some b):b2j L (t::r)=(okT b L t && b2j (a6m b L) r):=by
 show(match b0e t.w with|none=>false|some b=>okT b L t && b2j (a6m b L) r)=_
 rw[h]
theorem b9r{L:Ln}{t:Tch}{r:List Tch}(h:b0e t.w=none):b2j L (t::r)=false:=by
 show(match b0e t.w with|none=>false|some b=>okT b L t && b2j (a6m b L) r)=_
 rw[h]
theorem d3o{tl:List Tch}{i:Nat}{t:Tch}(h:tl[i]?=some t):tl.drop i=t::tl.drop (i+1):=by
 obtain⟨hi,e⟩:=List.getElem?_eq_some_iff.mp h;rw[<- e];exact List.drop_eq_getElem_cons hi
def a6n(cl:Cl):Sp:=λvs H Q _=>∃(n:Nat)(oa ta:Addr)(os:List ↑26)(ps:List Addr)(tl:List Tch),vs=[.int n,.ref oa,.ref ta]/\2<=n/\n<=8/\Rws H oa os/\(∀o∈os,1<=o.length/\o.length<=n)/\os.length<=400/\H ta=some (.lst (ps.map V.ref))/\TrV H ps tl/\tl.length<=4000/\∀H',Same H H'->Q (.bl (b2j (c3n n os) tl)) H'
abbrev a8c:Stmt:=top 104
theorem a6y:g2 ["size","orders","trail","lane","touch"] ["size","orders","trail"] (d7 a8c):=↑1
theorem c1h(D:DefT K mg "trail_good" a8c ["size","orders","trail"])(T:↑18)(G_lane_with:↑901 "lane_with" 8 ["size","orders"] (b5g cl))(G_follows:↑901 "follows" 10 ["lane","touch"] (b9f cl)):↑901 "trail_good" 11 ["size","orders","trail"] (a6n cl):=by
 refine D.fn a6y ↑7 ↑3
 ·obtain⟨n,oa,ta,os,ps,tl,rfl,n2,n8,hR,ho,hz,eta,ht,tz,k⟩:=h
  refine⟨_,(b9 (i6 (i:=3) a6y.nd rfl ↑23 (i5 G_lane_with hr ↑4 rfl g4 (a9 (pv 0) ↑15)))
   (b9 (b0n a2m rfl (a0r (K:=K) (pv 2)) (o9 (i:=4) a6y.nd rfl ↑23)
     (d5 (m4 (b9i (a6h (i5 G_follows hr ↑4 rfl g4 (a9 (pv 3) (a9 (pv 4) d9)))))
      ↑37
      m3)))
   ↑37)),?_⟩
  have h60:6000000<=sizeLine:=by decide
  fail "";refine⟨n,oa,os,rfl,n2,n8,hR,ho,hz,λla A H1 W=>?_⟩;have eta1:=W.same _ _ eta;fail "";refine for_listH (xs:=ps.map V.ref) (λi σ H'=>∃A L tl' x4,σ=[some (.int n),some (.ref oa),some (.ref ta),some (.ref la),x4]/\LaneOf cl H H' la A L tl'/\L.os=os/\tl'.length<=i/\b2j L (tl.drop i)=b2j (c3n n os) tl) ⟨A,_,[],_,rfl,W,(a8w n os).2,Nat.le_refl _,rfl⟩ ?_ ?_ ?_
  ·rintro i σ H' _ ⟨A,L,tl',x4,_,W,_⟩
   exact SqL.of (W.same _ _ eta)
  ·clear W eta1
   rintro i x σ H' hx ⟨A,L,tl',x4,rfl,W,eo,lt,hg⟩;rw[List.getElem?_map] at hx;cases hpi:ps[i]? with
   | none=>rw[hpi] at hx;cases hx
   | some q=>
    rw[hpi] at hx;cases hx;have hi:i<tl.length:=by rw[<- ht.1];exact(List.getElem?_eq_some_iff.mp hpi).1
    have hti:=List.getElem?_eq_getElem hi;have et:=ht.2 i q _ hpi hti;rw[d3o hti] at hg;generalize tl[i]=tc at *;fail "";refine⟨H,la,A,L,tl',q,tc,rfl,W,et,by rw[eo];exact hz,by lia,λhn=>?_,λb H3 A3 hb W3=>?_⟩
    ·rw[b9r hn] at hg
     fail "";rw[hg];exact k _ W.same
    ·rw[b4u hb] at hg
     have eo3:(a6m b L).os=os:=by rw[<- eo];cases b;exact(a0x L).2.1;exact(a1c L).2.1
     have lt3:=(d0t b L tl').2;cases z:okT b L tc with
     | true=>
      rw[z,Bool.true_and] at hg;fail "";exact⟨A3,_,_,_,rfl,W3,eo3,by lia,hg⟩
     | false=>
      rw[z,Bool.false_and] at hg;fail "";rw[hg];exact k _ W3.same
  ·rintro σ H' ⟨A,L,tl',x4,rfl,W,eo,lt,hg⟩
   rw[List.length_map,ht.1,List.drop_length] at hg;fail "";have q:=k _ W.same;rw[<- hg] at q;exact q
end
section
variable{cl:Cl}{H H' H1':Hp}{F F2:Addr->Prop}{la wl:Addr}{A A':Ad}{L L':Ln}{tl tl':List Tr}{a a':Nat->Addr}{s s':Ow}{ks bs ts:List Addr}
theorem c6x(s:Ow)(a:Nat->Addr)(ks bs ts:List Addr)(k:Nat):nc (d5k s a ks bs ts k)=true/\b8i (some (d5k s a ks bs ts k))=false:=by
 unfold d5k hdO;split <;> exact⟨rfl,rfl⟩
theorem OWx.mono(h:OWx H a s ks bs ts)(m:∀x o,H x=some o->nc o=true->((∃j,j<12/\x=a j)\/x∈ks\/x∈bs\/b8i (some o)=true)->H' x=some o):OWx H' a s ks bs ts :=
 ⟨h.inj,λk hk=>m _ _ (h.ob k hk) (c6x s a ks bs ts k).1 (.inl ⟨k,hk,rfl⟩),⟨h.rk.1,λi p o hp ho=>⟨(h.rk.2 i p o hp ho).1,m _ _ (h.rk.2 i p o hp ho).2 rfl (.inr (.inl (List.mem_of_getElem? hp)))⟩⟩,⟨h.rb.1,λi p o hp ho=>⟨(h.rb.2 i p o hp ho).1,m _ _ (h.rb.2 i p o hp ho).2 rfl (.inr (.inr (.inl (List.mem_of_getElem? hp))))⟩⟩,⟨h.rt.1,λi p t hp ht=>m _ _ (h.rt.2 i p t hp ht) rfl (.inr (.inr (.inr rfl)))⟩⟩
structure OP(H:Hp)(F:Addr->Prop)(a:Nat->Addr)(s:Ow):Prop where
 ow:OW (rs F H) a s
 dom:∀x,F x->c8r H x
theorem OP.all(h:OP H F a s):OW H a s:=by
 obtain⟨ks,bs,ts,x⟩:=h.ow;exact⟨ks,bs,ts,x.same λ_ _ e=>c9p e⟩
theorem LP.all(h:LP cl H F la A L tl):LN cl H la A L tl:=h.ln.same λ_ _ e=>c9p e
theorem LP.no(h:LP cl H F la A L tl){x:Addr}(e:H x=none):¬ F x:=λz=>by
 obtain⟨o,q,_⟩:=h.dom x z;rw[e] at q;cases q
theorem LP.kp(h:LP cl H F la A L tl)(m:∀x o,H x=some o->nc o=true->(F x\/b8i (some o)=true)->H' x=some o):LP cl H' F la A L tl:=by
 refine⟨(h.ln.ow h.nf).same λx o e=>?_,λx hx=>?_,h.nf⟩
 ·obtain⟨e1,n⟩:=d5h e
  have eH:=c9p e1;have hx:F x\/b8i (some o)=true:=by
   by_cases z:F x\/b8i (H x)=true
   ·rw[eH] at z;exact z
   ·rw[c3k eH (a9b n) z] at e1;cases e1
  have e':=m x o eH n hx;exact b5x e' (a9b n) (by rw[e'];exact hx)
 ·obtain⟨o,e,f,n⟩:=h.dom x hx
  exact⟨o,m x o e (by cases o <;> first|rfl|exact absurd rfl (n _)|cases f) (.inl hx),f,n⟩
theorem OP.kp(h:OP H F a s)(m:∀x o,H x=some o->nc o=true->(F x\/b8i (some o)=true)->H' x=some o):OP H' F a s:=by
 obtain⟨ks,bs,ts,x⟩:=h.ow;refine⟨⟨ks,bs,ts,x.mono λy o e n _=>?_⟩,λy hx=>?_⟩
 ·have eH:=c9p e
  have hx:F y\/b8i (some o)=true:=by
   by_cases z:F y\/b8i (H y)=true
   ·rw[eH] at z;exact z
   ·rw[c3k eH (a9b n) z] at e;cases e
  have e':=m y o eH n hx;exact b5x e' (a9b n) (by rw[e'];exact hx)
 ·obtain⟨o,e,f,n⟩:=h.dom y hx
  exact⟨o,m y o e (by cases o <;> first|rfl|exact absurd rfl (n _)|cases f) (.inl hx),f,n⟩
theorem OWx.part(h:OWx H a s ks bs ts):OP H (λx=>(∃j,j<12/\x=a j)\/x∈ks\/x∈bs) a s:=by
 have row:∀{ps:List Addr}{os:List ↑26},RwO H a ps os->∀x∈ps,∃o:List Int,H x=some ↑36:=λr x hx=>by
  obtain⟨i,hi,e⟩:=List.mem_iff_getElem.mp hx;exact⟨_,(r.2 i x _ (by rw[<- e];exact List.getElem?_eq_getElem hi) (List.getElem?_eq_getElem (by rw[<- r.1];exact hi))).2⟩
 refine⟨⟨ks,bs,ts,h.mono λx o e n q=>b5x e (a9b n) (by
  rw[e];rcases q with q|q|q|q
  ·exact .inl (.inl q)
  ·exact .inl (.inr (.inl q))
  ·exact .inl (.inr (.inr q))
  ·exact .inr q)⟩,λx hx=>?_⟩
 rcases hx with ⟨j,hj,rfl⟩|hx|hx
 ·exact⟨_,h.ob j hj,(c6x s a ks bs ts j).2,a9b (c6x s a ks bs ts j).1⟩
 ·obtain⟨o,e⟩:=row h.rk x hx;exact⟨_,e,rfl,λ_ z=>nomatch z⟩
 ·obtain⟨o,e⟩:=row h.rb x hx;exact⟨_,e,rfl,λ_ z=>nomatch z⟩
theorem OP.behind(ot:Out H1' (rs F H) H)(w:OW H1' a' s'):OP (jn H1' (rs F H) H) (c8r H1') a' s':=by
 obtain⟨ks,bs,ts,x⟩:=w;refine⟨⟨ks,bs,ts,x.mono λy o e n _=>?_⟩,λy hx=>?_⟩
 ·have ej:=a3d (H1:=rs F H) (H:=H) e
  refine b5x ej (a9b n) ?_;cases q:b8i (some o) with
  | true=>right;rw[ej];exact q
  | false=>left;exact⟨o,e,q,a9b n⟩
 ·obtain⟨o,e,z⟩:=hx
  exact⟨o,a3d e,z⟩
theorem d2n{x:Addr}{xs:List V}(e:H x=some (.lst xs))(n:¬ F x)(ot:Out H1' (rs F H) H):jn H1' (rs F H) H x=some (.lst xs)/\¬ c8r H1' x:=c7g ot e (λ_ z=>nomatch z) rfl n
end
section
variable{P:Program}{w:World}{K:Frag}{mg:Str->Option Value}{base:Heap}{cl:Cl}
set_option hygiene false in
local macro_rules | `(tactic| walk_at "go1")=>`(tactic| first|walk_at "ga"|((with_reducible refine' d0q ?h ?v ?_);(case h=>assumption);(case v=>exact rfl)))
theorem b6z{H0 H J:Hp}{F:Addr->Prop}(same:SamP H0 H)(off:∀x o,H0 x=some o->kpB o=true->¬ F x)(ot:Out J (rs F H) H):SamP H0 (jn J (rs F H) H)/\∀x o,H0 x=some o->kpB o=true->¬ c8r J x:=by
 refine⟨λx o e n=>?_,λx o e n hx=>?_⟩
 ·have e1:=same x o e n
  by_cases z:b8i (some o)=true
  ·cases o with
   | tup xs=>exact a3d (ot.tup x xs e1)
   | frz a b=>exact a3d (ot.frz _ _ _ e1)
   | tbl _=>cases n
   | _=>cases z
  ·exact(c7g ot e1 (d2p n) (by simpa using z) (off x o e n)).1
 ·have e1:=same x o e n
  by_cases z:b8i (some o)=true
  ·obtain⟨o',q,f,_⟩:=hx
   cases o with
   | tup xs=>rw[ot.tup x xs e1] at q;cases q;cases f
   | frz a b=>rw[ot.frz _ _ _ e1] at q;cases q;cases f
   | tbl _=>cases n
   | _=>cases z
  ·exact(c7g ot e1 (d2p n) (by simpa using z) (off x o e n)).2 hx
structure OwnOf(H0 H:Hp)(F:Addr->Prop)(a:Nat->Addr)(s:Ow):Prop where
 op:OP H F a s
 same:SamP H0 H
 off:∀x o,H0 x=some o->kpB o=true->¬ F x
theorem OwnOf.go{H0 H J:Hp}{F:Addr->Prop}{a a':Nat->Addr}{s s':Ow}(h:OwnOf H0 H F a s)(ot:Out J (rs F H) H)(w:OW J a' s'):OwnOf H0 (jn J (rs F H) H) (c8r J) a' s' :=
 ⟨OP.behind ot w,(b6z h.same h.off ot).1,(b6z h.same h.off ot).2⟩
theorem OwnOf.grow{H0 H H':Hp}{F:Addr->Prop}{a:Nat->Addr}{s:Ow}(h:OwnOf H0 H F a s)(m:Same H H'):OwnOf H0 H' F a s:=⟨h.op.kp λx o e _ _=>m x o e,h.same.trans (.of m),h.off⟩
theorem OWx.orders{H H2:Hp}{a:Nat->Addr}{n:Nat}{D:Addr}{os:List ↑26}(h:OWx H a (d9b n) [] [] [])(nr:NewRows H H2 D os):∃qs,OWx (upd H2 (a 0) (.dK (b5q (kvO n a) (.inr "orders") (.ref D)))) (λj=>if j=9 then D else a j) { d9b n with os:=os } qs [] []/\∀x∈qs,H x=none:=by
 obtain⟨hD,sm,qs,eD,hl,hr⟩:=nr;have na:∀j,j<12->a j≠D:=λj hj z=>by have:=h.ob j hj;rw[z,hD] at this;cases this
 have h2:=h.same sm;refine⟨qs,⟨λi j hi hj n=>?_,λk hk=>?_,⟨hl,λi p o hp ho=>?_⟩,⟨rfl,λi p o hp=>by simp at hp⟩,⟨rfl,λi p o hp=>by simp at hp⟩⟩,λx hx=>?_⟩
 ·show(if i=9 then D else a i)≠(if j=9 then D else a j)
  split <;> split
  ·lia
  ·exact(na j hj).symm
  ·exact na i hi
  ·exact h.inj i j hi hj n
 ·dsimp only
  by_cases e9:k=9
  ·subst e9;rw[if_pos rfl,c9 (na 0 ↑4).symm,eD];rfl
  rw[if_neg e9];by_cases e0:k=0
  ·subst e0;rw[d6];rfl
  rw[c9 (h.inj k 0 hk ↑4 e0),h2.ob k hk];have:k=1\/k=2\/k=3\/k=4\/k=5\/k=6\/k=7\/k=8\/k=10\/k=11:=by lia
  rcases this with rfl|rfl|rfl|rfl|rfl|rfl|rfl|rfl|rfl|rfl <;> rfl
 ·obtain⟨r1,r2,r3⟩:=hr i p o hp ho
  have off:∀j,j<12->p≠a j:=λj hj z=>by have:=h.ob j hj;rw[<- z,r1] at this;cases this
  refine⟨λj hj=>?_,(c9 (off 0 ↑4)).trans r3⟩;dsimp only;split
  ·exact r2
  ·exact off j hj
 ·obtain⟨i,hi,e⟩:=List.mem_iff_getElem.mp hx
  exact(hr i x _ (by rw[<- e];exact List.getElem?_eq_getElem hi) (List.getElem?_eq_getElem (by rw[<- hl];exact hi))).1
theorem d5i{n:Nat}(h2:2<=n)(h8:n<=8)(os:List ↑26)(ho:∀o∈os,1<=o.length/\o.length<=n):ORel { d9b n with os:=os } (c3n n os)/\Ok (c3n n os):=by
 have:∀(os:List ↑26)(s:Ow)(L:Ln),L.n=n->ORel s L->Ok L->(∀o∈os,1<=o.length/\o.length<=n)->ORel { s with os:=s.os++os } (os.foldl a0t L)/\Ok (os.foldl a0t L):=by
  intro os
  induction os with
  | nil=>intro s L _ r ok _;exact⟨by rw[List.append_nil];exact r,ok⟩
  | cons o os ih=>
   intro s L en r ok ho;have h1:=ho o List.mem_cons_self;have q:=ih { s with os:=s.os++[o] } (a0t L o) en (r.add ok h1.1) (b8g ok (by rw[en];exact h1)) λo' h'=>ho o' (List.mem_cons_of_mem _ h')
   rw[show({ s with os:=s.os++[o] }:Ow).os++os=s.os++(o::os) by show(s.os++[o])++os=_;rw[List.append_assoc];rfl] at q
   exact q
 have q:=this os (d9b n) (a0i n) rfl (d9a h2 h8) (b9n h2 h8) ho;exact q
theorem d6n{H:Hp}{p q:Addr}{s t:Tch}(hp:H p=some (c5o s))(hq:H q=some (c5o t)):EqD K H 1 (.ref p) (.ref q) (decide (s.w=t.w) && (decide (s.d=t.d) && (decide (s.k=t.k) && decide (s.x=t.x)))):=by
 by_cases ne:p=q
 ·subst ne
  rw[hp] at hq;obtain⟨a,b,c,d⟩:=s;obtain⟨a',b',c',d'⟩:=t;cases hq;rw[decide_eq_true (Eq.refl _),decide_eq_true (Eq.refl _),decide_eq_true (Eq.refl _),decide_eq_true (Eq.refl _)];exact EqD.self (SqT.of hp)
 ·have h:=c8s (K:=K) ne hp hq rfl rfl rfl
  rw[show eqL [.str s.w,.str s.d,.int s.k,.int s.x] [.str t.w,.str t.d,.int t.k,.int t.x]=(eqV (.str s.w) (.str t.w) && eqL [.str s.d,.int s.k,.int s.x] [.str t.d,.int t.k,.int t.x]) from rfl,a5x,d3m] at h;exact h
def b9e:Sp:=λvs H Q _=>∃(n:Nat)(oa ta:Addr)(os:List ↑26)(ps:List Addr)(tl:List Tch),vs=[.int n,.ref oa,.ref ta]/\2<=n/\n<=8/\Rws H oa os/\(∀o∈os,1<=o.length/\o.length<=n)/\os.length<=400/\H ta=some (.lst (ps.map V.ref))/\TrV H ps tl/\tl.length<=4000/\∀H',SamP H H'->Q (.bl (b2j (c3n n os) tl)) H'
abbrev b7b:Stmt:=top 122
theorem b3t:g2 ["size","orders","trail","lane","touch"] ["size","orders","trail"] (d7 b7b):=↑1
theorem c9t(D:DefT K mg "_law_due" b7b ["size","orders","trail"])(T:↑18)(G_law_lane:↑901 "_law_lane" 2 ["size"] b6q)(G_law_stepped:↑901 "_law_stepped" 3 ["lane","who"] (frS b0h)):↑901 "_law_due" 4 ["size","orders","trail"] b9e:=by
 refine D.fn b3t ↑7 ↑3
 ·obtain⟨n,oa,ta,os,ps,tl,rfl,n2,n8,⟨qs,eo,ql,qr⟩,ho,hz,eta,ht,tz,k⟩:=h
  refine⟨_,(b9 (i6 (i:=3) b3t.nd rfl ↑23 (i5 G_law_lane hr ↑4 rfl g4 ↑16))
   (b9 (n6 ↑25 (pv 3) g6 (c1f (N:=["order"]) (nt:=1) (fr:=[]) rfl (a9v rfl rfl (by decide +kernel) (by decide +kernel) rfl rfl) (a0r (K:=K) (pv 1)) (a7i ↑4) (λ_ _ _ _ _=>o9 (i:=0) (show(["order"]:List Str).Nodup by decide +kernel) rfl (Or.inl rfl) (Or.inr rfl)) (λ_ _ _ _ _=>(m9 (a0e (K:=K)) (by rfl) T.z_list PyProof.Rows.boot_list ↑16))) rfl)
   (b9 (b0n a2m rfl (a0r (K:=K) (pv 2)) (o9 (i:=4) b3t.nd rfl ↑23)
     (
     b9 (m4 (g9 (c3p (K:=K)) (l7 (d2t (K:=K)) (pv 4) d8 ↑10) (k8 ↑21) (by with_unfolding_all rfl))
       ↑37
       m3)
     (d5 (m4 (PW.pt (c1e (b9i (a6h (i5 G_law_stepped hr ↑4 rfl g4 (a9 (pv 3) (a9 (m9 a2p (by rfl) T.z_int PyProof.Rows.boot_int (a9 (a0w v3 (l7 (d2t (K:=K)) (pv 4) d8 ↑10) g6 ↑32) d9)) d9))))) (b3c (g9 (e1r (K:=K) (n:=0) ↑25) (l7 ↑12 (a2l ↑25 (pv 3) g6 ↑10) (c6f b6i d8) ↑10) (pv 4) ↑32))))
      ↑37
      m3))))
   ↑37))),?_⟩
  have h60:6000000<=sizeLine:=by decide
  fail "";refine⟨n,rfl,n2,n8,λa H1 na s1 ox=>?_⟩;have eo1:=s1 _ _ eo;have e0:H1 (a 0)=some (.dK (kvO n a)):=ox.e0;fail "";refine a4e (xs:=qs.map V.ref) (by rw[List.length_map];lia) (RP H1 os) (λD hD=>RP.new hD) ?_ ?_ ?_
  ·rintro D i acc H' ⟨e,s,qs',rfl,hq,_⟩
   exact⟨e,by rw[List.length_map];exact hq,SqL.of (s _ _ eo1)⟩
  ·intro D i x acc H' hD hx hp
   rw[List.getElem?_map] at hx;cases hpi:qs[i]? with
   | none=>rw[hpi] at hx;cases hx
   | some q=>
    rw[hpi] at hx;cases hx;have hi:i<os.length:=by rw[<- ql];exact(List.getElem?_eq_some_iff.mp hpi).1
    have hoi:=List.getElem?_eq_getElem hi;have eq:=hp.2.1 _ _ (s1 _ _ (qr i q _ hpi hoi));fail "";exact λp hpn=>hp.push hD hoi hpn
  intro D acc H2 hD hp;rw[List.length_map,ql] at hp;have nr:=hp.done hD;have e02:=nr.2.1 _ _ e0;obtain⟨qs',ox',off'⟩:=ox.orders nr;have nx:∀x o,H x=some o->x≠a 0:=λx o e z=>by rw[z,na 0 ↑4] at e;cases e
  have O:OwnOf H _ _ (λj=>if j=9 then D else a j) { d9b n with os:=os }:=⟨ox'.part,λx o e _=>(c9 (nx x o e)).trans (nr.2.1 _ _ (s1 _ _ e)),λx o e _ z=>by
   rcases z with ⟨j,hj,z⟩|z|z
   ·split at z
    ·rw[z,j1 s1 hD] at e;cases e
    ·rw[z,na j hj] at e;cases e
   ·rw[j1 s1 (off' x z)] at e;cases e
   ·cases z⟩
  fail "";refine e7g e02 (show 6<sizeLine by lia) ?_
  generalize upd H2 (a 0) _=H3 at *;generalize (λx=>(∃j,j<12/\x=(λj=>if j=9 then D else a j) j)\/x∈qs'\/x∈([]:List Addr))=F at *;obtain⟨rel,ok⟩:=d5i n2 n8 os ho;have eta3:=O.same _ _ eta rfl;have eoa:a 0=(λj=>if j=9 then D else a j) 0:=rfl;generalize (λj=>if j=9 then D else a j)=a' at *;generalize a 0=oo at *;clear ox ox' off' e0 eo1 e02 na nx;fail "";refine for_listH (xs:=ps.map V.ref) (λi σ H'=>∃F a s L x4,σ=[some (.int n),some (.ref oa),some (.ref ta),some (.ref oo),x4]/\OwnOf H H' F a s/\oo=a 0/\ORel s L/\Ok L/\L.os=os/\s.tr.length<=i/\b2j L (tl.drop i)=b2j (c3n n os) tl) ⟨F,a',_,_,_,rfl,O,eoa,rel,ok,(a8w n os).2,Nat.le_refl _,rfl⟩ ?_ ?_ ?_
  ·rintro i σ H' _ ⟨F,a,s,L,x4,_,O,_⟩
   exact SqL.of (O.same _ _ eta rfl)
  ·clear O eta3 rel ok eoa
   rintro i x σ H' hx ⟨F,a,s,L,x4,rfl,O,eoo,rel,ok,eos,lt,hg⟩;subst eoo;rw[List.getElem?_map] at hx;cases hpi:ps[i]? with
   | none=>rw[hpi] at hx;cases hx
   | some q=>
    rw[hpi] at hx;cases hx;have hi:i<tl.length:=by rw[<- ht.1];exact(List.getElem?_eq_some_iff.mp hpi).1
    have hti:=List.getElem?_eq_getElem hi;have et0:=ht.2 i q _ hpi hti;have et:=O.same _ _ et0 rfl;rw[d3o hti] at hg;generalize tl[i]=tc at *;obtain⟨w',d',k',x'⟩:=tc;have et:H' q=some (.tup [.str w',.str d',.int k',.int x']):=et;fail "";refine⟨(by show 2<=sizeLine;lia),λp1 hp1=>?_⟩
    generalize u1:upd H' p1 _=H4;obtain⟨m1,f1⟩:=nwS u1 hp1;have O1:=O.grow m1;have et1:=m1 _ _ et;refine⟨p1,_,rfl,.inl (SqL.of f1),rfl,rfl,?_⟩;have hin:inV (.str w') [V.str "giver",.str "taker"]=(b0e w').isSome:=by
     show(eqV (.str "giver") (.str w') || (eqV (.str "taker") (.str w') || false))=_;rw[a5x,a5x,Bool.or_false];unfold b0e;by_cases y1:w'="giver"
     ·rw[y1];rfl
     ·rw[if_neg y1,decide_eq_false (λz=>y1 z.symm)]
      by_cases y2:w'="taker"
      ·rw[y2];rfl
      ·rw[if_neg y2,decide_eq_false (λz=>y2 z.symm)];rfl
    refine⟨_,rfl,?_⟩;rw[if_pos rfl,hin];cases hn:b0e w' with
    | none=>
     rw[b9r hn] at hg;fail "";rw[hg];exact k _ O1.same
    | some b=>
     rw[b4u hn] at hg;obtain rfl:=d0k hn;rw[show(!(some b).isSome)=false from rfl];fail "";refine .inr ⟨_,rfl,?_⟩;rw[a0m,show decide (nmB b="taker") = !b by cases b <;> rfl]
     fail "";have eb:(if (!b)=true then (1:Int) else 0)=wi b:=by cases b <;> rfl
     refine⟨rs F H4,c7u F H4,a,s,L,b,by rw[<- eb],O1.op.ow,rel,ok,by lia,by rw[eos];lia,λJ a2 s2 z0 z1 z2 z3 ot=>?_⟩
     have O2:=O1.go ot z1;generalize jn J (rs F H4) H4=H5 at *;generalize c8r J=F3 at *;clear ot z1 O1;have eq5:=O2.same _ _ et0 rfl;have eo3:(a6m b L).os=os:=by rw[<- eos];cases b;exact(a0x L).2.1;exact(a1c L).2.1
     have lt3:=(d0t b L s.tr).2;have ok3:Ok (a6m b L):=by cases b;exact c0d ok;exact c2g ok
     unfold okT at hg;cases z:a4b b L with
     | true=>
      rw[z,Bool.not_true,Bool.false_and,Bool.false_and] at hg;fail "";rw[hg];exact k _ O2.same
     | false=>
      rw[z,Bool.not_false,Bool.true_and] at hg;rw[b4x z] at z3 lt3;obtain⟨ks,bs,ts,ox⟩:=O2.op.all;have e0:H5 (a 0)=some (.dK (kvO s2.n a2)):=z0 ▸ ox.e0;have eT:H5 (a2 11)=some (.lst (ts.map V.ref)):=ox.ob 11 ↑4;have lT:ts.length=s.tr.length+1:=by rw[ox.rt.1,z3,List.length_append];rfl
      obtain⟨tp,htp⟩:∃tp,ts[s.tr.length]?=some tp:=⟨_,List.getElem?_eq_getElem ↑2⟩;have etp:H5 tp=some (d4h (b,c5k b L)):=ox.rt.2 _ _ _ htp (by rw[z3,List.getElem?_append_right ↑31,Nat.sub_self];rfl)
      have hat:atI (ts.map V.ref) (-1)=some (.ref tp):=by
       unfold atI ixN;rw[if_neg ↑4,if_pos (by rw[List.length_map];lia)]
       show(ts.map V.ref)[(-1+((ts.map V.ref).length:Int)).toNat]?=_;rw[List.length_map,show(-1+(ts.length:Int)).toNat=s.tr.length by lia,List.getElem?_map,htp]
       rfl
      have qd:=d6n (K:=K) (s:=d0p (b,c5k b L)) etp eq5;rw[show(d0p (b,c5k b L)).w=nmB b from rfl,decide_eq_true (Eq.refl _),Bool.true_and] at qd;refine⟨_,rfl,?_⟩;rw[show(!!false)=false from rfl];fail "";refine w9 eT hat ?_;fail "";refine e4y qd ?_;have ex:(decide ((d0p (b,c5k b L)).d=d') && (decide ((d0p (b,c5k b L)).k=k') && decide ((d0p (b,c5k b L)).x=x')))=eqT (c5k b L) ⟨nmB b,d',k',x'⟩:=rfl;rw[ex];cases y:eqT (c5k b L) ⟨nmB b,d',k',x'⟩ with
      | true=>
       rw[y,Bool.true_and] at hg;fail "";exact⟨F3,a2,s2,_,_,rfl,O2,z0.symm,z2,ok3,eo3,by rw[z3];lia,hg⟩
      | false=>
       rw[y,Bool.false_and] at hg;fail "";rw[hg];exact k _ O2.same
  ·rintro σ H' ⟨F,a,s,L,x4,rfl,O,eoo,rel,ok,eos,lt,hg⟩
   rw[List.length_map,ht.1,List.drop_length] at hg;fail "";have q:=k _ O.same;rw[<- hg] at q;exact q
theorem But.ofSame{w:Addr}{H H1 H2:Hp}(b:But w H H1)(s:Same H1 H2):But w H H2:=λx o e n=>s _ _ (b x o e n)
structure TS(H0:Hp)(wl sm:Addr)(ls:List Addr)(H:Hp):Prop where
 we:Well H wl
 but:But wl H0 H
 e:H sm=some (.lst (ls.map V.ref))
 ne:sm≠wl
 new:H0 sm=none
 ts:∀p∈ls,∃tc,H p=some (c5o tc)
theorem c0c{H:Hp}{wl p:Addr}{t:Tch}(w:Well H wl)(e:H p=some (c5o t)):p≠wl:=λz=>by
 obtain⟨a,b,c,q,_⟩:=w;rw[z,q] at e;cases e
theorem TS.take{H0 H H':Hp}{wl sm:Addr}{ls:List Addr}(h:TS H0 wl sm ls H)(b:But wl H H')(w:Well H' wl):TS H0 wl sm ls H' :=
 ⟨w,λx o e n=>b x o (h.but x o e n) n,b _ _ h.e h.ne,h.ne,h.new,λp hp=>by obtain⟨tc,e⟩:=h.ts p hp;exact⟨tc,b _ _ e (c0c h.we e)⟩⟩
theorem TS.same{H0 H H':Hp}{wl sm:Addr}{ls:List Addr}(h:TS H0 wl sm ls H)(s:Same H H'):TS H0 wl sm ls H' :=
 ⟨h.we.same s,h.but.ofSame s,s _ _ h.e,h.ne,h.new,λp hp=>by obtain⟨tc,e⟩:=h.ts p hp;exact⟨tc,s _ _ e⟩⟩
theorem TS.put{H0 H:Hp}{wl sm:Addr}{ls l2:List Addr}{xs:List V}(h:TS H0 wl sm ls H)(ex:xs=l2.map V.ref)(a:∀p∈l2,∃tc,H p=some (c5o tc)):TS H0 wl sm l2 (upd H sm (.lst xs)):=by
 subst ex;have nt:∀{p:Addr}{t:Tch},H p=some (c5o t)->p≠sm:=λe z=>by rw[z,h.e] at e;cases e
 obtain⟨x,y,z,q,r⟩:=h.we;exact⟨⟨x,y,z,(c9 (Ne.symm h.ne)).trans q,r⟩,λp o e n=>(c9 (λz=>by rw[z,h.new] at e;cases e)).trans (h.but p o e n),d6,h.ne,h.new,λp hp=>by obtain⟨tc,e⟩:=a p hp;exact⟨tc,(c9 (nt e)).trans e⟩⟩
theorem TS.push{H0 H:Hp}{wl sm p:Addr}{ls:List Addr}{tc:Tch}(h:TS H0 wl sm ls H)(e:H p=some (c5o tc)):TS H0 wl sm (ls++[p]) (upd H sm (.lst (ls.map V.ref++[.ref p]))) :=
 h.put (by rw[List.map_append];rfl) λq hq=>by
  rcases List.mem_append.mp hq with hq|hq
  ·exact h.ts q hq
  ·rw[List.mem_singleton.mp hq];exact⟨_,e⟩
theorem c7s{x y:Str}{r:Int}(h:r=0\/r=1):∃z:Str,atI [V.str x,.str y] r=some (.str z):=by
 rcases h with rfl|rfl
 ·exact⟨x,rfl⟩
 ·exact⟨y,rfl⟩
def a4h:Sp:=λvs H Q _=>∃(wl t:Addr)(n:Nat)(tc:Tch),vs=[.ref wl,.ref t,.int n]/\Well H wl/\H t=some (c5o tc)/\n<=8/\∀p tc' H',H' p=some (c5o tc')->Well H' wl->But wl H H'->Q (.ref p) H'
abbrev a2c:Stmt:=top 123
theorem l9:g2 ["well","touch","size","who","deed","cell","value","far","sign","some"] ["well","touch","size"] (d7 a2c):=↑1
theorem b1x(D:DefT K mg "_law_touch_spoilt" a2c ["well","touch","size"])(T:↑18)(G_law_take:↑901 "_law_take" 1 ["well","many"] a2t):↑901 "_law_touch_spoilt" 2 ["well","touch","size"] a4h:=by
 refine D.fn l9 ↑7 ↑3
 ·obtain⟨wl,t,n,⟨w',d',k',x'⟩,rfl,w0,et,n8,k⟩:=h
  refine⟨_,(b9 (a8u (pv 1) (c6e (K:=K) rfl (a3e (o9 (i:=3) l9.nd rfl ↑23) (a3e (o9 (i:=4) l9.nd rfl ↑23) (a3e (o9 (i:=5) l9.nd rfl ↑23) (a3e (o9 (i:=6) l9.nd rfl ↑23) c6d))))))
   (b9 (i6 (i:=7) l9.nd rfl ↑23 (l7 ↑12 (k8 (a9 d8 (a9 (g7 j9 d8 (i5 G_law_take hr ↑4 rfl g4 (a9 (pv 0) (a9 (g7 c8e d8 d8) d9)))) d9))) ↑43 ↑10))
   (b9 (i6 (i:=8) l9.nd rfl ↑23 (g7 a3n d8 (g7 m6 d8 ↑43)))
   (b9 (i6 (i:=9) l9.nd rfl ↑23 (k8 (a9 (a5j (a9 (l7 ↑12 (k8 ↑21) (m9 a2p (by rfl) T.z_int PyProof.Rows.boot_int (a9 (a0w v3 (pv 3) g6 ↑32) d9)) ↑10) (a9 (pv 4) (a9 (pv 5) (a9 (pv 6) d9))))) d9)))
   (b9 (i3 (n9 (K:=K) (pv 9) (a9 (a5j (a9 (pv 3) (a9 (l7 ↑12 (k8 ↑21) (m9 a2p (by rfl) T.z_int PyProof.Rows.boot_int (a9 (a0w v3 (pv 4) g6 ↑32) d9)) ↑10) (a9 (pv 5) (a9 (pv 6) d9))))) d9)))
   (b9 (i3 (n9 (K:=K) (pv 9) (a9 (a5j (a9 (pv 3) (a9 (pv 4) (a9 (g7 j9 (pv 5) (g7 m6 (pv 8) (pv 7))) (a9 (pv 6) d9))))) d9)))
   (b9 (i3 (n9 (K:=K) (pv 9) (a9 (a5j (a9 (pv 3) (a9 (pv 4) (a9 (pv 5) (a9 (g7 j9 (pv 6) (g7 m6 (pv 8) (pv 7))) d9))))) d9)))
   (b9 (i3 (n9 (K:=K) (pv 9) (a9 (a5j (a9 (l7 ↑12 (k8 (a9 g6 (a9 g6 ↑21))) ↑43 ↑10) (a9 (pv 4) (a9 (pv 5) (a9 (pv 6) d9))))) d9)))
   (b9 (i3 (n9 (K:=K) (pv 9) (a9 (a5j (a9 (pv 3) (a9 (pv 4) (a9 (i5 G_law_take hr ↑4 rfl g4 (a9 (pv 0) (a9 (g7 j9 (g7 m6 d8 (pv 2)) d8) d9))) (a9 (pv 6) d9))))) d9)))
   (d5 (i9 (l7 ↑12 (pv 9) ↑43 ↑10)))))))))))),?_⟩
  have h60:2000<=sizeLine:=by decide
  have eT:H t=some (.tup [.str w',.str d',.int k',.int x']):=et;fail "";refine d7c eT rfl ?_;fail "";refine⟨wl,_,rfl,w0,by decide,by decide,λr1 H1 _ _ w1 b1=>?_⟩
  fail "";refine⟨(show 2<=sizeLine by lia),λp1 hp1=>?_⟩
  generalize u1:upd H1 p1 _=H2;obtain⟨s2,e2⟩:=nwS u1 hp1;fail "";refine⟨wl,2,rfl,w1.same s2,by decide,by decide,λr2 H3 a2 c2 w3 b3=>?_⟩
  have np1:p1≠wl:=λz=>by obtain⟨o,e⟩:=w1.at;rw[<- z,hp1] at e;cases e
  have e3:=b3 _ _ e2 np1;obtain⟨far,hfar⟩:∃far,atI [V.int 1,.int (1+r1)] r2=some (.int far):=by
   rcases (show r2=0\/r2=1 by lia) with rfl|rfl
   ·exact⟨_,rfl⟩
   ·exact⟨_,rfl⟩
  refine w9 e3 hfar ?_;fail "";refine⟨wl,2,rfl,w3,by decide,by decide,λr4 H4 _ _ w4 b4=>?_⟩
  fail "";have b04:But wl H H4:=λx o e n=>b4 _ _ (b3 _ _ (s2 _ _ (b1 _ _ e n)) n) n;clear b1 b3 b4 e2 e3 s2 u1 hp1 np1 w0 w1 w3 eT et;refine⟨(show 2<=sizeLine by lia),λp5 hp5=>?_⟩
  generalize up5:upd H4 p5 _=H5;obtain⟨sp5,ep5⟩:=nwS up5 hp5;fail "";refine .inr ⟨_,rfl,?_⟩;rw[a0m];obtain⟨z1,hz1⟩:=c7s (x:="taker") (y:="giver") (r:=if decide (w'="taker")=true then 1 else 0) (by split <;> simp)
  refine w9 ep5 hz1 ?_;fail "";refine⟨(show 4<=sizeLine by lia),λp6 hp6=>?_⟩
  generalize up6:upd H5 p6 _=H6;obtain⟨sp6,ep6⟩:=nwS up6 hp6;fail "";refine⟨(show 1<=sizeLine by lia),λsm hsm=>?_⟩
  generalize usm:upd H6 sm _=H7;obtain⟨ssm,esm⟩:=nwS usm hsm;have S:TS H4 wl sm [p6] H7:=⟨((w4.same sp5).same sp6).same ssm,But.of ((sp5.trans sp6).trans ssm),esm,(λz=>by obtain⟨o,e⟩:=((w4.same sp5).same sp6).at;rw[<- z,hsm] at e;cases e),j1 (sp5.trans sp6) hsm,λp hp=>by rw[List.mem_singleton.mp hp];exact⟨⟨_,_,_,_⟩,ssm _ _ ep6⟩⟩
  have es:=S.e;clear sp5 sp6 ssm ep5 ep6 esm hp5 hp6 hsm up5 up6 usm hz1;fail "";refine⟨(show 2<=sizeLine by lia),λp7 hp7=>?_⟩
  generalize up7:upd H7 p7 _=H8;obtain⟨sp7,ep7⟩:=nwS up7 hp7;replace S:=S.same sp7;replace es:=S.e;fail "";refine .inr ⟨_,rfl,?_⟩;rw[a0m];obtain⟨z2,hz2⟩:=c7s (x:="write") (y:="read") (r:=if decide (d'="write")=true then 1 else 0) (by split <;> simp)
  refine w9 ep7 hz2 ?_;fail "";clear sp7 ep7 hp7 up7 hz2;refine⟨(show 4<=sizeLine by lia),λp8 hp8=>?_⟩
  generalize up8:upd H8 p8 _=H9;obtain⟨sp8,ep8⟩:=nwS up8 hp8;replace S:=S.same sp8;replace es:=S.e;have ep8m:=S.e;have lp8:([p6].map V.ref).length<sizeLine:=(show 1<sizeLine by lia)
  replace S:=S.push (tc:=⟨_,_,_,_⟩) ep8;fail "";generalize upd H9 sm _=H10 at *;replace es:=S.e;clear ep8 ep8m lp8 hp8 up8 sp8;fail "";refine⟨(show 4<=sizeLine by lia),λp9 hp9=>?_⟩
  generalize up9:upd H10 p9 _=H11;obtain⟨sp9,ep9⟩:=nwS up9 hp9;replace S:=S.same sp9;replace es:=S.e;have ep9m:=S.e;have lp9:([p6,p8].map V.ref).length<sizeLine:=(show 2<sizeLine by lia)
  replace S:=S.push (tc:=⟨_,_,_,_⟩) ep9;fail "";generalize upd H11 sm _=H12 at *;replace es:=S.e;clear ep9 ep9m lp9 hp9 up9 sp9;fail "";refine⟨(show 4<=sizeLine by lia),λp10 hp10=>?_⟩
  generalize up10:upd H12 p10 _=H13;obtain⟨sp10,ep10⟩:=nwS up10 hp10;replace S:=S.same sp10;replace es:=S.e;have ep10m:=S.e;have lp10:([p6,p8,p9].map V.ref).length<sizeLine:=(show 3<sizeLine by lia)
  replace S:=S.push (tc:=⟨_,_,_,_⟩) ep10;fail "";generalize upd H13 sm _=H14 at *;replace es:=S.e;clear ep10 ep10m lp10 hp10 up10 sp10;fail "";refine⟨(show 4<=sizeLine by lia),λp11 hp11=>?_⟩
  generalize up11:upd H14 p11 _=H15;obtain⟨sp11,ep11⟩:=nwS up11 hp11;replace S:=S.same sp11;replace es:=S.e;fail "";refine⟨wl,4,rfl,S.we,by decide,by decide,λr5 H16 a5 c5 w5 b5=>?_⟩
  have np11:p11≠wl:=λz=>by obtain⟨a,b,c,q,_⟩:=S.we;rw[<- z,ep11] at q;cases q
  have ep11b:=b5 _ _ ep11 np11;replace S:=S.take b5 w5;replace es:=S.e;obtain⟨z3,hz3⟩:∃z:Str,atI [V.str "",.str "Giver",.str "hand",.str "asker"] r5=some (.str z):=by
   rcases (show r5=0\/r5=1\/r5=2\/r5=3 by lia) with rfl|rfl|rfl|rfl
   ·exact⟨_,rfl⟩
   ·exact⟨_,rfl⟩
   ·exact⟨_,rfl⟩
   ·exact⟨_,rfl⟩
  refine w9 ep11b hz3 ?_;fail "";clear sp11 ep11 ep11b hp11 up11 hz3 b5 w5 np11;refine⟨(show 4<=sizeLine by lia),λp12 hp12=>?_⟩
  generalize up12:upd H16 p12 _=H17;obtain⟨sp12,ep12⟩:=nwS up12 hp12;replace S:=S.same sp12;replace es:=S.e;have ep12m:=S.e;have lp12:([p6,p8,p9,p10].map V.ref).length<sizeLine:=(show 4<sizeLine by lia)
  replace S:=S.push (tc:=⟨_,_,_,_⟩) ep12;fail "";generalize upd H17 sm _=H18 at *;replace es:=S.e;clear ep12 ep12m lp12 hp12 up12 sp12;fail "";refine⟨wl,_,rfl,S.we,by lia,by lia,λr6 H19 _ _ w6 b6=>?_⟩
  replace S:=S.take b6 w6;replace es:=S.e;clear b6 w6;fail "";refine⟨(show 4<=sizeLine by lia),λp13 hp13=>?_⟩
  generalize up13:upd H19 p13 _=H20;obtain⟨sp13,ep13⟩:=nwS up13 hp13;replace S:=S.same sp13;replace es:=S.e;have ep13m:=S.e;have lp13:([p6,p8,p9,p10,p12].map V.ref).length<sizeLine:=(show 5<sizeLine by lia)
  replace S:=S.push (tc:=⟨_,_,_,_⟩) ep13;fail "";generalize upd H20 sm _=H21 at *;replace es:=S.e;clear ep13 ep13m lp13 hp13 up13 sp13;fail "";refine⟨wl,6,rfl,S.we,by decide,by decide,λr7 H22 a7 c7 w7 b7=>?_⟩
  replace S:=S.take b7 w7;replace es:=S.e;obtain⟨q,hq,hqm⟩:∃q,atI ([p6,p8,p9,p10,p12,p13].map V.ref) r7=some (.ref q)/\q∈[p6,p8,p9,p10,p12,p13]:=by
   rcases (show r7=0\/r7=1\/r7=2\/r7=3\/r7=4\/r7=5 by lia) with rfl|rfl|rfl|rfl|rfl|rfl
   ·exact⟨_,rfl,by simp⟩
   ·exact⟨_,rfl,by simp⟩
   ·exact⟨_,rfl,by simp⟩
   ·exact⟨_,rfl,by simp⟩
   ·exact⟨_,rfl,by simp⟩
   ·exact⟨_,rfl,by simp⟩
  refine w9 S.e hq ?_;obtain⟨tc,e⟩:=S.ts q hqm;exact k _ _ _ e S.we λx o e n=>S.but x o (b04 x o e n) n
theorem d8n{ps:List Addr}{r:Int}(h0:0<=r)(h1:r<ps.length):∃p,atI (ps.map V.ref) r=some (.ref p)/\p∈ps:=by
 have hr:r.toNat<ps.length:=by lia
 refine⟨ps[r.toNat],?_,List.getElem_mem hr⟩;unfold atI ixN;rw[if_pos h0,if_pos (by rw[List.length_map];exact h1)]
 show(ps.map V.ref)[r.toNat]?=_;rw[List.getElem?_map,List.getElem?_eq_getElem hr]
 rfl
theorem c8v{H:Hp}{p q:Addr}{xs:List V}(hp:H p=some (.lst xs))(hq:H q=some (.lst []))(ne:p≠q):EqD K H 1 (.ref p) (.ref q) (decide (xs=[])):=by
 cases xs with
 | nil=>exact c2j ne (SqL.of hp) (SqL.of hq) rfl rfl
 | cons x xs=>exact EqD.lstN ne (SqL.of hp) (SqL.of hq) (by simp)
def TrE(H:Hp)(ps:List Addr):Prop:=∀p∈ps,∃tc,H p=some (c5o tc)
def a4g:Sp:=λvs H Q _=>∃(wl ta:Addr)(n:Nat)(ps:List Addr),vs=[.ref wl,.ref ta,.int n]/\Well H wl/\H ta=some (.lst (ps.map V.ref))/\ta≠wl/\TrE H ps/\n<=8/\ps.length<=3000/\∀q qs H',TS H wl q qs H'->qs.length<=ps.length+2->Q (.ref q) H'
abbrev a2b:Stmt:=top 124
theorem x0:g2 ["well","trail","size","at","other","way","row"] ["well","trail","size"] (d7 a2b):=↑1
theorem b1w(D:DefT K mg "_law_trail_spoilt" a2b ["well","trail","size"])(T:↑18)(G_law_take:↑901 "_law_take" 1 ["well","many"] a2t)(G_law_touch_spoilt:↑901 "_law_touch_spoilt" 2 ["well","touch","size"] a4h):↑901 "_law_trail_spoilt" 3 ["well","trail","size"] a4g:=by
 refine D.fn x0 ↑7 ↑3
 ·obtain⟨wl,ta,n,ps,rfl,w0,eta,nta,ht,n8,lp,k⟩:=h
  refine⟨_,(b9 (m4 (g9 (b9k (K:=K) (n:=0) ↑25) (pv 1) (k8 d9) ↑32)
     (d5 (i9 (c7y (c7t (K:=K)) (k8 (a9 (a5j (a9 g6 (a9 g6 (a9 (g7 j9 (g7 m6 d8 (pv 2)) d8) (a9 ↑43 d9))))) (a9 (a5j (a9 g6 (a9 g6 (a9 d8 ↑22)))) d9))) d1r (d1q ↑43))))
     m3)
   (b9 (i6 (i:=3) x0.nd rfl ↑23 (i5 G_law_take hr ↑4 rfl g4 (a9 (pv 0) (a9 (k0 ↑34 (by rfl) T.z_len PySem.boot_len ↑15) d9))))
   (b9 (i6 (i:=4) x0.nd rfl ↑23 (i5 G_law_take hr ↑4 rfl g4 (a9 (pv 0) (a9 (k0 ↑34 (by rfl) T.z_len PySem.boot_len ↑15) d9))))
   (b9 (i6 (i:=5) x0.nd rfl ↑23 ↑43)
   (b9 (i6 (i:=6) x0.nd rfl ↑23 (m9 (a0e (K:=K)) (by rfl) T.z_list PyProof.Rows.boot_list ↑15))
   (b9 (m4 (g9 b7n (pv 5) d8 ↑32)
     (d5 (a8u (i5 G_law_touch_spoilt hr ↑4 rfl g4 (a9 (pv 0) (a9 (l7 ↑12 (pv 1) (pv 3) ↑10) (a9 (pv 2) d9)))) (b5r (pv 6) (pv 3) a5e)))
     (d5 (
          m4 (g9 v3 (pv 5) d8 ↑32)
      (d5 (i3 (b7m (K:=K) (pv 6) (a9 (pv 3) d9))))
      (d5 (m4 (g9 v3 (pv 5) d8 ↑32)
        (d5 (i3 (d1v (K:=K) (pv 6) (a9 (pv 4) (a9 (l7 ↑12 (pv 1) (pv 3) ↑10) d9)))))
        (d5 (m4 (g9 v3 (pv 5) d8 ↑32)
         (
          b9 (a8u (l7 ↑12 (pv 1) (pv 4) ↑10) (b5r (pv 6) (pv 3) a5e))
          (d5 (a8u (l7 ↑12 (pv 1) (pv 3) ↑10) (b5r (pv 6) (pv 4) a5e))))
         (d5 (i3 (n9 (K:=K) (pv 6) (a9 (i5 G_law_touch_spoilt hr ↑4 rfl g4 (a9 (pv 0) (a9 (l7 ↑12 (pv 1) (pv 3) ↑10) (a9 (pv 2) d9)))) d9)))))))))))
   (d5 (i9 (pv 6))))))))),?_⟩
  have h60:6000000<=sizeLine:=by decide
  fail "";refine⟨Nat.zero_le _,λp1 hp1=>?_⟩;generalize u1:upd H p1 _=H1;obtain⟨s1,e1⟩:=nwS u1 hp1;have eta1:=s1 _ _ eta;refine d3i (c8v eta1 e1 (i4 eta hp1)) ?_;by_cases y:ps=[]
  ·subst y
   rw[decide_eq_true (show([]:List Addr).map V.ref=[] from rfl)];fail "";refine e6y ?_;fail "";refine⟨wl,3,rfl,w0.same s1,by decide,by decide,λr1 H2 a1 c1 w2 b2=>?_⟩
   fail "";refine⟨(show 4<=sizeLine by lia),λp2 hp2=>?_⟩
   generalize u2:upd H2 p2 _=H3;obtain⟨s3,e3⟩:=nwS u2 hp2;fail "";refine⟨(show 4<=sizeLine by lia),λp3 hp3=>?_⟩
   generalize u3:upd H3 p3 _=H4;obtain⟨s4,e4⟩:=nwS u3 hp3;fail "";refine⟨(show 2<=sizeLine by lia),λp4 hp4=>?_⟩
   generalize u4:upd H4 p4 _=H5;obtain⟨s5,e5⟩:=nwS u4 hp4;have w5:=((w2.same s3).same s4).same s5;have np4:p4≠wl:=λz=>by obtain⟨o,e⟩:=((w2.same s3).same s4).at;rw[<- z,hp4] at e;cases e
   refine d6j ?_;refine e2t ?_;fail "";refine⟨wl,3,rfl,w5,by decide,by decide,λr6 H6 a6 c6 w6 b6=>?_⟩
   have e6:=b6 _ _ e5 np4;refine⟨_,rfl,p4,_,rfl,SqL.of e6,λq hq=>?_⟩;have b06:But wl H H6:=λx o e n=>b6 _ _ (s5 _ _ (s4 _ _ (s3 _ _ (b2 _ _ (s1 _ _ e) n)))) n;have t3:H6 p2=some (c5o ⟨"giver","write",4*n+3,r1⟩):=b6 _ _ (s5 _ _ (s4 _ _ e3)) (c0c (w2.same s3) (t:=⟨"giver","write",4*n+3,r1⟩) e3);have t4:H6 p3=some (c5o ⟨"taker","read",0,2⟩):=b6 _ _ (s5 _ _ e4) (c0c ((w2.same s3).same s4) (t:=⟨"taker","read",0,2⟩) e4);obtain⟨qs,eq,lq,mq⟩:∃qs:List Addr,d9w [V.ref p2,.ref p3] none (some r6)=qs.map V.ref/\qs.length<=2/\∀p∈qs,p=p2\/p=p3:=by
    rcases (show r6=0\/r6=1\/r6=2 by lia) with rfl|rfl|rfl
    ·exact⟨[],rfl,(show 0<=2 by decide),by simp⟩
    ·exact⟨[p2],rfl,(show 1<=2 by decide),by simp⟩
    ·exact⟨[p2,p3],rfl,(show 2<=2 by decide),by simp⟩
   rw[eq];have nq:q≠wl:=λz=>by obtain⟨o,e⟩:=w6.at;rw[<- z,hq] at e;cases e
   have hq0:H q=none:=by
    cases e:H q with
    | none=>rfl
    | some o=>rw[b06 _ _ e nq] at hq;cases hq
   have sq:=g3 (o:=.lst (qs.map V.ref)) hq;exact k q qs _ ⟨w6.same sq,b06.ofSame sq,d6,nq,hq0,λp hp=>by
    rcases mq p hp with rfl|rfl
    ·exact⟨_,sq _ _ t3⟩
    ·exact⟨_,sq _ _ t4⟩⟩ (by show qs.length<=0+2;lia)
  ·have l0:0<ps.length:=by cases ps with|nil=>exact absurd rfl y|cons _ _=>exact Nat.succ_pos _
   rw[decide_eq_false (show ¬ ps.map V.ref=[] by simpa using y)]
   fail "";rw[List.length_map];refine⟨wl,ps.length,rfl,w0.same s1,by lia,by lia,λr1 H2 a1 c1 w2 b2=>?_⟩
   have eta2:=b2 _ _ eta1 nta;fail "";rw[List.length_map];refine⟨wl,ps.length,rfl,w2,by lia,by lia,λr2 H3 a2 c2 w3 b3=>?_⟩
   fail "";refine⟨wl,7,rfl,w3,by decide,by decide,λr3 H4 a3 c3 w4 b4=>?_⟩
   have eta4:=b4 _ _ (b3 _ _ eta2 nta) nta;have b04:But wl H H4:=λx o e n=>b4 _ _ (b3 _ _ (b2 _ _ (s1 _ _ e) n) n) n;clear b2 b3 b4 eta2 eta1 w2 w3 s1 e1 u1 hp1;fail "";intro q hq;generalize u4:upd H4 q _=H5;obtain⟨s5,e5⟩:=nwS u4 hq;have nq:q≠wl:=λz=>by obtain⟨o,e⟩:=w4.at;rw[<- z,hq] at e;cases e
   have hq0:H q=none:=by
    cases e:H q with
    | none=>rfl
    | some o=>rw[b04 _ _ e nq] at hq;cases hq
   have S:TS H wl q ps H5:=⟨w4.same s5,b04.ofSame s5,e5,nq,hq0,λp hp=>by
    obtain⟨tc,e⟩:=ht p hp;exact⟨tc,s5 _ _ (b04 _ _ e (c0c w0 e))⟩⟩
   have eta5:=s5 _ _ eta4;obtain⟨pa,ha,pam⟩:=d8n a1 c1;obtain⟨po,ho,pom⟩:=d8n a2 c2;clear u4 s5 hq e5 eta4 b04 w4;fail "";rename_i nX hX;have fin:∀qs H',TS H wl q qs H'->qs.length<=ps.length+2->nX [some (.ref wl),some (.ref ta),some (.int n),some (.int r1),some (.int r2),some (.int r3),some (.ref q)] H':=λqs H' S l=>by
    refine c4w hX ?_;clear hX;fail "";exact k q qs H' S l
   clear hX;have e5:=S.e;obtain⟨ta1,ea⟩:=S.ts _ pam;obtain⟨to1,eo⟩:=S.ts _ pom;refine a1y (λy1=>?_) (λy1=>?_)
   ·fail ""
    refine w9 eta5 ha ?_;fail "";refine⟨wl,pa,n,ta1,rfl,S.we,ea,n8,λp tc H6 ep w6 b6=>?_⟩;have S6:=S.take b6 w6;fail "";refine b9t S6.e (by rw[List.length_map];exact b9q ↑2 ↑2) ?_
    exact fin _ _ (S6.put (by rw[List.map_set]) λx hx=>by
     rcases List.mem_or_eq_of_mem_set hx with hx|rfl
     ·exact S6.ts x hx
     ·exact⟨_,ep⟩) (by rw[List.length_set];lia)
   fail "";refine a1y (λy2=>?_) (λy2=>?_)
   ·fail ""
    refine b8b e5 a1 (by rw[List.length_map];exact c1) (by rw[List.length_map];lia) λ_=>?_
    fail "";exact fin (ps.eraseIdx r1.toNat) _ (S.put (by simp[List.eraseIdx_eq_take_drop_succ]) λx hx=>S.ts x (List.mem_of_mem_eraseIdx hx)) (by have:=List.length_eraseIdx_le ps r1.toNat;lia)
   fail "";refine a1y (λy3=>?_) (λy3=>?_)
   ·fail ""
    refine w9 eta5 ha ?_;fail "";refine e2z e5 a2 (by rw[List.length_map];lia) (by rw[List.length_map];lia) ?_
    fail "";exact fin (ps.take r2.toNat++pa::ps.drop r2.toNat) _ (S.put (by unfold e3s;rw[List.map_append,List.map_cons,List.map_take,List.map_drop]) λx hx=>by
     rcases List.mem_append.mp hx with hx|hx
     ·exact S.ts x (List.mem_of_mem_take hx)
     ·rcases List.mem_cons.mp hx with rfl|hx
      ·exact⟨_,ea⟩
      ·exact S.ts x (List.mem_of_mem_drop hx)) (by rw[List.length_append,List.length_cons,List.length_take,List.length_drop];lia)
   fail "";refine a1y (λy4=>?_) (λy4=>?_)
   ·fail ""
    refine w9 eta5 ho ?_;fail "";refine b9t e5 (by rw[List.length_map];exact b9q ↑2 ↑2) ?_
    have S6:TS H wl q (ps.set r1.toNat po) (upd H5 q (.lst ((ps.map V.ref).set r1.toNat (.ref po)))):=S.put (by rw[List.map_set]) λx hx=>by
     rcases List.mem_or_eq_of_mem_set hx with hx|rfl
     ·exact S.ts x hx
     ·exact⟨_,eo⟩
    have ea6:upd H5 q (.lst ((ps.map V.ref).set r1.toNat (.ref po))) pa=some (c5o ta1):=(c9 (λz=>by rw[z,e5] at ea;cases ea)).trans ea
    have nta2:ta≠q:=λz=>by rw[<- z,eta] at hq0;cases hq0
    have eta6:upd H5 q (.lst ((ps.map V.ref).set r1.toNat (.ref po))) ta=some (.lst (ps.map V.ref)):=(c9 nta2).trans eta5;generalize upd H5 q _=H6 at *;have e6:=S6.e;fail "";refine w9 eta6 ha ?_;fail "";refine b9t e6 (by rw[List.length_map,List.length_set];exact b9q ↑2 ↑2) ?_
    exact fin ((ps.set r1.toNat po).set r2.toNat pa) _ (S6.put (by simp only[List.map_set]) λx hx=>by
     rcases List.mem_or_eq_of_mem_set hx with hx|rfl
     ·exact S6.ts x hx
     ·exact⟨_,ea6⟩) (by rw[List.length_set,List.length_set];lia)
   ·fail ""
    refine w9 eta5 ha ?_;fail "";refine⟨wl,pa,n,ta1,rfl,S.we,ea,n8,λp tc H6 ep w6 b6=>?_⟩;have S6:=S.take b6 w6;have e6:=S6.e;have l6:(ps.map V.ref).length<sizeLine:=by rw[List.length_map];lia
    fail "";exact fin _ _ (S6.push ep) (by rw[List.length_append];show ps.length+1<=_;lia)
structure RS(n:Nat)(H0:Hp)(wl D:Addr)(ps:List Addr)(H:Hp):Prop where
 we:Well H wl
 but:But wl H0 H
 e:H D=some (.lst (ps.map V.ref))
 ne:D≠wl
 new:H0 D=none
 rows:∀p∈ps,(H0 p=none/\p≠wl/\p≠D)/\∃o:List Int,H p=some ↑36/\1<=o.length/\o.length<=n
theorem RS.take{n:Nat}{H0 H H':Hp}{wl D:Addr}{ps:List Addr}(h:RS n H0 wl D ps H)(b:But wl H H')(w:Well H' wl):RS n H0 wl D ps H' :=
 ⟨w,λx o e n=>b x o (h.but x o e n) n,b _ _ h.e h.ne,h.ne,h.new,λp hp=>by obtain⟨a,o,e,l⟩:=h.rows p hp;exact⟨a,o,b _ _ e a.2.1,l⟩⟩
theorem RS.row{n:Nat}{H0 H:Hp}{wl D p:Addr}{ps:List Addr}{o:List Int}{xs:List V}(h:RS n H0 wl D ps H)(hp:p∈ps)(ex:xs=o.map V.int)(l:1<=o.length/\o.length<=n):RS n H0 wl D ps (upd H p (.lst xs)):=by
 subst ex;obtain⟨⟨a1,a2,a3⟩,_⟩:=h.rows p hp;obtain⟨x,y,z,q,r⟩:=h.we;refine⟨⟨x,y,z,(c9 (Ne.symm a2)).trans q,r⟩,λy o e n=>(c9 (λz=>by rw[z,a1] at e;cases e)).trans (h.but y o e n),(c9 (Ne.symm a3)).trans h.e,h.ne,h.new,λy hy=>?_⟩
 obtain⟨b,o',e,l'⟩:=h.rows y hy;refine⟨b,?_⟩;by_cases z:y=p
 ·subst z;exact⟨o,d6,l⟩
 ·exact⟨o',(c9 z).trans e,l'⟩
theorem RS.put{n:Nat}{H0 H:Hp}{wl D:Addr}{ps qs:List Addr}{xs:List V}(h:RS n H0 wl D ps H)(ex:xs=qs.map V.ref)(m:∀q∈qs,q∈ps):RS n H0 wl D qs (upd H D (.lst xs)):=by
 subst ex;obtain⟨x,y,z,q,r⟩:=h.we;exact⟨⟨x,y,z,(c9 (Ne.symm h.ne)).trans q,r⟩,λy o e n=>(c9 (λz=>by rw[z,h.new] at e;cases e)).trans (h.but y o e n),d6,h.ne,h.new,λp hp=>by
  obtain⟨a,o,e,l⟩:=h.rows p (m p hp);exact⟨a,o,(c9 a.2.2).trans e,l⟩⟩
theorem d8j{n:Nat}{H:Hp}{ps:List Addr}(h:∀p∈ps,∃o:List Int,H p=some ↑36/\1<=o.length/\o.length<=n):∃os:List ↑26,ps.length=os.length/\(∀(i:Nat)(p:Addr)(o:List Int),ps[i]?=some p->os[i]?=some o->H p=some ↑36)/\∀o∈os,1<=o.length/\o.length<=n:=by
 induction ps with
 | nil=>exact⟨[],rfl,λi p o hp=>by simp at hp,λo ho=>nomatch ho⟩
 | cons p ps ih=>
  obtain⟨os,l,r,g⟩:=ih λq hq=>h q (List.mem_cons_of_mem _ hq);obtain⟨o,e,lo⟩:=h p List.mem_cons_self;refine⟨o::os,by rw[List.length_cons,List.length_cons,l],λi q u hq hu=>?_,λu hu=>?_⟩
  ·cases i with
   | zero=>cases hq;cases hu;exact e
   | succ i=>exact r i q u hq hu
  ·rcases List.mem_cons.mp hu with rfl|hu
   ·exact lo
   ·exact g u hu
theorem RS.rws{n:Nat}{H0 H:Hp}{wl D:Addr}{ps:List Addr}(h:RS n H0 wl D ps H):∃os,Rws H D os/\(∀o∈os,1<=o.length/\o.length<=n)/\os.length=ps.length:=by
 obtain⟨os,l,r,g⟩:=d8j λp hp=>(h.rows p hp).2;exact⟨os,⟨ps,h.e,l,r⟩,g,l.symm⟩
def a3x:Sp:=λvs H Q _=>∃(wl oa:Addr)(n:Nat)(os:List ↑26),vs=[.ref wl,.ref oa,.int n]/\Well H wl/\Rws H oa os/\(∀o∈os,1<=o.length/\o.length<=n)/\2<=n/\n<=8/\os.length<=300/\∀q os' H',Rws H' q os'->(∀o∈os',1<=o.length/\o.length<=n)->os'.length<=os.length+1->Well H' wl->But wl H H'->Q (.ref q) H'
abbrev a1q:Stmt:=top 125
theorem v6:g2 ["well","orders","size","rows","at","way","spot"] ["well","orders","size"] (d7 a1q):=↑1
theorem a9z(D:DefT K mg "_law_orders_spoilt" a1q ["well","orders","size"])(T:↑18)(G_law_take:↑901 "_law_take" 1 ["well","many"] a2t)(G_law_order:↑901 "_law_order" 2 ["well","size"] a7r):↑901 "_law_orders_spoilt" 3 ["well","orders","size"] a3x:=by
 refine D.fn v6 ↑7 ↑3
 ·obtain⟨wl,oa,n,os,rfl,w0,⟨qs,eo,ql,qr⟩,ho,n2,n8,lo,k⟩:=h
  refine⟨_,(b9 (a6i (ix:=3) (N:=["order"]) (nt:=1) (fr:=[]) rfl (a9v rfl rfl (by decide +kernel) (by decide +kernel) rfl rfl) (a0r (K:=K) (pv 1)) (a7i ↑4) (λ_ _ _ _ _=>o9 (i:=0) (show(["order"]:List Str).Nodup by decide +kernel) rfl (Or.inl rfl) (Or.inr rfl)) (λ_ _ _ _ _=>(m9 (a0e (K:=K)) (by rfl) T.z_list PyProof.Rows.boot_list ↑16)) v6.nd rfl rfl)
   (b9 (m4 (g9 (b9k (K:=K) (n:=0) ↑25) (pv 3) (k8 d9) ↑32)
     (d5 (i9 (k8 (a9 (i5 G_law_order hr ↑4 rfl g4 (a9 (pv 0) (a9 (pv 2) d9))) d9))))
     m3)
   (b9 (i6 (i:=4) v6.nd rfl ↑23 (i5 G_law_take hr ↑4 rfl g4 (a9 (pv 0) (a9 (k0 ↑34 (by rfl) T.z_len PySem.boot_len (a9 (pv 3) d9)) d9))))
   (b9 (i6 (i:=5) v6.nd rfl ↑23 ↑43)
   (b9 (i6 (i:=6) v6.nd rfl ↑23 (i5 G_law_take hr ↑4 rfl g4 (a9 (pv 0) (a9 (k0 ↑34 (by rfl) T.z_len PySem.boot_len (a9 (l7 ↑12 (pv 3) (pv 4) ↑10) d9)) d9))))
   (b9 (m4 (g9 v3 (pv 5) d8 ↑32)
     (d5 (a8u (g7 j9 (l7 ↑12 (l7 ↑12 (pv 3) (pv 4) ↑10) (pv 6) ↑10) d8) (b5r (l7 ↑12 (pv 3) (pv 4) ↑10) (pv 6) a5e)))
     (d5 (m4 (PW.pt (b5p (g9 v3 (pv 5) d8 ↑32) (a8t (g9 b7n (k0 ↑34 (by rfl) T.z_len PySem.boot_len (a9 (l7 ↑12 (pv 3) (pv 4) ↑10) d9)) (pv 2) ↑32))))
      (d5 (i3 (d1v (K:=K) (l7 ↑12 (pv 3) (pv 4) ↑10) (a9 (pv 6) ↑22))))
      (d5 (m4 (PW.pt (b5p (g9 v3 (pv 5) d8 ↑32) (a8t (g9 b8q (k0 ↑34 (by rfl) T.z_len PySem.boot_len (a9 (l7 ↑12 (pv 3) (pv 4) ↑10) d9)) d8 ↑32))))
        (d5 (i3 (b7m (K:=K) (l7 ↑12 (pv 3) (pv 4) ↑10) (a9 (pv 6) d9))))
        (d5 (i3 (b7m (K:=K) (pv 3) (a9 (pv 4) d9)))))))))
   (d5 (i9 (pv 3))))))))),?_⟩
  have h60:6000000<=sizeLine:=by decide
  fail "";refine a4e (xs:=qs.map V.ref) (by rw[List.length_map];lia) (RP H os) (λD hD=>RP.new hD) ?_ ?_ ?_
  ·rintro D i acc H' ⟨e,s,qs',rfl,hq,_⟩
   exact⟨e,by rw[List.length_map];exact hq,SqL.of (s _ _ eo)⟩
  ·intro D i x acc H' hD hx hp
   rw[List.getElem?_map] at hx;cases hpi:qs[i]? with
   | none=>rw[hpi] at hx;cases hx
   | some q=>
    rw[hpi] at hx;cases hx;have hi:i<os.length:=by rw[<- ql];exact(List.getElem?_eq_some_iff.mp hpi).1
    have hoi:=List.getElem?_eq_getElem hi;have eq:=hp.2.1 _ _ (qr i q _ hpi hoi);fail "";exact λp hpn=>hp.push hD hoi hpn
  intro D acc H1 hD hp;rw[List.length_map,ql] at hp;obtain⟨_,s1,ps,e1,pl,pr⟩:=hp.done hD;have S:RS n H wl D ps H1:=⟨w0.same s1,But.of s1,e1,(λz=>by obtain⟨o,e⟩:=w0.at;rw[<- z,hD] at e;cases e),hD,λp hp=>by
   obtain⟨i,hi,e⟩:=List.mem_iff_getElem.mp hp;have hoi:=List.getElem?_eq_getElem (show i<os.length by lia)
   obtain⟨a,b,c⟩:=pr i p _ (by rw[<- e];exact List.getElem?_eq_getElem hi) hoi
   exact⟨⟨a,(λz=>by obtain⟨o,e⟩:=w0.at;rw[<- z,a] at e;cases e),b⟩,_,c,ho _ (List.getElem_mem _)⟩⟩
  clear hp pr qr e1 eo s1 w0;have es:=S.e;fail "";refine⟨Nat.zero_le _,λp2 hp2=>?_⟩;generalize u2:upd H1 p2 _=H2;obtain⟨s2,e2⟩:=nwS u2 hp2;have S2:RS n H wl D ps H2:=S.take (But.of s2) (S.we.same s2);refine d3i (c8v S2.e e2 (i4 es hp2)) ?_;clear S es;by_cases y:ps=[]
  ·subst y
   rw[decide_eq_true (show([]:List Addr).map V.ref=[] from rfl)];fail "";refine⟨wl,n,rfl,S2.we,by lia,by lia,λp H3 r hp ep r1 r2 _ w3 b3=>?_⟩
   fail "";refine⟨(show 1<=sizeLine by lia),λq hq=>?_⟩
   have sq:=g3 (o:=.lst [.ref p]) hq;refine k q [r] _ ⟨[p],d6,rfl,λi x o hx ho=>?_⟩ (λo ho=>by rw[List.mem_singleton.mp ho];lia) (by show 1<=_;lia) (w3.same sq) λx o e nx=>sq _ _ (b3 _ _ (S2.but x o e nx) nx)
   cases i with
   | zero=>cases hx;cases ho;exact sq _ _ ep
   | succ i=>simp at hx
  ·have l0:0<ps.length:=by cases ps with|nil=>exact absurd rfl y|cons _ _=>exact Nat.succ_pos _
   rw[decide_eq_false (show ¬ ps.map V.ref=[] by simpa using y)]
   have es:=S2.e;fail "";rw[List.length_map];refine⟨wl,ps.length,rfl,S2.we,by lia,by lia,λr1 H3 a1 c1 w3 b3=>?_⟩
   have S3:=S2.take b3 w3;fail "";refine⟨wl,4,rfl,w3,by decide,by decide,λr2 H4 a2 c2 w4 b4=>?_⟩
   have S4:=S3.take b4 w4;clear S2 S3 b3 b4 w3 w4 es s2 e2 u2 hp2;obtain⟨pa,ha,pam⟩:=d8n a1 c1;obtain⟨⟨_,npw,npD⟩,o,ea,lo1,lo2⟩:=S4.rows _ pam;have es:=S4.e;fail "";refine w9 es ha ?_;fail "";rw[List.length_map];refine⟨wl,o.length,rfl,S4.we,by lia,by lia,λr3 H5 a3 c3 w5 b5=>?_⟩
   have S:=S4.take b5 w5;have ea:=b5 _ _ ea npw;clear S4 b5 w5 es;have es:=S.e;fail "";rename_i nX hX;have fin:∀qs H',RS n H wl D qs H'->qs.length<=ps.length->nX [some (.ref wl),some (.ref oa),some (.int n),some (.ref D),some (.int r1),some (.int r2),some (.int r3)] H':=λqs H' S l=>by
    obtain⟨os',R,g,l'⟩:=S.rws;refine c4w hX ?_;clear hX;fail "";exact k D os' H' R g ↑2 S.we S.but
   clear hX;refine a1y (λy0=>?_) (λy0=>?_)
   ·fail ""
    refine w9 es ha ?_;fail "";refine w9 ea (b9x a3 ↑2) ?_;fail "";refine w9 es ha ?_;fail "";refine b9t ea (by rw[List.length_map];exact b9q ↑2 ↑2) ?_
    exact fin ps _ (S.row (o:=o.set r3.toNat _) pam (by rw[List.map_set]) (by rw[List.length_set];exact⟨lo1,lo2⟩)) ↑31
   fail "";refine a1y (λy1=>?_) (λy1=>?_)
   ·fail ""
    refine w9 es ha ?_;fail "";rw[List.length_map];refine a1y (λy2=>?_) (λy2=>?_)
    ·fail ""
     refine w9 es ha ?_;fail "";refine e2z ea a3 (by rw[List.length_map];lia) (by rw[List.length_map];lia) ?_
     fail "";exact fin ps _ (S.row (o:=o.take r3.toNat++5::o.drop r3.toNat) pam (by unfold e3s;rw[List.map_append,List.map_cons,List.map_take,List.map_drop]) (by rw[List.length_append,List.length_cons,List.length_take,List.length_drop];lia)) ↑31
    ·fail ""
     refine a1y (λy3=>absurd (V.int.inj y3) (by have:=V.int.inj y1;lia)) (λy3=>?_)
     fail "";refine b8b es a1 (by rw[List.length_map];exact c1) (by rw[List.length_map];lia) λ_=>?_
     fail "";exact fin (ps.eraseIdx r1.toNat) _ (S.put (by simp[List.eraseIdx_eq_take_drop_succ]) λx hx=>List.mem_of_mem_eraseIdx hx) (List.length_eraseIdx_le ps r1.toNat)
   ·fail ""
    refine a1y (λy2=>?_) (λy2=>?_)
    ·fail ""
     refine w9 es ha ?_;fail "";rw[List.length_map];refine a1y (λy3=>?_) (λy3=>?_)
     ·fail ""
      refine w9 es ha ?_;fail "";refine b8b ea a3 (by rw[List.length_map];lia) (by rw[List.length_map];lia) λ_=>?_
      fail "";exact fin ps _ (S.row (o:=o.eraseIdx r3.toNat) pam (by simp[List.eraseIdx_eq_take_drop_succ]) (by rw[List.length_eraseIdx,if_pos ↑2];lia)) ↑31
     ·fail ""
      refine b8b es a1 (by rw[List.length_map];exact c1) (by rw[List.length_map];lia) λ_=>?_
      fail "";exact fin (ps.eraseIdx r1.toNat) _ (S.put (by simp[List.eraseIdx_eq_take_drop_succ]) λx hx=>List.mem_of_mem_eraseIdx hx) (List.length_eraseIdx_le ps r1.toNat)
    ·fail ""
     refine b8b es a1 (by rw[List.length_map];exact c1) (by rw[List.length_map];lia) λ_=>?_
     fail "";exact fin (ps.eraseIdx r1.toNat) _ (S.put (by simp[List.eraseIdx_eq_take_drop_succ]) λx hx=>List.mem_of_mem_eraseIdx hx) (List.length_eraseIdx_le ps r1.toNat)
theorem e0m{H:Hp}{ps:List Addr}(h:TrE H ps):∃tl,TrV H ps tl:=by
 induction ps with
 | nil=>exact⟨[],rfl,λi p t hp=>by simp at hp⟩
 | cons p ps ih=>
  obtain⟨tl,l,r⟩:=ih λq hq=>h q (List.mem_cons_of_mem _ hq);obtain⟨t,e⟩:=h p List.mem_cons_self;refine⟨t::tl,by rw[List.length_cons,List.length_cons,l],λi q u hq hu=>?_⟩
  cases i with
  | zero=>cases hq;cases hu;exact e
  | succ i=>exact r i q u hq hu
theorem c8t{H:Hp}{n:Nat}{p q:Addr}{xs ys:List V}(ne:p≠q)(hp:H p=some (.lst xs))(hq:H q=some (.lst ys))(hl:xs.length=ys.length)(h:∀(j:Nat) (x y:V),xs[j]?=some x->ys[j]?=some y->EqD K H n x y true):EqD K H (n+1) (.ref p) (.ref q) true:=by
 have z:=EqD.lst (K:=K) (e:=λ_=>true) ne (SqL.of hp) (SqL.of hq) hl h;rw[show(List.range xs.length).all (λ_=>true)=true by simp] at z
 exact z
theorem d9t{H H1 H2:Hp}{D q:Addr}{os:List ↑26}(nr:NewRows H H1 D os)(s:SamP H1 H2)(R:Rws H q os):EqD K H2 2 (.ref D) (.ref q) true:=by
 obtain⟨hD,s1,ps,e1,l1,r1⟩:=nr;obtain⟨qs,e,l,r⟩:=R;refine c8t (i4 e hD).symm (s _ _ e1 rfl) (s _ _ (s1 _ _ e) rfl) (by rw[List.length_map,List.length_map,l1,l]) λj u v hu hv=>?_
 rw[List.getElem?_map] at hu hv;cases eu:ps[j]? with
 | none=>rw[eu] at hu;cases hu
 | some x=>
  cases ev:qs[j]? with
  | none=>rw[ev] at hv;cases hv
  | some y=>
   rw[eu] at hu;rw[ev] at hv;cases hu;cases hv;have hj:j<os.length:=by rw[<- l1];exact(List.getElem?_eq_some_iff.mp eu).1
   obtain⟨a1,a2,a3⟩:=r1 j x _ eu (List.getElem?_eq_getElem hj);have b2:=r j y _ ev (List.getElem?_eq_getElem hj);have h:=c2j (K:=K) (i4 b2 a1).symm (SqL.of (s _ _ a3 rfl)) (SqL.of (s _ _ (s1 _ _ b2) rfl)) (a9e _) (a9e _);rw[c2k,decide_eq_true (Eq.refl _)] at h;exact h
theorem d6o{H:Hp}{p q:Addr}{ps:List Addr}(ne:p≠q)(hp:H p=some (.lst (ps.map V.ref)))(hq:H q=some (.lst (ps.map V.ref)))(h:TrE H ps):EqD K H 2 (.ref p) (.ref q) true :=
 c8t ne hp hq rfl λj u v hu hv=>by
  rw[hu] at hv;cases hv;rw[List.getElem?_map] at hu;cases eu:ps[j]? with
  | none=>rw[eu] at hu;cases hu
  | some x=>
   rw[eu] at hu;cases hu;obtain⟨t,e⟩:=h x (List.mem_of_getElem? eu);exact EqD.self (SqT.of e)
theorem Rws.samP{H H':Hp}{a:Addr}{os:List ↑26}(h:Rws H a os)(s:SamP H H'):Rws H' a os:=by
 obtain⟨ps,e,l,r⟩:=h;exact⟨ps,s _ _ e rfl,l,λi p o hp ho=>s _ _ (r i p o hp ho) rfl⟩
theorem TrE.samP{H H':Hp}{ps:List Addr}(h:TrE H ps)(s:SamP H H'):TrE H' ps:=λp hp=>by
 obtain⟨t,e⟩:=h p hp;exact⟨t,s _ _ e rfl⟩
def b5c:Sp:=λvs H Q _=>∃(n:Nat)(oa ta:Addr)(os:List ↑26)(ps:List Addr),vs=[.int n,.ref oa,.ref ta]/\2<=n/\n<=8/\Rws H oa os/\(∀o∈os,1<=o.length/\o.length<=n)/\os.length<=400/\H ta=some (.lst (ps.map V.ref))/\TrE H ps/\ps.length<=4000/\∀H',SamP H H'->Q (.bl true) H'
abbrev b1g:Stmt:=top 126
theorem a5f:g2 ["size","orders","trail","handed","row","found"] ["size","orders","trail"] (d7 b1g):=↑1
theorem c4a(D:DefT K mg "_law_right" b1g ["size","orders","trail"])(T:↑18)(kB:kitOne K (.type "bool") (.type "bool")=some true)(G_trail_good:↑901 "trail_good" 11 ["size","orders","trail"] (a6n cl))(G_law_due:↑901 "_law_due" 4 ["size","orders","trail"] b9e):↑901 "_law_right" 12 ["size","orders","trail"] b5c:=by
 refine D.fn a5f ↑7 ↑3
 ·obtain⟨n,oa,ta,os,ps,rfl,n2,n8,R,ho,hz,eta,ht,lp,k⟩:=h
  refine⟨_,(b9 (a6i (ix:=3) (N:=["order"]) (nt:=1) (fr:=[]) rfl (a9v rfl rfl (by decide +kernel) (by decide +kernel) rfl rfl) (a0r (K:=K) (pv 1)) (a7i ↑4) (λ_ _ _ _ _=>o9 (i:=0) (show(["order"]:List Str).Nodup by decide +kernel) rfl (Or.inl rfl) (Or.inr rfl)) (λ_ _ _ _ _=>(m9 (a0e (K:=K)) (by rfl) T.z_list PyProof.Rows.boot_list ↑16)) a5f.nd rfl rfl)
   (b9 (i6 (i:=4) a5f.nd rfl ↑23 (m9 (a0e (K:=K)) (by rfl) T.z_list PyProof.Rows.boot_list (a9 (pv 2) d9)))
   (b9 (i6 (i:=5) a5f.nd rfl ↑23 (i5 G_trail_good hr ↑4 rfl g4 (a9 (pv 0) (a9 (pv 3) (a9 (pv 4) d9)))))
   (b9 (m4 (PW.pt (c1e (b9i (a6h (k0 (d3v (K:=K)) (by rfl) T.z_isinstance PyProof.Rows.boot_isinstance (a9 (pv 5) (a9 (e1o T.z_bool PyProof.Rows.boot_bool rfl) d9))))) (b3c (g9 d1z (pv 5) (i5 G_law_due hr ↑4 rfl g4 (a9 (pv 0) (a9 (pv 1) (a9 (pv 2) d9)))) ↑32))))
     ↑37
     m3)
   (d5 (i9 (c3m (a0w (b9k (K:=K) (n:=1) (huN hr 2)) (pv 3) (pv 1) ↑32) (b9j (a0w (b9k (K:=K) (n:=1) (huN hr 2)) (pv 4) (pv 2) ↑32))))))))),?_⟩
  have h60:6000000<=sizeLine:=by decide
  obtain⟨qs,eo,ql,qr⟩:=id R;obtain⟨tl,hv⟩:=e0m ht;fail "";refine a4e (xs:=qs.map V.ref) (by rw[List.length_map];lia) (RP H os) (λD hD=>RP.new hD) ?_ ?_ ?_
  ·rintro D i acc H' ⟨e,s,qs',rfl,hq,_⟩
   exact⟨e,by rw[List.length_map];exact hq,SqL.of (s _ _ eo)⟩
  ·intro D i x acc H' hD hx hp
   rw[List.getElem?_map] at hx;cases hpi:qs[i]? with
   | none=>rw[hpi] at hx;cases hx
   | some q=>
    rw[hpi] at hx;cases hx;have hi:i<os.length:=by rw[<- ql];exact(List.getElem?_eq_some_iff.mp hpi).1
    have hoi:=List.getElem?_eq_getElem hi;have eq:=hp.2.1 _ _ (qr i q _ hpi hoi);fail "";exact λp hpn=>hp.push hD hoi hpn
  intro D acc H1 hD hp;rw[List.length_map,ql] at hp;have nr:=hp.done hD;have s1:=nr.2.1;have eta1:=s1 _ _ eta;clear hp;fail "";intro p2 hp2;generalize u2:upd H1 p2 _=H2;obtain⟨s2,e2⟩:=nwS u2 hp2;have s02:=s1.trans s2;fail "";refine⟨n,D,p2,os,ps,tl,rfl,n2,n8,nr.rws.samP (.of s2),ho,hz,e2,hv.same (.of s02),by rw[<- hv.1];exact lp,λH3 s3=>?_⟩
  fail "";refine e5d (.ty (.bl _)) rfl kB ?_;fail "";have s03:=s02.trans s3;refine⟨n,oa,ta,os,ps,tl,rfl,n2,n8,R.samP (.of s03),ho,hz,s03 _ _ eta,hv.same (.of s03),by rw[<- hv.1];exact lp,λH4 s4=>?_⟩
  have s04:SamP H H4:=SamP.trans (.of s03) s4;have nra:=d9t (K:=K) nr ((SamP.of (s2.trans s3)).trans s4) R;have nrb:=d6o (K:=K) (i4 eta1 hp2).symm (s4 _ _ (s3 _ _ e2) rfl) (s04 _ _ eta rfl) (ht.samP s04);fail "";rw[decide_eq_true (Eq.refl _)];fail "";refine d3i nra ?_;fail "";refine d3i nrb ?_;exact k _ s04
theorem _root_.L2.pa_consL{X:Cx}{es0 es:List Expr}{pos:Pos}{te:TE}{t:TA}(ha:PE X (.List es0 pos) te)(hr:PA X es t):PA X (.List es0 pos::es) (d4u te t):=a9 ha hr
def OrdP(w:Addr)(n:Int)(H:Hp)(D:Addr)(i:Nat)(acc:List V)(H':Hp):Prop:=∃(ps:List Addr)(os:List ↑26),acc=ps.map V.ref/\ps.length=i/\os.length=i/\H' D=some (.lst acc)/\Well H' w/\But w H H'/\(∀o∈os,1<=o.length/\(o.length:Int)<=n/\∀x∈o,c7m x) /\
 ∀(j:Nat)(p:Addr)(o:List Int),ps[j]?=some p->os[j]?=some o->p≠D/\p≠w/\H' p=some ↑36
theorem OrdP.zero{w D:Addr}{n:Int}{H:Hp}(hw:Well H w)(hD:H D=none):OrdP w n H D 0 [] (upd H D (.lst [])) :=
 ⟨[],[],rfl,rfl,rfl,d6,hw.same (g3 hD),But.of (g3 hD),by simp,by simp⟩
theorem OrdP.has{w D:Addr}{n:Int}{H H':Hp}{i:Nat}{acc:List V}(h:OrdP w n H D i acc H'):H' D=some (.lst acc)/\acc.length=i:=by
 obtain⟨ps,os,rfl,l1,l2,e,_⟩:=h;exact⟨e,by rw[List.length_map];exact l1⟩
theorem OrdP.well{w D:Addr}{n:Int}{H H':Hp}{i:Nat}{acc:List V}(h:OrdP w n H D i acc H'):Well H' w:=by
 obtain⟨ps,os,rfl,l1,l2,e,z,_⟩:=h;exact z
theorem OrdP.step{w D p:Addr}{n:Int}{H H' H3:Hp}{i:Nat}{acc:List V}{row:List Int}(hw0:Well H w)(hD:H D=none)(h:OrdP w n H D i acc H')(hp:H' p=none)(ep:H3 p=some (.lst (row.map V.int)))(l1:1<=row.length)(l2:(row.length:Int)<=n)(sm:∀x∈row,c7m x)(w3:Well H3 w)(b3:But w H' H3):
  H3 D=some (.lst acc)/\OrdP w n H D (i+1) (acc++[.ref p]) (upd H3 D (.lst (acc++[.ref p]))):=by
 obtain⟨ps,os,rfl,lp,lo,e,w1,b1,g,r⟩:=h;have nD:D≠w:=hw0.ne hD;have e3:=b3 _ _ e nD;have npD:p≠D:=(i4 e hp).symm;have npw:p≠w:=w1.ne hp;refine⟨e3,ps++[p],os++[row],by rw[List.map_append];rfl,by rw[List.length_append,lp];rfl,by rw[List.length_append,lo];rfl,d6,?_,?_,?_,?_⟩
 ·obtain⟨a,b,c,z,zz⟩:=w3
  exact⟨a,b,c,(c9 nD.symm).trans z,zz⟩
 ·intro c o ec nc
  rw[c9 (i4 ec hD)];exact b3 _ _ (b1 _ _ ec nc) nc
 ·intro o ho
  rcases List.mem_append.mp ho with ho|ho
  ·exact g o ho
  ·rw[List.mem_singleton.mp ho]
   exact⟨l1,l2,sm⟩
 ·intro j q o hq ho
  by_cases hj:j<i
  ·rw[List.getElem?_append_left ↑2] at hq ho
   obtain⟨n1,n2,z⟩:=r j q o hq ho;exact⟨n1,n2,by rw[c9 n1];exact b3 _ _ z n2⟩
  ·have hj':j=i:=by
    have:=(List.getElem?_eq_some_iff.mp hq).1;rw[List.length_append,lp] at this;have:j<i+1:=this;lia
   subst hj';rw[List.getElem?_append_right ↑2,lp,Nat.sub_self] at hq;rw[List.getElem?_append_right ↑2,lo,Nat.sub_self] at ho;cases hq;cases ho;exact⟨npD,npw,by rw[c9 npD];exact ep⟩
def e7m(w:Addr)(H:Hp)(a:Addr)(os:List ↑26):Prop:=∃ps:List Addr,H a=some (.lst (ps.map V.ref))/\a≠w/\ps.length=os.length/\∀(i:Nat)(p:Addr)(o:List Int),ps[i]?=some p->os[i]?=some o->p≠w/\H p=some ↑36
theorem OrdP.rws{w D:Addr}{n:Int}{H H':Hp}{i:Nat}{acc:List V}(hw0:Well H w)(hD:H D=none)(h:OrdP w n H D i acc H'):∃os:List ↑26,e7m w H' D os/\os.length=i/\(∀o∈os,1<=o.length/\(o.length:Int)<=n/\∀x∈o,c7m x)/\Well H' w/\But w H H':=by
 obtain⟨ps,os,rfl,lp,lo,e,w1,b1,g,r⟩:=h;exact⟨os,⟨ps,e,hw0.ne hD,by lia,λj p o hp ho=>(r j p o hp ho).2⟩,lo,g,w1,b1⟩
def TrL(H:Hp)(ps:List Addr)(tl:List Tr):Prop:=ps.length=tl.length/\∀(i:Nat)(p:Addr)(t:Tr),ps[i]?=some p->tl[i]?=some t->H p=some (d4h t)
def b2q(cl:Cl):Sp:=λvs H Q _=>ExN λla A L tl=>vs=[.ref la]/\LN cl H la A L tl/\∀p ps,H p=none->TrL H ps tl->Q (.ref p) (upd H p (.lst (ps.map V.ref)))
noncomputable abbrev a8o:Stmt:=m8 (top 100) 13
theorem c0v:g2 ["self"] ["self"] (d7 a8o):=↑1
theorem c1u(D:DefM K cl.Lane "trail" "Lane.trail" a8o ["self"])(T:↑18):↑904 cl.Lane "trail" 1 ["self"] (b2q cl):=by
 refine D.fn c0v ↑7 ↑3
 ·obtain⟨la,A,L,tl,rfl,hN,k⟩:=h
  refine⟨_,(d5 (i9 (m9 (a0e (K:=K)) (by rfl) T.z_list PyProof.Rows.boot_list ↑45))),?_⟩
  obtain⟨dx,ex⟩:=hN.ob;obtain⟨_,_,_,_,hL,_⟩:=id hN.lr;obtain⟨ps,e,l,r⟩:=hL.tr;fail "";intro p hp;exact k p ps hp ⟨l,λi q t hq ht=>(r i q t hq ht).2.2⟩
structure LW(cl:Cl)(H0 H:Hp)(la:Addr)(L:Ln)(tl:List Tr)(F:Addr->Prop)(A:Ad):Prop where
 lp:LP cl H F la A L tl
 same:SamP H0 H
 off:∀x o,H0 x=some o->kpB o=true->¬ F x
theorem LW.go{H0 H J:Hp}{la:Addr}{A A':Ad}{L L':Ln}{tl tl':List Tr}{F:Addr->Prop}(h:LW cl H0 H la L tl F A)(ot:Out J (rs F H) H)(n:LN cl J la A' L' tl')(fo:A'.fo=A.fo):LW cl H0 (jn J (rs F H) H) la L' tl' (c8r J) A' :=
 ⟨LP.behind ot n (by rw[fo];exact h.lp.nf),(b6z h.same h.off ot).1,(b6z h.same h.off ot).2⟩
theorem LW.grow{H0 H H':Hp}{la:Addr}{A:Ad}{L:Ln}{tl:List Tr}{F:Addr->Prop}(h:LW cl H0 H la L tl F A)(m:Same H H'):LW cl H0 H' la L tl F A :=
 ⟨h.lp.kp λx o e _ _=>m x o e,h.same.trans (.of m),h.off⟩
theorem LW.but{H0 H H':Hp}{la wl:Addr}{A:Ad}{L:Ln}{tl:List Tr}{F:Addr->Prop}(h:LW cl H0 H la L tl F A)(nF:¬ F wl)(w:Well H wl)(n0:∀o,H0 wl=some o->kpB o=false)(b:But wl H H'):LW cl H0 H' la L tl F A:=by
 obtain⟨x,y,z,e,_⟩:=w;refine⟨h.lp.kp λp o e' _ q=>b p o e' λz=>?_,λp o e' n=>b p o (h.same p o e' n) λz=>?_,h.off⟩
 ·subst z
  rcases q with q|q
  ·exact nF q
  ·rw[e] at e';cases e';cases q
 ·subst z
  rw[n0 o e'] at n;cases n
theorem LW.shown{H0 H H':Hp}{la q:Addr}{A:Ad}{L:Ln}{tl:List Tr}{F:Addr->Prop}{u:List V}(h:LW cl H0 H la L tl F A)(hq:H q=none)(m:Same H H')(e:H' q=some (.lst u)):LW cl H0 H' la L tl (λx=>F x\/x=q) A/\rs (λx=>F x\/x=q) H' q=some (.lst u):=by
 have h1:=h.grow m;refine⟨⟨⟨(h1.lp.ln.ow h1.lp.nf).same λx o e=>?_,λx hx=>?_,h1.lp.nf⟩,h1.same,λx o e n hx=>?_⟩,b5x e (λ_ z=>nomatch z) (.inl (.inr rfl))⟩
 ·obtain⟨e1,nn⟩:=d5h e
  have eH:=c9p e1;refine b5x eH (a9b nn) ?_;by_cases z:F x\/b8i (H' x)=true
  ·exact z.imp .inl id
  ·rw[c3k eH (a9b nn) z] at e1;cases e1
 ·rcases hx with hx|rfl
  ·exact h1.lp.dom x hx
  ·exact⟨_,e,rfl,λ_ z=>nomatch z⟩
 ·rcases hx with hx|hx
  ·exact h.off x o e n hx
  ·rw[hx] at e
   rw[h.same _ _ e n] at hq;cases hq
abbrev c1b:Stmt:=top 127
theorem a3l:g2 ["script","first","size","orders","lane","order","many","k","well","trail","rows","row"] ["script"] (d7 c1b):=↑1
theorem e1u{fa:Addr}{fd:FuncData}(D:Fun K "law" "law" c1b fa fd)(T:↑18)(G_law_take:↑901 "_law_take" 1 ["well","many"] a2t)(G_law_well:↑901 "_law_well" 1 ["script","k"] (b6n K))(G_law_order:↑901 "_law_order" 2 ["well","size"] a7r)(G_Lane:MakeT P w K mg base "Lane" cl.Lane 6 ["self","size"] (frS (a7u cl)))(LS:↑904 cl.Lane "step" 9 ["self","hand"] (frS (a7t cl)))(G_Lane_hand_in:↑904 cl.Lane "hand_in" 3 ["self","order"] (frS (a4l cl)))(G_Lane_trail:↑904 cl.Lane "trail" 1 ["self"] (b2q cl))(G_trail_good:↑901 "trail_good" 11 ["size","orders","trail"] (a6n cl))(G_law_right:↑901 "_law_right" 12 ["size","orders","trail"] b5c)(G_law_orders_spoilt:↑901 "_law_orders_spoilt" 3 ["well","orders","size"] a3x)(G_law_trail_spoilt:↑901 "_law_trail_spoilt" 3 ["well","trail","size"] a4g):
  FnOk P w K mg base (CXK P w) 13 fa fd ["script"] (c7r K):=by
 refine D.okX a3l ↑7 (λcdv A' outer s H vs Q E hr h=>?_)
 ·obtain⟨sa,ns,rfl,hS,hlen,k⟩:=h
  refine⟨_,(b9 (i6 (i:=1) a3l.nd rfl (.inr rfl) (i5 G_law_well hr ↑4 rfl g4 (a9 (pv 0) ↑22)))
   (b9 (i6 (i:=2) a3l.nd rfl (.inr rfl) (g7 j9 d8 (i5 G_law_take hr ↑4 rfl g4 (a9 (pv 1) ↑22))))
   (b9 (a6i (ix:=3) (N:=["k","size","first"]) (nt:=1) (fr:=[2,1]) rfl (d6r (i:=2) (j:=1) rfl rfl (by decide +kernel) (by decide +kernel) rfl rfl rfl rfl rfl rfl rfl rfl rfl rfl rfl rfl) (a8v rfl T.z_range (a9 (i5 G_law_take hr ↑4 rfl g4 (a9 (pv 1) ↑22)) d9)) (a7i ↑4) (λ_ _ _ _ _=>o9 (i:=0) (show(["k","size","first"]:List Str).Nodup by decide +kernel) rfl (Or.inl rfl) (Or.inr rfl)) (λ_ _ _ _ _=>(i5 G_law_order hr ↑4 rfl d5g (a9 (pv 2) ↑15))) a3l.nd rfl rfl)
   (b9 (i6 (i:=4) a3l.nd rfl ↑23 (d1u G_Lane hr ↑4 rfl g4 (a9 (pv 2) d9)))
   (b9 (b0n a2m rfl (a0r (K:=K) (pv 3)) (o9 (i:=5) a3l.nd rfl ↑23)
     (d5 (i3 (a3m (pv 4) T.k_Lane G_Lane_hand_in hr ↑4 g4 (a9 (m9 (a0e (K:=K)) (by rfl) T.z_list PyProof.Rows.boot_list (a9 (pv 5) d9)) d9)))))
   (b9 (i6 (i:=6) a3l.nd rfl ↑23 (@l7 _ _ _ _ _ _ _ ↑12 (@k8 _ _ _ _ (a9 (i5 G_law_take hr ↑4 rfl g4 (a9 (pv 1) ↑22)) (a9 (g7 j9 d8 (i5 G_law_take hr ↑4 rfl g4 (a9 (pv 1) ↑22))) d9))) (m9 a2p (by rfl) T.z_int PyProof.Rows.boot_int (a9 (a0w v3 (i5 G_law_take hr ↑4 rfl g4 (a9 (pv 1) ↑22)) d8 ↑32) d9)) ↑10))
   (b9 (b0n a2m rfl (a8v rfl T.z_range (a9 (pv 6) d9)) (o9 (i:=7) a3l.nd rfl ↑23)
     (
     b9 (i6 (i:=8) a3l.nd rfl ↑23 (i5 G_law_well hr ↑4 rfl g4 (a9 (pv 0) (a9 (g7 j9 d8 (g7 a0f (pv 7) (k0 (d3t rfl) (by rfl) T.z_max PyProof.Rows.boot_max (a9 d8 (a9 (k0 (d3s rfl) (by rfl) T.z_min PyProof.Rows.boot_min (a9 d8 (a9 (g7 a3n (k0 ↑34 (by rfl) T.z_len PySem.boot_len ↑16) d8) d9))) d9))))) d9))))
     (d5 (i3 (c7z (k:=9) (pv 4) hr ↑4 g4 (a9 (@l7 _ _ _ _ _ _ _ ↑12 (@k8 _ _ _ _ ↑21) (g7 a0f (g7 j9 (i5 G_law_take hr ↑4 rfl g4 (a9 (pv 8) (a9 (g7 j9 d8 (pv 7)) d9))) (pv 7)) d8) ↑10) d9))))))
   (b9 (i6 (i:=9) a3l.nd rfl ↑23 (c8a (pv 4) T.k_Lane G_Lane_trail hr ↑4 g4))
   (b9 (a6i (ix:=10) (N:=["order"]) (nt:=1) (fr:=[]) rfl (a9v rfl rfl (by decide +kernel) (by decide +kernel) rfl rfl) (a0r (K:=K) (pv 3)) (a7i ↑4) (λ_ _ _ _ _=>o9 (i:=0) (show(["order"]:List Str).Nodup by decide +kernel) rfl (Or.inl rfl) (Or.inr rfl)) (λ_ _ _ _ _=>(m9 (a0e (K:=K)) (by rfl) T.z_list PyProof.Rows.boot_list ↑16)) a3l.nd rfl rfl)
   (b9 (m4 (PW.pt (c1e (g9 d2a (i5 G_trail_good hr ↑4 rfl g4 (a9 (pv 2) (a9 (pv 10) (a9 (m9 (a0e (K:=K)) (by rfl) T.z_list PyProof.Rows.boot_list (a9 (pv 9) d9)) d9)))) e1q ↑32) (b3c (b9i (a6h (i5 G_law_right hr ↑4 rfl g4 (a9 (pv 2) (a9 (pv 3) (@pa_consL _ _ _ _ _ _ (@k8 _ _ _ _ d9) d9)))))))))
     ↑37
     m3)
   (b9 (b0n a2m rfl (a8v rfl T.z_range (a9 (@l7 _ _ _ _ _ _ _ ↑12 (@k8 _ _ _ _ (a9 d8 ↑22)) (m9 a2p (by rfl) T.z_int PyProof.Rows.boot_int (a9 (a0w b8q (pv 6) d8 ↑32) d9)) ↑10) d9)) (o9 (i:=7) a3l.nd rfl ↑23)
     (
     b9 (i6 (i:=8) a3l.nd rfl ↑23 (i5 G_law_well hr ↑4 rfl g4 (a9 (pv 0) (a9 (g7 j9 d8 (pv 7)) d9))))
     (b9 (i6 (i:=10) a3l.nd rfl ↑23 (pv 3))
     (b9 (i6 (i:=11) a3l.nd rfl ↑23 (pv 9))
     (b9 (m4 (g9 v3 (i5 G_law_take hr ↑4 rfl g4 (a9 (pv 8) ↑22)) d8 ↑32)
       (d5 (i6 (i:=10) a3l.nd rfl ↑23 (i5 G_law_orders_spoilt hr ↑4 rfl g4 (a9 (pv 8) (a9 (pv 3) (a9 (pv 2) d9))))))
       (d5 (i6 (i:=11) a3l.nd rfl ↑23 (i5 G_law_trail_spoilt hr ↑4 rfl g4 (a9 (pv 8) (a9 (pv 9) (a9 (pv 2) d9)))))))
     (d5 (m4 (b9i (a6h (i5 G_law_right hr ↑4 rfl g4 (a9 (pv 2) (a9 (pv 10) (a9 (pv 11) d9))))))
      ↑37
      m3)))))))
   ↑37))))))))))),?_⟩
  have h60:6000000<=sizeLine:=by decide
  fail "";refine⟨sa,ns,0,rfl,hS,by lia,λwl H1 nwl s1 w1=>?_⟩
  fail "";refine⟨wl,7,rfl,w1,by decide,by decide,λr2 H2 a2 c2 w2 b2=>?_⟩
  obtain⟨n,en⟩:∃n:Nat,(n:Int)=2+r2:=⟨(2+r2).toNat,by lia⟩
  fail "";rw[<- en];refine⟨wl,9,rfl,w2,by decide,by decide,λr3 H3 a3 c3 w3 b3=>?_⟩
  have s03:Same H H3:=λx o e=>by
   have nx:x≠wl:=λz=>by rw[z,nwl] at e;cases e
   exact b3 _ _ (b2 _ _ (s1 _ _ e) nx) nx
  fail "";refine d0n (n:=r3.toNat) ↑2 (OrdP wl n H3) (λD hD=>OrdP.zero w3 hD) (λD i acc H' z=>z.has) (λD i acc H' hD hi z=>?_) (λoa acc H4 hoa z=>?_)
  ·fail ""
   refine⟨wl,n,rfl,z.well,by lia,by lia,λp H5 row hp ep l1 l2 sm w5 b5=>?_⟩
   exact z.step w3 hD hp ep l1 l2 sm w5 b5
  obtain⟨os,hR,lo,go_,w4,b4⟩:=z.rws w3 hoa;have s04:Same H H4:=λx o e=>b4 _ _ (s03 _ _ e) (λz=>by rw[z,nwl] at e;cases e)
  have ho:∀o∈os,1<=o.length/\o.length<=n:=λo h=>by have:=go_ o h;lia
  have lo9:os.length<=8:=by lia
  clear z b2 b3 b4 s1 w1 w2 w3 s03 go_ lo hoa;fail "";intro la dx hla hdx ne;have sm:=b2f (u:=.own la) (o:=.ins cl.Lane dx []) hla hdx ne;have ela:upd (upd H4 dx (.own la)) la (.ins cl.Lane dx []) la=some (.ins cl.Lane dx []):=d6;generalize upd (upd H4 dx _) la _=G at *;refine⟨rs (λy=>y=la) G,c7u _ G,la,dx,n,rfl,b5x ela (λ_ z=>nomatch z) ↑23,by lia,by lia,λ_=>False,(λx hx=>hx.elim),λA J eF N _ _ _ ot=>⟨rfl,?_⟩⟩
  obtain⟨H0,eH0⟩:∃H0:Hp,H0=λx=>if x=wl then none else H4 x:=⟨_,rfl⟩;have m0:∀x o,H0 x=some o->H4 x=some o:=λx o e=>by
   rw[eH0] at e;dsimp only at e;split at e
   ·cases e
   ·exact e
  have i0:∀x o,H4 x=some o->x≠wl->H0 x=some o:=λx o e z=>by rw[eH0];exact(if_neg z).trans e
  have n0:∀o,H0 wl=some o->kpB o=false:=λo e=>by
   rw[eH0] at e;dsimp only at e;rw[if_pos rfl] at e;cases e
  have out:=b6z (H0:=H0) (F:=λy=>y=la) (λx o e _=>sm _ _ (m0 x o e)) (λx o e _ z=>by rw[z] at e;rw[m0 _ _ e] at hla;cases hla) ot
  have W:LW cl H0 (jn J (rs (λy=>y=la) G) G) la (c3n n (os.take 0)) [] (c8r J) A:=⟨LP.behind ot N (λx hx=>by rw[eF] at hx;exact hx),out.1,out.2⟩
  have sq0:SqL K H0 sa (ns.map V.int):=Same.seq (λx o e=>i0 x o (s04 x o e) λz=>by rw[z,nwl] at e;cases e) hS
  obtain⟨ps,eo0,pl,pr⟩:Rws H0 oa os:=by
   obtain⟨ps,e,z,l,r⟩:=hR;exact⟨ps,i0 _ _ e z,l,λi p o hp h=>i0 _ _ (r i p o hp h).2 (r i p o hp h).1⟩
  have w5:Well (jn J (rs (λy=>y=la) G) G) wl/\¬ c8r J wl:=by
   obtain⟨x,y,z,e,q⟩:=w4;obtain⟨a,b⟩:=d2n (sm _ _ e) (λz:wl=la=>by rw[z,hla] at e;cases e) ot
   exact⟨⟨x,y,z,a,q⟩,b⟩
  generalize jn J (rs (λy=>y=la) G) G=H5 at *;generalize c8r J=F at *;clear eH0 m0 i0 out ot N eF ela sm hla hdx ne hR w4 s04 hS nwl;have eo5:=W.same _ _ eo0 rfl;fail "";refine for_listH (xs:=ps.map V.ref) (λi σ H'=>∃(F:Addr->Prop)(A:Ad)(x5:Option V),σ=[some (.ref sa),some (.ref wl),some (.int n),some (.ref oa),some (.ref la),x5,none,none,none,none,none,none]/\LW cl H0 H' la (c3n n (os.take i)) [] F A/\Well H' wl/\¬ F wl) ⟨F,A,_,rfl,W,w5⟩ ?_ ?_ ?_
  ·rintro i σ H' _ ⟨F,A,x5,_,W,_⟩
   exact SqL.of (W.same _ _ eo0 rfl)
  ·clear W w5 eo5
   rintro i x σ H' hx ⟨F,A,x5,rfl,W,wx,nF⟩;rw[List.getElem?_map] at hx;cases hpi:ps[i]? with
   | none=>rw[hpi] at hx;cases hx
   | some q=>
    rw[hpi] at hx;cases hx;have hi:i<os.length:=by rw[<- pl];exact(List.getElem?_eq_some_iff.mp hpi).1
    have hoi:=List.getElem?_eq_getElem hi;have eq:=W.same _ _ (pr i q _ hpi hoi) rfl;obtain⟨l1,l2⟩:=ho _ (List.getElem_mem hi);have NA:=W.lp.all;obtain⟨dxl,el⟩:=NA.ob;obtain⟨o1,o2⟩:=a8w n (os.take i);fail "";intro p hp;obtain⟨W2,eq2⟩:=W.shown hp (g3 hp) d6;have w2:=wx.same (g3 (o:=.lst (os[i].map V.int)) hp);have nwp:¬ (F wl\/wl=p):=λz=>z.elim nF λz=>by obtain⟨o,e⟩:=wx.at;rw[z,hp] at e;cases e
    generalize upd H' p _=H2 at *;refine⟨rs (λx=>F x\/x=p) H2,c7u _ H2,la,A,_,[],p,os[i],rfl,W2.lp.ln,eq2,l1,by rw[o1];exact l2,by rw[o2,List.length_take];lia,λJ3 N3 _ ot=>?_⟩
    have W3:=W2.go ot N3 rfl;rw[<- c8c,show os.take i++[os[i]]=os.take (i+1) by rw[List.take_add_one,hoi];rfl] at W3
    have w3:Well (jn J3 (rs (λx=>F x\/x=p) H2) H2) wl/\¬ c8r J3 wl:=by
     obtain⟨x,y,z,e,q⟩:=w2;obtain⟨a,b⟩:=d2n e nwp ot;exact⟨⟨x,y,z,a,q⟩,b⟩
    fail "";exact⟨_,_,_,rfl,W3,w3⟩
  clear W w5 eo5;rintro σ H6 ⟨F,A,x5,rfl,W,wx,nF⟩;rw[List.length_map,pl,List.take_length] at W;fail "";refine⟨wl,121,rfl,wx,by decide,by decide,λr7 H7 a7 c7 w7 b7=>?_⟩
  have W7:=W.but nF wx n0 b7;fail "";refine⟨wl,900,rfl,w7,by decide,by decide,λr8 H8 a8 c8 w8 b8=>?_⟩
  have W8:=W7.but nF w7 n0 b8;fail "";refine⟨(show 2<=sizeLine by lia),λp9 hp9=>?_⟩
  generalize u9:upd H8 p9 _=H9;obtain⟨s9,e9⟩:=nwS u9 hp9;have np9:p9≠wl:=λz=>by obtain⟨o,e⟩:=w8.at;rw[<- z,hp9] at e;cases e
  fail "";refine⟨wl,8,rfl,w8.same s9,by decide,by decide,λrA HA aA cA wA bA=>?_⟩
  have WA:=(W8.grow s9).but nF (w8.same s9) n0 bA;have eA:=bA _ _ e9 np9;fail "";refine .inr ⟨_,rfl,?_⟩;obtain⟨mn,hmn,m0,m1⟩:∃mn:Int,atI [V.int r7,.int (300+r8)] (if decide (V.int rA=V.int 0)=true then 1 else 0)=some (.int mn)/\0<=mn/\mn<=1200:=by
   split
   ·exact⟨_,rfl,by lia,by lia⟩
   ·exact⟨_,rfl,by lia,by lia⟩
  refine w9 eA hmn ?_;clear W W7 W8 w7 w8 wA b7 b8 bA s9 e9 u9 hp9 np9 eA hmn wx nF a7 c7 a8 c8 aA cA;fail "";refine a9u (n:=mn.toNat) (λi σ H'=>∃(F:Addr->Prop)(A:Ad)(L:Ln)(tl:List Tr)(x7 x8:Option V),σ=[some (.ref sa),some (.ref wl),some (.int n),some (.ref oa),some (.ref la),x5,some (.int mn),x7,x8,none,none,none]/\LW cl H0 H' la L tl F A/\L.os=os/\tl.length<=i/\∀r,b2j (c3n n os) (tl.map d0p++r)=b2j L r) ⟨F,A,_,[],_,_,rfl,WA,(a8w n os).2,Nat.le_refl _,λr=>rfl⟩ ?_ ?_
  ·clear WA
   rintro i σ H' hi ⟨F,A,L,tl,x7,x8,rfl,W,eos,lt,hg⟩;have sq:=(show SqL K H' sa (ns.map V.int) from by
    rcases sq0 with (h|⟨o,h⟩)|h
    ·exact .inl (.inl (W.same _ _ h rfl))
    ·exact .inl (.inr ⟨o,W.same _ _ h rfl⟩)
    ·exact .inr h)
   fail "";refine⟨sa,_,rfl,.inl sq,?_⟩;fail "";refine⟨_,_,rfl,?_⟩;fail "";refine⟨_,_,rfl,?_⟩;obtain⟨m,hm,em⟩:∃m:Nat,(1<=m/\m<=62)/\(if (if ((ns.map V.int).length:Int)-1<62 then ((ns.map V.int).length:Int)-1 else 62) > 1 then (if ((ns.map V.int).length:Int)-1<62 then ((ns.map V.int).length:Int)-1 else 62) else 1)=(m:Int):=by
    generalize (ns.map V.int).length=l;refine⟨(if (if (l:Int)-1<62 then (l:Int)-1 else 62) > 1 then (if (l:Int)-1<62 then (l:Int)-1 else 62) else 1).toNat,?_,?_⟩
    ·split <;> split <;> lia
    ·split <;> split <;> lia
   rw[em];fail "";have hml:=Nat.mod_lt i (show 0<m by lia)
   refine⟨sa,ns,1+i % m,by rw[Int.zero_add];push_cast;rfl,sq,by lia,λwk H2 nwk s2 wwk=>?_⟩
   have W2:=W.grow s2;have nFk:¬ F wk:=W.lp.no nwk;have n0k:∀o,H0 wk=some o->kpB o=false:=λo e=>by
    cases z:kpB o with
    | false=>rfl
    | true=>rw[W.same _ _ e z] at nwk;cases nwk
   obtain⟨dxl,el⟩:=W2.lp.all.ob;clear W sq em;fail "e";refine⟨la,cl.Lane,dxl,_,_,_,rfl,el,rfl,T.k_Lane,LS,?_⟩;fail "";refine⟨(show 2<=sizeLine by lia),λp3 hp3=>?_⟩
   generalize u3:upd H2 p3 _=H3;obtain⟨s3,e3⟩:=nwS u3 hp3;have np3:p3≠wk:=λz=>by obtain⟨o,e⟩:=wwk.at;rw[<- z,hp3] at e;cases e
   fail "";refine⟨wk,_,rfl,wwk.same s3,by lia,by lia,λr4 H4 a4 c4 w4 b4=>?_⟩
   have W4:=(W2.grow s3).but nFk (wwk.same s3) n0k b4;have e4:=b4 _ _ e3 np3;clear W2 s3 e3 u3 hp3 np3 b4 w4 s2 wwk el nFk n0k nwk;fail "";obtain⟨b,hb⟩:∃b,atI [V.str "giver",.str "taker"] ((r4+(0+(i:Int))) % 2)=some (.str (nmB b)):=by
    rcases (show(r4+(0+(i:Int))) % 2=0\/(r4+(0+(i:Int))) % 2=1 by lia) with z|z
    ·rw[z];exact⟨true,rfl⟩
    ·rw[z];exact⟨false,rfl⟩
   refine w9 e4 hb ?_;fail "";refine⟨rs F H4,c7u F H4,la,A,L,tl,b,nmB b,rfl,e2l b,W4.lp.ln,by rw[eos];lia,by lia,λJ A3 y1 y2 y3 ot=>?_⟩
   have W5:=W4.go ot y1 y3.2;have eo3:(a6m b L).os=os:=by rw[<- eos];cases b;exact(a0x L).2.1;exact(a1c L).2.1
   have lt3:=(d0t b L tl).2;fail "";refine⟨_,_,_,_,_,_,rfl,W5,eo3,by lia,λr=>?_⟩
   cases z:a4b b L with
   | true=>
    have hb:b=true:=by cases b;cases z;rfl
    subst hb;rw[c0e z,show a6m true L=L from b4m z];exact hg r
   | false=>
    rw[b4x z,List.map_append,List.append_assoc];refine (hg _).trans ?_;have ht:b0e (d0p (b,c5k b L)).w=some b:=by cases b <;> rfl
    refine (b4u ht).trans ?_;have:okT b L (d0p (b,c5k b L))=true:=by
     unfold okT eqT d0p;rw[z];simp
    rw[this,Bool.true_and]
    rfl
  ·clear WA
   rintro σ HB ⟨F,A,L,tl,x7,x8,rfl,W,eos,lt,hg⟩;have hgood:b2j (c3n n os) (tl.map d0p)=true:=by
    have z:=hg [];rw[List.append_nil] at z;exact z
   have sq:SqL K HB sa (ns.map V.int):=by
    rcases sq0 with (h|⟨o,h⟩)|h
    ·exact .inl (.inl (W.same _ _ h rfl))
    ·exact .inl (.inr ⟨o,W.same _ _ h rfl⟩)
    ·exact .inr h
   have RB:Rws HB oa os:=⟨ps,W.same _ _ eo0 rfl,pl,λi p o hp h=>W.same _ _ (pr i p o hp h) rfl⟩;have NB:=W.lp.all;obtain⟨dxl,el⟩:=id NB.ob;clear W hg sq0 eo0 pr;fail "";refine⟨la,A,L,tl,rfl,NB,λtp tps htp r=>?_⟩;generalize u1:upd HB tp _=HC;obtain⟨s1,eT⟩:=nwS u1 htp;have tv:TrV HC tps (tl.map d0p):=⟨by rw[List.length_map];exact r.1,λi p t hp ht=>by
    rw[List.getElem?_map] at ht;cases e:tl[i]? with
    | none=>rw[e] at ht;cases ht
    | some u=>
     rw[e] at ht;cases ht;exact s1 _ _ (r.2 i p u hp e)⟩
   have te:TrE HC tps:=λp hp=>by
    obtain⟨i,hi,e⟩:=List.mem_iff_getElem.mp hp;have hj:i<(tl.map d0p).length:=by rw[<- tv.1];exact hi
    exact⟨_,tv.2 i p _ (by rw[<- e];exact List.getElem?_eq_getElem hi) (List.getElem?_eq_getElem hj)⟩
   have tz:tps.length<=1200:=by rw[r.1];lia
   have R:Rws HC oa os:=RB.samP (.of s1);have sqC:=s1.seq sq;clear NB el u1 s1 r htp sq RB;obtain⟨qs,eo,ql,qr⟩:=id R;fail "";refine a4e (xs:=qs.map V.ref) (by rw[List.length_map];lia) (RP HC os) (λD hD=>RP.new hD) ?_ ?_ ?_
   ·rintro D i acc H' ⟨e,s,qs',rfl,hq,_⟩
    exact⟨e,by rw[List.length_map];exact hq,SqL.of (s _ _ eo)⟩
   ·intro D i x acc H' hD hx hp
    rw[List.getElem?_map] at hx;cases hpi:qs[i]? with
    | none=>rw[hpi] at hx;cases hx
    | some q=>
     rw[hpi] at hx;cases hx;have hi:i<os.length:=by rw[<- ql];exact(List.getElem?_eq_some_iff.mp hpi).1
     have hoi:=List.getElem?_eq_getElem hi;have eq:=hp.2.1 _ _ (qr i q _ hpi hoi);fail "";exact λp hpn=>hp.push hD hoi hpn
   intro D acc HD hD hp;rw[List.length_map,ql] at hp;have nr:=hp.done hD;have sD:=nr.2.1;have eTD:=sD _ _ eT;clear hp qr;fail "";intro p2 hp2;generalize u2:upd HD p2 _=HE;obtain⟨sE,eE⟩:=nwS u2 hp2;fail "";refine⟨n,D,p2,os,tps,_,rfl,by lia,by lia,nr.rws.samP (.of sE),ho,by lia,eE,tv.same (.of (sD.trans sE)),by rw[<- tv.1];lia,λHF sF=>?_⟩
   rw[hgood];have sCF:=(sD.trans sE).trans sF;fail "";refine⟨_,_,rfl,rfl,_,rfl,?_⟩;rw[show(true != true)=false from rfl];fail "";refine⟨Nat.zero_le _,λp3 hp3=>?_⟩;generalize u3:upd HF p3 _=HG;obtain⟨sG,eG⟩:=nwS u3 hp3;have sCG:=sCF.trans sG;fail "";refine⟨n,oa,p3,os,[],rfl,by lia,by lia,R.samP (.of sCG),ho,by lia,eG,(λ_ z=>nomatch z),Nat.zero_le _,λHI sI=>?_⟩
   have sCI:SamP HC HI:=(SamP.of sCG).trans sI;clear u2 u3 sE sF sG sI eE eG nr sD eTD hp2 hp3 sCF sCG hD;fail "";refine⟨(show 2<=sizeLine by lia),λp4 hp4=>?_⟩
   generalize u4:upd HI p4 _=HJ;obtain⟨sJ,eJ⟩:=nwS u4 hp4;fail "";refine .inr ⟨_,rfl,?_⟩;obtain⟨rn,hrn,rn0,rn1⟩:∃rn:Int,atI [V.int 12,.int 4] (if decide (mn > 120)=true then 1 else 0)=some (.int rn)/\0<=rn/\rn<=12:=by
    split
    ·exact⟨_,rfl,by lia,by lia⟩
    ·exact⟨_,rfl,by lia,by lia⟩
   refine w9 eJ hrn ?_;have sCJ:=sCI.trans (.of sJ);clear sCI sJ eJ hrn u4 hp4;fail "";have rnN:rn.toNat<=12:=by lia
   refine a9u (n:=rn.toNat) (λi σ H'=>∃(x7 x8 x10 x11:Option V),σ=[some (.ref sa),some (.ref wl),some (.int n),some (.ref oa),some (.ref la),x5,some (.int mn),x7,x8,some (.ref tp),x10,x11]/\SamP HC H') ⟨_,_,_,_,rfl,sCJ⟩ ?_ ?_
   ·clear sCJ
    rintro i σ H' hi ⟨x7,x8,x10,x11,rfl,sC⟩;have sq:=(show SqL K H' sa (ns.map V.int) from by
     rcases sqC with (h|⟨o,h⟩)|h
     ·exact .inl (.inl (sC _ _ h rfl))
     ·exact .inl (.inr ⟨o,sC _ _ h rfl⟩)
     ·exact .inr h)
    fail "";refine⟨sa,ns,1+i,by rw[Int.zero_add];push_cast;rfl,sq,by lia,λwk H2 nwk s2 wwk=>?_⟩
    fail "";refine⟨wk,4,rfl,wwk,by decide,by decide,λr3 H3 a3 c3 w3 b3=>?_⟩
    have nk:∀x o,HC x=some o->kpB o=true->x≠wk:=λx o e z y=>by
     have:=sC x o e z;rw[y,nwk] at this;cases this
    have sC3:SamP HC H3:=λx o e z=>b3 _ _ (s2 _ _ (sC x o e z)) (nk x o e z);clear sq s2 wwk b3 nwk;fail "";rename_i nX hX;have fin:∀(x10 x11:Option V)(q tq:Addr)(os':List ↑26)(qs:List Addr)(H4:Hp),x10=some (.ref q)->x11=some (.ref tq)->Rws H4 q os'->(∀o∈os',1<=o.length/\o.length<=n)->os'.length<=400->H4 tq=some (.lst (qs.map V.ref))->TrE H4 qs->qs.length<=4000->SamP HC H4->nX [some (.ref sa),some (.ref wl),some (.int n),some (.ref oa),some (.ref la),x5,some (.int mn),some (.int (0+i)),some (.ref wk),some (.ref tp),x10,x11] H4:=λx10 x11 q tq os' qs H4 e1 e2 R' ho' l1 et ht l2 s4=>by
     subst e1 e2;refine c4w hX ?_;clear hX;fail "";refine⟨n,q,tq,os',qs,rfl,by lia,by lia,R',ho',l1,et,ht,l2,λH5 s5=>?_⟩
     fail "";exact⟨_,_,_,_,rfl,s4.trans s5⟩
    clear hX;fail "j"
    ·fail ""
     refine⟨wk,oa,n,os,rfl,w3,R.samP sC3,ho,by lia,by lia,by lia,λq os' H4 R' ho' l w4 b4=>?_⟩
     have sC4:SamP HC H4:=λx o e z=>b4 _ _ (sC3 x o e z) (nk x o e z);fail "";exact fin _ _ q tp os' tps H4 rfl rfl R' ho' ↑2 (sC4 _ _ eT rfl) (te.samP sC4) ↑2 sC4
    ·fail ""
     refine⟨wk,tp,n,tps,rfl,w3,sC3 _ _ eT rfl,nk _ _ eT rfl,te.samP sC3,by lia,by lia,λq qs H4 S l=>?_⟩
     have sC4:SamP HC H4:=λx o e z=>S.but _ _ (sC3 x o e z) (nk x o e z);fail "";exact fin _ _ oa q os qs H4 rfl rfl (R.samP sC4) ho ↑2 S.e S.ts ↑2 sC4
   ·rintro σ H' ⟨x7,x8,x10,x11,rfl,sC⟩
    fail "";exact k _
end
end
section
open PySem PySem.Spec L2
section
variable{P:Program}{w:World}{K:Frag}{mg:Str->Option Value}{base:Heap}{cl:Cl}
theorem MakeT.frame{P:Program}{w:World}{K:Frag}{mg:Str->Option Value}{base:Heap}{x:Str}{C:Addr}{k:Nat}{ps:List Str}{sp:Sp}(M:MakeT P w K mg base x C k ps sp):MakeT P w K mg base x C k ps (frS sp):=by
 obtain⟨f,fd,F,a,b,c⟩:=M.ex;exact⟨f,fd,F.frame,a,b,c⟩
theorem DefV.mk'{x:Str}{st:Stmt}{ps:List Str}{f:Addr}{oc:Value}{od an:Option Addr}{osl:Array (Option Value)}{kV doc pm cdv ct:Value}(l:K.lookup f=some ⟨oc,od,.func (PySem.W.fnOf x x (a1j st) (a0d st) (d7 st) .none kV doc pm an cdv ct),osl⟩)(c:codeIn K cdv x=true)(k:keepIn K (.ref f)=true)(hb:∀(kV doc pm:Value) (an:Option Addr) (cdv ct:Value) (us:List Value),us.length=ps.length->bindArgs (PySem.W.fnOf x x (a1j st) (a0d st) (d7 st) .none kV doc pm an cdv ct) ⟨us,[]⟩=pure (ps.zip us)):DefV K f x st ps :=
 have F:=c8o (st:=st) (x:=x) (qual:=x) l c k
 ⟨_,F,F.binds hb⟩
inductive DTs(P:Program)(w:World)(K:↑28)(mg:Str->Option Value)(base:Heap)(k:Nat):List (Str×Tok×Value)->List (Str×Sp)->Prop where
 | nil:DTs P w K mg base k [] []
 | cons {x:Str} {tk:Tok} {f:Addr} {pn:List Str} {sp:Sp} {ps:List (Str×Tok×Value)} {sl:List (Str×Sp)} (F:FnV P w K mg base f k pn sp) (r:DTs P w K mg base k ps sl):DTs P w K mg base k ((x,tk,.ref f)::ps) ((x,sp)::sl)
theorem DTs.keys{k:Nat}{ps:List (Str×Tok×Value)}{sl:List (Str×Sp)}(h:DTs P w K mg base k ps sl):ps.map (·.1)=sl.map (·.1):=by
 induction h with
 | nil=>rfl
 | cons F r ih=>simp only[List.map_cons,ih]
theorem DTs.at{k:Nat}{ps:List (Str×Tok×Value)}{sl:List (Str×Sp)}(h:DTs P w K mg base k ps sl){x:Str}{sp:Sp}(hx:(x,sp)∈sl):∃(i:Nat)(tk:Tok)(f:Addr)(pn:List Str),ps[i]?=some (x,tk,.ref f)/\FnV P w K mg base f k pn sp:=by
 induction h with
 | nil=>cases hx
 | cons F r ih=>
  rcases List.mem_cons.mp hx with e|e
  ·cases e
   exact⟨0,_,_,_,rfl,F⟩
  ·obtain⟨i,tk,f,pn,a,b⟩:=ih e
   exact⟨i+1,tk,f,pn,a,b⟩
theorem c2n{kvs:List (Str×Value)}{x:Str}(h:x ∉ kvs.map (·.1)):valueAt kvs x=none:=by
 unfold valueAt;rw[List.find?_eq_none.mpr]
 ·rfl
 ·intro kv hkv z
  exact h (List.mem_map.mpr ⟨kv,hkv,of_decide_eq_true z⟩)
theorem DT.mk'{d:Addr}{k:Nat}{ps:List (Str×Tok×Value)}{sl:List (Str×Sp)}{ep:Nat}(hd:(d == sysModules)=false)(l:K.lookup d=some ⟨.type "dict",none,.dict (e0e w ps).toArray ep,#[]⟩)(h:DTs P w K mg base k ps sl)(nd:(sl.map (·.1)).Nodup):DT P w K mg base d k sl:=by
 have kd:=KDict.mk' (P:=P) hd l (by rw[h.keys];exact nd)
 have ke:(ps.map λp=>(p.1,p.2.2)).map (·.1)=sl.map (·.1):=by rw[List.map_map,<- h.keys];rfl
 refine⟨_,kd,λx sp hx=>?_,λx hx=>c2n (by rw[ke];exact hx)⟩
 obtain⟨i,tk,f,pn,a,b⟩:=h.at hx;exact⟨f,pn,valueAt_of_get (by rw[ke];exact nd) (i:=i) (by rw[List.getElem?_map,a];rfl),b⟩
end
section
variable{K:Frag}{mg:Str->Option Value}
inductive AtF(K:↑28)(f:Addr)(x q:Str)(st:Stmt):Prop
 | of {oc:Value} {od:Option Addr} {kV dc pm cd ct:Value} {an:Option Addr} {sl:Array (Option Value)} (l:K.lookup f=some ⟨oc,od,.func (PySem.W.fnOf x q (a1j st) (a0d st) (d7 st) .none kV dc pm an cd ct),sl⟩) (c:codeIn K cd q=true) (k:keepIn K (.ref f)=true):AtF K f x q st
abbrev BA(x q:Str)(st:Stmt)(ps:List Str):Prop:=∀(kV doc pm:Value)(an:Option Addr)(cdv ct:Value)(us:List Value),us.length=ps.length->bindArgs (PySem.W.fnOf x q (a1j st) (a0d st) (d7 st) .none kV doc pm an cdv ct) ⟨us,[]⟩=pure (ps.zip us)
theorem ba0{β:Type}{F G:List Value->β}(h:F []=G [])(us:List Value)(e:us.length=0):F us=G us:=by
 cases us with
 | nil=>exact h
 | cons=>cases e
theorem ba1{β:Type}{F G:List Value->β}(h:∀a,F [a]=G [a])(us:List Value)(e:us.length=1):F us=G us:=by
 cases us with
 | nil=>cases e
 | cons a t=>exact ba0 (F:=λt=>F (a::t)) (G:=λt=>G (a::t)) (h a) t (Nat.succ.inj e)
theorem ba2{β:Type}{F G:List Value->β}(h:∀a b,F [a,b]=G [a,b])(us:List Value)(e:us.length=2):F us=G us:=by
 cases us with
 | nil=>cases e
 | cons a t=>exact ba1 (F:=λt=>F (a::t)) (G:=λt=>G (a::t)) (h a) t (Nat.succ.inj e)
theorem ba3{β:Type}{F G:List Value->β}(h:∀a b c,F [a,b,c]=G [a,b,c])(us:List Value)(e:us.length=3):F us=G us:=by
 cases us with
 | nil=>cases e
 | cons a t=>exact ba2 (F:=λt=>F (a::t)) (G:=λt=>G (a::t)) (h a) t (Nat.succ.inj e)
theorem ba4{β:Type}{F G:List Value->β}(h:∀a b c d,F [a,b,c,d]=G [a,b,c,d])(us:List Value)(e:us.length=4):F us=G us:=by
 cases us with
 | nil=>cases e
 | cons a t=>exact ba3 (F:=λt=>F (a::t)) (G:=λt=>G (a::t)) (h a) t (Nat.succ.inj e)
theorem ba5{β:Type}{F G:List Value->β}(h:∀a b c d e,F [a,b,c,d,e]=G [a,b,c,d,e])(us:List Value)(e:us.length=5):F us=G us:=by
 cases us with
 | nil=>cases e
 | cons a t=>exact ba4 (F:=λt=>F (a::t)) (G:=λt=>G (a::t)) (h a) t (Nat.succ.inj e)
theorem AtF.t{h:Heap}{x:Str}{st:Stmt}{ps:List Str}{f:Addr}(X:K.In h)(G:h.Ns mainGlobals mg)(a:nsIn K mainGlobals x=some (some (.ref f)))(l:AtF K f x x st)(hb:BA x x st ps):DefT K mg x st ps :=
 by cases l with|of l c k=>exact .mk' X G a l c k hb
theorem AtF.v{x:Str}{st:Stmt}{ps:List Str}{f:Addr}(l:AtF K f x x st)(hb:BA x x st ps):DefV K f x st ps :=
 by cases l with|of l c k=>exact .mk' l c k hb
theorem AtF.m{C:Addr}{m q:Str}{st:Stmt}{ps:List Str}{f:Addr}(a:findIn K (.ref C) m=some (some (.ref f)))(i:isFn K (.ref f)=true)(l:AtF K f m q st)(hb:BA m q st ps):DefM K C m q st ps :=
 by cases l with|of l c k=>exact .mk' a i l c k hb
theorem AtF.k{f:Addr}{x q:Str}{st:Stmt}(l:AtF K f x q st):keepIn K (.ref f)=true:=by cases l with|of l c k=>exact k
inductive AtG(K:↑28)(x:Str)(st:Stmt):Prop
 | mk {f:Addr} (d:nsIn K mainGlobals x=some (some (.ref f))) (l:AtF K f x x st):AtG K x st
theorem AtG.of{x:Str}{st:Stmt}{f:Addr}{oc:Value}{od:Option Addr}{kV dc pm cd ct:Value}{an:Option Addr}{sl:Array (Option Value)}(d:nsIn K mainGlobals x=some (some (.ref f)))(l:K.lookup f=some ⟨oc,od,.func (PySem.W.fnOf x x (a1j st) (a0d st) (d7 st) .none kV dc pm an cd ct),sl⟩)(c:codeIn K cd x=true)(k:keepIn K (.ref f)=true):AtG K x st:=⟨d,.of l c k⟩
theorem AtG.t{h:Heap}{x:Str}{st:Stmt}{ps:List Str}(l:AtG K x st)(X:K.In h)(G:h.Ns mainGlobals mg)(hb:BA x x st ps):DefT K mg x st ps:=by cases l with|mk d l=>exact AtF.t X G d l hb
inductive AtM(K:↑28)(C:Addr)(m q:Str)(st:Stmt):Prop
 | mk {f:Addr} (d:findIn K (.ref C) m=some (some (.ref f))) (i:isFn K (.ref f)=true) (l:AtF K f m q st):AtM K C m q st
theorem AtM.of{C:Addr}{m q:Str}{st:Stmt}{f:Addr}{oc:Value}{od:Option Addr}{kV dc pm cd ct:Value}{an:Option Addr}{sl:Array (Option Value)}(d:findIn K (.ref C) m=some (some (.ref f)))(i:isFn K (.ref f)=true)(l:K.lookup f=some ⟨oc,od,.func (PySem.W.fnOf m q (a1j st) (a0d st) (d7 st) .none kV dc pm an cd ct),sl⟩)(c:codeIn K cd q=true)(k:keepIn K (.ref f)=true):AtM K C m q st:=⟨d,i,.of l c k⟩
theorem AtM.m{C:Addr}{m q:Str}{st:Stmt}{ps:List Str}(l:AtM K C m q st)(hb:BA m q st ps):DefM K C m q st ps:=by cases l with|mk d i l=>exact AtF.m d i l hb
end
end
open PySem L2
theorem all_mk{l:PySem.W.OpenLaw}{w:World}{K:Frag}{h:Heap}{mg:Str->Option Value}{fa:Addr}{ae ac aa ab ad:Addr}{dO:Tok}{gd:Tok}{fN:Tok}{hq:Tok}{dY:Tok}{fH:Tok}{fL:Tok}{dk:Tok}{gR:Tok}{hp:Tok}{cR:Tok}{bd:Addr}{jq:Nat}{cv:Array (Option Value)}{dF gy:Tok}{av aA ap ay ao ak aZ bh aR aO aL bg aT be aW aG aH bk aQ aJ bc aU bm:Addr}{ic bW bB ch aS bH:Value}{eN bX:Option Addr}{ff:Array (Option Value)}{aC aD aB aw au ar:Addr}{cy:Nat}{gu ex gr iW je ft gA io hi iV en gW:Tok}{eE:Nat}{eb gn iw fY fe iM:Tok}{dz:Nat}{gM eF hV gc:Tok}(et:AtG K "check_size" a8j)(im:AtG K "check_turn" a8i)(dm:AtG K "place_of" b3w)(ey:AtG K "lap_of" c1c)(hT:AtG K "onward" c1a)(eU:AtG K "check_mark" a8k)(hJ:AtG K "mark_of" b7a)(dK:AtG K "mark_lap" b3y)(he:AtG K "mark_side" b1b)(cI:AtG K "full_mark" b1m)(cY:AtG K "free_mark" b1n)(gz:AtG K "mark_to_give" a5t)(ig:AtG K "check_hand" a8l)(gO:AtG K "mark_cell" b1c)(eM:AtG K "number_cell" a6z)(gP:AtG K "left_cell" b1d)(hh:AtG K "thing_cell" a8d)(dT:AtG K "card_cell" b1o)(fZ:AtG K "bell_cell" b1p)(eZ:AtG K "new_cells" b0z)(iA:AtG K "check_bits" a8m)(dR:AtG K "check_marks" a7c)(gw:AtG K "alike_ahead" a7d)(gg:AtG K "front" c5z)(eI:AtG K "taker_bit" b0x)(dN:AtG K "giver_turn" a8h)(hn:AtG K "taker_turn" a8e)(hS:AtG K "write_card" a8b)(dZ:AtG K "ring_other" a8g)(dJ:AtG K "still_bell" a8f)(eB:AtG K "may_go_on" b1a)(eK:AtG K "order_of" b3x)(fX:AtG K "orders_of" b0y)(cW:AtG K "orders_told" b3b)(hf:AtG K "lane_with" b1l)(er:AtG K "follows" b7c)(ek:AtG K "trail_good" a8c)(di:AtG K "_law_well" b3z)(dv:AtG K "_law_take" b4b)(ez:AtG K "_law_order" b1i)(gL:AtG K "_law_fresh" b1j)(fr:AtG K "_law_lane" b4e)(eP:AtG K "_law_touch" b1e)(eD:AtG K "_law_turn_by" a7a)(ht:AtG K "_law_rise" b4c)(iD:AtG K "_law_lets" b4d)(fG:AtG K "_law_wait" b4a)(gv:AtG K "_law_remember" a5u)(gS:AtG K "_law_give" b4f)(iF:AtG K "_law_takes" b1f)(iL:AtG K "_law_frees" b1k)(ho:AtG K "_law_rests" b1h)(eG:AtG K "_law_stepped" a7b)(cK:AtG K "_law_due" b7b)(hY:AtG K "_law_touch_spoilt" a2c)(iI:AtG K "_law_trail_spoilt" a2b)(gm:AtG K "_law_orders_spoilt" a1q)(gJ:AtG K "_law_right" b1g)(iu:AtM K ae "__init__" "Board.__init__" a8s)(dt:AtM K ae "check_cell" "Board.check_cell" a2j)(iE:AtM K ae "note_touch" "Board.note_touch" a2h)(ei:AtM K ae "read" "Board.read" a8r)(fT:AtM K ae "write" "Board.write" a7g)(jg:AtM K ae "all_cells" "Board.all_cells" a6g)(cB:AtM K ae "touches" "Board.touches" a8q)(ev:AtM K ae "last_touch" "Board.last_touch" a2i)(ee:AtM K ac "stage" "Hand.stage" b5n)(fg:AtM K aa "__init__" "Giver.__init__" a8p)(gB:AtM K aa "add" "Giver.add" b1u)(jt:AtM K aa "orders" "Giver.orders" b0m)(iQ:AtM K aa "place_ahead" "Giver.place_ahead" a1t)(hv:AtM K aa "begins_order" "Giver.begins_order" a1h)(cL:AtM K aa "next_order" "Giver.next_order" a2g)(cn:AtM K aa "next_part" "Giver.next_part" a3a)(dn:AtM K aa "next_left" "Giver.next_left" a3b)(gH:AtM K aa "has_part" "Giver.has_part" a3w)(fQ:AtM K aa "know_turn" "Giver.know_turn" a3c)(dB:AtM K aa "awaited_mark" "Giver.awaited_mark" a1i)(eC:AtM K aa "turn_served" "Giver.turn_served" a1s)(gk:AtM K aa "go_on" "Giver.go_on" a7f)(hy:AtM K aa "resting" "Giver.resting" a4t)(fm:AtM K aa "own_deed" "Giver.own_deed" a3v)(eH:AtM K ab "__init__" "Taker.__init__" a8n)(hA:AtM K ab "book" "Taker.book" b5k)(dr:AtM K ab "book_order" "Taker.book_order" a2d)(hQ:AtM K ab "know_turn" "Taker.know_turn" a2y)(gl:AtM K ab "awaited_mark" "Taker.awaited_mark" a1g)(hL:AtM K ab "turn_served" "Taker.turn_served" a1r)(hO:AtM K ab "go_on" "Taker.go_on" a7e)(iT:AtM K ab "resting" "Taker.resting" a4r)(cp:AtM K ab "own_deed" "Taker.own_deed" a3u)(iU:AtM K ad "__init__" "Lane.__init__" b1s)(fs:AtM K ad "place_giver" "Lane.place_giver" a2f)(hj:AtM K ad "place_taker" "Lane.place_taker" a2e)(gQ:AtM K ad "hand_named" "Lane.hand_named" a2z)(cU:AtM K ad "hand_in" "Lane.hand_in" a5v)(hE:AtM K ad "step" "Lane.step" b1r)(eV:AtM K ad "stage" "Lane.stage" b5l)(ct:AtM K ad "trail" "Lane.trail" a8o)(gs:AtM K ad "cells" "Lane.cells" b5m)(X:K.In h)(G:h.Ns mainGlobals mg)(hfa:mg "law" = some (.ref fa))(ep:nsIn K mainGlobals "Board" = some (some (.ref ae)))(cV:nsIn K mainGlobals "Hand" = some (some (.ref ac)))(fj:nsIn K mainGlobals "Giver" = some (some (.ref aa)))(ew:nsIn K mainGlobals "Taker" = some (some (.ref ab)))(eQ:nsIn K mainGlobals "Lane" = some (some (.ref ad)))(hz:nsIn K mainGlobals "LEAST_SIZE" = some (some (.int (2) dO)))(jr:nsIn K mainGlobals "MOST_SIZE" = some (some (.int (8) gd)))(ds:nsIn K mainGlobals "FREE" = some (some (.int (0) fN)))(hW:nsIn K mainGlobals "FULL" = some (some (.int (1) hq)))(ji:nsIn K mainGlobals "MOST_MARK" = some (some (.int (3) dY)))(ia:nsIn K mainGlobals "CELLS_OF_A_PLACE" = some (some (.int (4) fH)))(fz:nsIn K mainGlobals "NEW_MARK" = some (some (.int (2) fL)))(fO:nsIn K mainGlobals "NO_ORDER" = some (some (.int (-1) dk)))(ij:nsIn K mainGlobals "NO_TURN" = some (some (.int (-1) gR)))(hK:nsIn K mainGlobals "STILL" = some (some (.int (0) hp)))(iY:nsIn K mainGlobals "RUNG" = some (some (.int (1) cR)))(fi:nsIn K mainGlobals "HANDS" = some (some (.ref bd)))(il:K.lookup bd=some ⟨.type "tuple",none,.seq #[.str "giver" dF,.str "taker" gy] jq,cv⟩)(es:nsIn K mainGlobals "DEEDS_hand" = some (some (.ref av)))(ga:nsIn K mainGlobals "DEEDS_giver" = some (some (.ref aA)))(cM:nsIn K mainGlobals "DEEDS_taker" = some (some (.ref ap)))(fJ:plainGet K ae Str.empty=true)(gp:hasDictIn K ae=true)(da:plainOver K ae=true)(hg:findIn K (.ref ae) "__setattr__" = some (some (.builtin "object.__setattr__")))(gt:makesIn K ae=true)(fq:keepIn K (.ref ae)=true)(id:findIn K (.ref ae) "many_touches" = some none)(jn:findIn K (.ref ae) "newest_touch" = some none)(cs:findIn K (.ref ae) "numbers" = some none)(cw:findIn K (.ref ae) "size" = some none)(eO:plainGet K ac Str.empty=true)(hB:hasDictIn K ac=true)(ip:plainOver K ac=true)(fI:findIn K (.ref ac) "__setattr__" = some (some (.builtin "object.__setattr__")))(jI:makesIn K ac=true)(jv:keepIn K (.ref ac)=true)(du:findIn K (.ref ac) "board" = some none)(dx:findIn K (.ref ac) "here" = some none)(dA:findIn K (.ref ac) "marks_read" = some none)(eq:findIn K (.ref ac) "name" = some none)(fU:findIn K (.ref ac) "other" = some none)(eR:findIn K (.ref ac) "stage_behind_marks" = some none)(iq:findIn K (.ref ac) "stage_now" = some none)(hN:findIn K (.ref ac) "touched" = some none)(dy:plainGet K aa Str.empty=true)(iX:hasDictIn K aa=true)(cD:plainOver K aa=true)(eJ:findIn K (.ref aa) "__setattr__" = some (some (.builtin "object.__setattr__")))(fS:makesIn K aa=true)(dH:keepIn K (.ref aa)=true)(gN:findIn K (.ref aa) "board" = some none)(fh:findIn K (.ref aa) "here" = some none)(dp:findIn K (.ref aa) "kept" = some none)(dL:findIn K (.ref aa) "left" = some none)(ir:findIn K (.ref aa) "marks_read" = some none)(fo:findIn K (.ref aa) "name" = some none)(jd:findIn K (.ref aa) "number" = some none)(dV:findIn K (.ref aa) "other" = some none)(cq:findIn K (.ref aa) "stage_behind_marks" = some none)(jj:findIn K (.ref aa) "stage_now" = some none)(fl:findIn K (.ref aa) "touched" = some none)(de:plainGet K ab Str.empty=true)(iy:hasDictIn K ab=true)(iC:plainOver K ab=true)(gE:findIn K (.ref ab) "__setattr__" = some (some (.builtin "object.__setattr__")))(gF:makesIn K ab=true)(dl:keepIn K (.ref ab)=true)(hb:findIn K (.ref ab) "board" = some none)(jo:findIn K (.ref ab) "here" = some none)(go:findIn K (.ref ab) "left" = some none)(iK:findIn K (.ref ab) "marks_read" = some none)(eo:findIn K (.ref ab) "name" = some none)(ii:findIn K (.ref ab) "not_freed" = some none)(fR:findIn K (.ref ab) "number" = some none)(gi:findIn K (.ref ab) "other" = some none)(gh:findIn K (.ref ab) "parts" = some none)(gx:findIn K (.ref ab) "stage_behind_marks" = some none)(jk:findIn K (.ref ab) "stage_now" = some none)(ie:findIn K (.ref ab) "taken" = some none)(gZ:findIn K (.ref ab) "touched" = some none)(hm:plainGet K ad Str.empty=true)(cH:hasDictIn K ad=true)(ea:plainOver K ad=true)(fW:findIn K (.ref ad) "__setattr__" = some (some (.builtin "object.__setattr__")))(cO:makesIn K ad=true)(gU:keepIn K (.ref ad)=true)(cu:findIn K (.ref ad) "board" = some none)(iH:findIn K (.ref ad) "giver" = some none)(dg:findIn K (.ref ad) "kept_trail" = some none)(dE:findIn K (.ref ad) "taker" = some none)(em:findIn K (.ref ad) "touched" = some none)(cj:findIn K (.ref ac) "__init__" = some (some (.ref ay)))(dX:isFn K (.ref ay)=true)(bO:AtF K ay "__init__" "Hand.__init__" b1t)(gq:findIn K (.ref ac) "place" = some (some (.ref ao)))(aF:isFn K (.ref ao)=true)(bb:AtF K ao "place" "Hand.place" a5h)(hk:findIn K (.ref ac) "step" = some (some (.ref ak)))(aM:isFn K (.ref ak)=true)(aY:AtF K ak "step" "Hand.step" a4s)(gT:nsIn K mainGlobals "len" = some none)(cE:nsIn K mainGlobals "range" = some none)(hw:nsIn K mainGlobals "max" = some none)(fV:nsIn K mainGlobals "min" = some none)(eW:nsIn K mainGlobals "isinstance" = some none)(hR:nsIn K mainGlobals "int" = some none)(cG:nsIn K mainGlobals "bool" = some none)(co:nsIn K mainGlobals "list" = some none)(dQ:nsIn K mainGlobals "all" = some none)(ce:nsIn K mainGlobals "at_rouse" = some (some (.ref aZ)))(gG:AtF K aZ "at_rouse" "at_rouse" b4h)(bI:nsIn K mainGlobals "at_clear" = some (some (.ref bh)))(iO:AtF K bh "at_clear" "at_clear" b4k)(bp:nsIn K mainGlobals "at_mute" = some (some (.ref aR)))(ef:AtF K aR "at_mute" "at_mute" b7g)(cc:nsIn K mainGlobals "at_marks" = some (some (.ref aO)))(cJ:AtF K aO "at_marks" "at_marks" b4i)(bK:nsIn K mainGlobals "at_look" = some (some (.ref aL)))(dj:AtF K aL "at_look" "at_look" b7i)(ci:nsIn K mainGlobals "at_wish" = some (some (.ref bg)))(dU:AtF K bg "at_wish" "at_wish" b7d)(cd:nsIn K mainGlobals "at_again" = some (some (.ref aT)))(fw:AtF K aT "at_again" "at_again" b4l)(bv:nsIn K mainGlobals "at_sleep" = some (some (.ref be)))(fM:AtF K be "at_sleep" "at_sleep" b4g)(bT:nsIn K mainGlobals "at_hush" = some (some (.ref aW)))(fv:AtF K aW "at_hush" "at_hush" b7j)(cb:nsIn K mainGlobals "at_unwish" = some (some (.ref aG)))(hG:AtF K aG "at_unwish" "at_unwish" b1q)(bP:nsIn K mainGlobals "at_card" = some (some (.ref aH)))(jb:AtF K aH "at_card" "at_card" b7l)(bJ:nsIn K mainGlobals "at_ring" = some (some (.ref bk)))(jf:AtF K bk "at_ring" "at_ring" b7f)(bs:nsIn K mainGlobals "at_told" = some (some (.ref aQ)))(gY:AtF K aQ "at_told" "at_told" b7e)(bE:nsIn K mainGlobals "at_lacks" = some (some (.ref aJ)))(hX:AtF K aJ "at_lacks" "at_lacks" b4j)(cf:nsIn K mainGlobals "at_mark" = some (some (.ref bc)))(fP:AtF K bc "at_mark" "at_mark" b7h)(bw:nsIn K mainGlobals "at_free" = some (some (.ref aU)))(gb:AtF K aU "at_free" "at_free" b7k)(ih:nsIn K mainGlobals "law" = some (some (.ref bm)))(cz:K.lookup bm=some ⟨ic,eN,.func (PySem.W.fnOf "law" "law" (a1j c1b) (a0d c1b) (d7 c1b) .none bW bB ch bX aS bH),ff⟩)(iz:codeIn K aS "law" = true)(fK:keepIn K (.ref bm)=true)(jB:nsIn K mainGlobals "at_number_giver" = some (some (.ref aC)))(df:AtF K aC "at_number" "at_number" a2x)(jA:nsIn K mainGlobals "at_left_giver" = some (some (.ref aD)))(eA:AtF K aD "at_left" "at_left" a4q)(jF:nsIn K mainGlobals "at_thing_giver" = some (some (.ref aB)))(cA:AtF K aB "at_thing" "at_thing" a3t)(jw:nsIn K mainGlobals "at_number_taker" = some (some (.ref aw)))(iG:AtF K aw "at_number" "at_number" a2w)(jE:nsIn K mainGlobals "at_left_taker" = some (some (.ref au)))(cT:AtF K au "at_left" "at_left" a4p)(jy:nsIn K mainGlobals "at_thing_taker" = some (some (.ref ar)))(dC:AtF K ar "at_thing" "at_thing" a3s)(hl:kitOne K (.type "bool") (.type "bool")=some true)(cQ:findIn K (.ref aa) "place" = some (some (.ref ao)))(js:findIn K (.ref ab) "place" = some (some (.ref ao)))(iv:findIn K (.ref aa) "step" = some (some (.ref ak)))(ec:findIn K (.ref ab) "step" = some (some (.ref ak)))(gX:specialIn K (.ref ac) "__getattribute__" = some (some (.builtin "type.__getattribute__")))(fu:PySem.W.readsIn K ac (.type "type")=true)(gC:PySem.W.findCls K (.ref ac) (.type "type") "__init__" = some (.val (.ref ay)))(ja:(av == sysModules)=false)(jm:K.lookup av=some ⟨.type "dict",none,.dict (e0e w [("rouse",gu,.ref aZ),("clear",ex,.ref bh),("mute",gr,.ref aR),("marks",iW,.ref aO),("look",je,.ref aL),("wish",ft,.ref bg),("again",gA,.ref aT),("sleep",io,.ref be),("hush",hi,.ref aW),("unwish",iV,.ref aG),("card",en,.ref aH),("ring",gW,.ref bk)]).toArray cy,#[]⟩)(fE:(aA == sysModules)=false)(hx:K.lookup aA=some ⟨.type "dict",none,.dict (e0e w [("told",eb,.ref aQ),("lacks",gn,.ref aJ),("number",iw,.ref aC),("left",fY,.ref aD),("thing",fe,.ref aB),("mark",iM,.ref bc)]).toArray eE,#[]⟩)(jc:(ap == sysModules)=false)(hZ:K.lookup ap=some ⟨.type "dict",none,.dict (e0e w [("number",gM,.ref aw),("left",eF,.ref au),("thing",hV,.ref ar),("free",gc,.ref aU)]).toArray dz,#[]⟩):
  ∃fd:FuncData,(∀(s:Shared)(v:Value),BindsTo s fd ⟨[v],[]⟩ [("script",v)])/\∀base:Heap,K.In base->base.Ns mainGlobals mg->FnOk l.prog w K mg base (CXK l.prog w) 13 fa fd ["script"] (c7r K):=by
 let cl:Cl:=⟨ae,ac,aa,ab,ad,bd,av,aA,ap⟩
 have e:=hfa.symm.trans (mg_of X G ih);cases e;have T:Txt K mg cl:=⟨⟨mg_of X G ep⟩,
  ⟨mg_of X G cV⟩,
  ⟨mg_of X G fj⟩,
  ⟨mg_of X G ew⟩,
  ⟨mg_of X G eQ⟩,
  ⟨_,mg_of X G hz⟩,
  ⟨_,mg_of X G jr⟩,
  ⟨_,mg_of X G ds⟩,
  ⟨_,mg_of X G hW⟩,
  ⟨_,mg_of X G ji⟩,
  ⟨_,mg_of X G ia⟩,
  ⟨_,mg_of X G fz⟩,
  ⟨_,mg_of X G fO⟩,
  ⟨_,mg_of X G ij⟩,
  ⟨_,mg_of X G hK⟩,
  ⟨_,mg_of X G iY⟩,
  mg_of X G fi,
  ⟨_,_,_,il,(show 2<=sizeLine by decide),.cons ⟨_,rfl⟩ (.cons ⟨_,rfl⟩ (.nil))⟩,
  ⟨fJ,gp,da,hg⟩,
  id,
  jn,
  cs,
  cw,
  ⟨eO,hB,ip,fI⟩,
  du,
  dx,
  dA,
  eq,
  fU,
  eR,
  iq,
  hN,
  ⟨dy,iX,cD,eJ⟩,
  gN,
  fh,
  dp,
  dL,
  ir,
  fo,
  jd,
  dV,
  cq,
  jj,
  fl,
  ⟨de,iy,iC,gE⟩,
  hb,
  jo,
  go,
  iK,
  eo,
  ii,
  fR,
  gi,
  gh,
  gx,
  jk,
  ie,
  gZ,
  ⟨hm,cH,ea,fW⟩,
  cu,
  iH,
  dg,
  dE,
  em,
  mg_of X G es,
  mg_of X G ga,
  mg_of X G cM,
  mg_none_of X G gT,
  mg_none_of X G cE,
  mg_none_of X G hw,
  mg_none_of X G fV,
  mg_none_of X G eW,
  mg_none_of X G hR,
  mg_none_of X G cG,
  mg_none_of X G co,
  mg_none_of X G dQ⟩
 have jG:DefT K mg "orders_told" b3b ["orders"]:=cW.t X G λ_ _ _ _ _ _=>ba1 λ_=>rfl;have jz:DefM K cl.Board "all_cells" "Board.all_cells" a6g ["self"]:=jg.m λ_ _ _ _ _ _=>ba1 λ_=>rfl;have jH:DefM K cl.Board "touches" "Board.touches" a8q ["self"]:=cB.m λ_ _ _ _ _ _=>ba1 λ_=>rfl;have jD:DefM K cl.Hand "stage" "Hand.stage" b5n ["self"]:=ee.m λ_ _ _ _ _ _=>ba1 λ_=>rfl;have jL:DefM K cl.Hand "place" "Hand.place" a5h ["self"]:=AtF.m gq aF bb λ_ _ _ _ _ _=>ba1 λ_=>rfl;have jK:DefM K cl.Hand "step" "Hand.step" a4s ["self"]:=AtF.m hk aM aY λ_ _ _ _ _ _=>ba1 λ_=>rfl;have ju:DefM K cl.Giver "orders" "Giver.orders" b0m ["self"]:=jt.m λ_ _ _ _ _ _=>ba1 λ_=>rfl;have jx:DefM K cl.Taker "book" "Taker.book" b5k ["self"]:=hA.m λ_ _ _ _ _ _=>ba1 λ_=>rfl;have jJ:DefM K cl.Lane "stage" "Lane.stage" b5l ["self","hand"]:=eV.m λ_ _ _ _ _ _=>ba2 λ_ _=>rfl;have jC:DefM K cl.Lane "cells" "Lane.cells" b5m ["self"]:=gs.m λ_ _ _ _ _ _=>ba1 λ_=>rfl;have dD:=c8o (st:=c1b) cz iz fK;refine⟨PySem.W.fnOf "law" "law" (a1j c1b) (a0d c1b) (d7 c1b) .none bW bB ch bX aS bH,λs v=>.of_eq rfl,λbase _ _=>?_⟩;have al:=(c1o (et.t X G ↑906) T:FnT l.prog w K mg base _ _ _ _);have aK:=c1n (im.t X G λ_ _ _ _ _ _=>ba2 λ_ _=>rfl) T al;have az:=c6h (dm.t X G λ_ _ _ _ _ _=>ba2 λ_ _=>rfl) T aK;have aV:=d2g (ey.t X G λ_ _ _ _ _ _=>ba2 λ_ _=>rfl) T aK;have ah:=d2f (hT.t X G λ_ _ _ _ _ _=>ba3 λ_ _ _=>rfl) T aK;have fF:=(c1p (eU.t X G ↑906) T:FnT l.prog w K mg base _ _ _ _);have aP:=(c9s (hJ.t X G λ_ _ _ _ _ _=>ba2 λ_ _=>rfl) T:FnT l.prog w K mg base _ _ _ _);have bq:=c4g (cI.t X G λ_ _ _ _ _ _=>ba2 λ_ _=>rfl) T aV aP;have iB:=c4h (cY.t X G λ_ _ _ _ _ _=>ba2 λ_ _=>rfl) T aV aP;have iN:=b7p (gz.t X G λ_ _ _ _ _ _=>ba2 λ_ _=>rfl) T aV aP;have am:=(c6m (dv.t X G λ_ _ _ _ _ _=>ba2 λ_ _=>rfl) T:FnT l.prog w K mg base _ _ _ _);have hP:=(c6k (di.t X G λ_ _ _ _ _ _=>ba2 λ_ _=>rfl) T:FnT l.prog w K mg base _ _ _ _);have cr:=c1r (iA.t X G ↑906) T al;have it:=(b8v (gw.t X G ↑906) T:FnT l.prog w K mg base _ _ _ _);have bF:=d5j (gg.t X G ↑906) T cr it ah;have bu:=(c6j (dK.t X G ↑906) T:FnT l.prog w K mg base _ _ _ _);have fA:=(c3v (he.t X G ↑906) T:FnT l.prog w K mg base _ _ _ _);have hU:=c3r (eI.t X G ↑906) T bu fA;have bV:=b8u (dR.t X G ↑906) T al fF;have iZ:=c1m (dN.t X G ↑906) T bV bu bF;have eg:=c1j (hn.t X G ↑906) T bV hU bF;have bA:=(c1q (ig.t X G ↑906) T:FnT l.prog w K mg base _ _ _ _);have ax:=(c3w (gO.t X G ↑906) T:FnT l.prog w K mg base _ _ _ _);have bl:=(b8r (eM.t X G ↑906) T:FnT l.prog w K mg base _ _ _ _);have aX:=(c3x (gP.t X G ↑906) T:FnT l.prog w K mg base _ _ _ _);have bM:=(c1i (hh.t X G ↑906) T:FnT l.prog w K mg base _ _ _ _);have bj:=c4i (dT.t X G λ_ _ _ _ _ _=>ba2 λ_ _=>rfl) T al bA;have bf:=c4j (fZ.t X G λ_ _ _ _ _ _=>ba2 λ_ _=>rfl) T bj;have eh:=(c3t (eZ.t X G ↑906) T:FnT l.prog w K mg base _ _ _ _);have ge:=c1y (iu.m (ps:=["self","size"]) λ_ _ _ _ _ _=>ba2 λ_ _=>rfl) T al eh;have ix:=ge.make gt fq T.c_Board.m;have bn:=(b2e (dt.m (ps:=["self","cell"]) λ_ _ _ _ _ _=>ba2 λ_ _=>rfl) T:MethT l.prog w K mg base _ _ _ _ _);have bL:=(b2c (iE.m (ps:=["self","deed","cell","value"]) λ_ _ _ _ _ _=>ba4 λ_ _ _ _=>rfl) T:MethT l.prog w K mg base _ _ _ _ _);have af:=c1x (ei.m (ps:=["self","cell"]) λ_ _ _ _ _ _=>ba2 λ_ _=>rfl) T bn bL;have ag:=b8y (fT.m (ps:=["self","cell","number"]) λ_ _ _ _ _ _=>ba3 λ_ _ _=>rfl) T bn bL;have aN:=(b2d (ev.m (ps:=["self"]) ↑906) T:MethT l.prog w K mg base _ _ _ _ _);have cm:=c4c (ez.t X G λ_ _ _ _ _ _=>ba2 λ_ _=>rfl) T am;have bi:=c1g (hS.t X G λ_ _ _ _ _ _=>ba2 λ_ _=>rfl) T ag bj;have bY:=c1l (dZ.t X G ↑906) T ag bf;have br:=c1k (dJ.t X G ↑906) T ag bf;have gj:=c6s (AtF.t X G ce gG ↑906) T bY;have fk:=c6v (AtF.t X G bI iO ↑906) T bi;have dW:=c9y (AtF.t X G bp ef ↑906) T br;have eS:=d0b (AtF.t X G bT fv ↑906) T br;have cN:=c4k (AtF.t X G cb hG ↑906) T bi;have dP:=c6r (AtF.t X G bv fM ↑906) T af bf;have aj:=b3h (AtF.m cQ aF bb (λ_ _ _ _ _ _=>ba1 λ_=>rfl)) T az;have aq:=b3h (AtF.m js aF bb (λ_ _ _ _ _ _=>ba1 λ_=>rfl)) T az;have dq:=a8z (dB.m (ps:=["self"]) ↑906) T iN;have cX:=a8x (gl.m (ps:=["self"]) ↑906) T bq;have bt:=c3u (eB.t X G ↑906) T af ax aj aq dq cX;have iP:=d0a (AtF.t X G bK dj ↑906) T bt;have gK:=c6w (AtF.t X G cd fw ↑906) T bt;have eu:=c9v (AtF.t X G ci dU ↑906) T bi;have bQ:=(a8y (hv.m (ps:=["self"]) ↑906) T:MethT l.prog w K mg base _ _ _ _ _);have an:=b2b (cL.m (ps:=["self"]) ↑906) T bQ;have aI:=b3i (cn.m (ps:=["self"]) ↑906) T bQ;have ca:=b3j (dn.m (ps:=["self"]) ↑906) T an aI;have cZ:=b4s (gH.m (ps:=["self"]) ↑906) T an aI;have dw:=b6b (hy.m (ps:=["self"]) ↑906) T cZ;have bZ:=b0c (iQ.m (ps:=["self"]) ↑906) T az ah;have jl:=c9w (AtF.t X G bs gY ↑906) T af bl bZ;have dd:=c6u (AtF.t X G bE hX ↑906) T af aX bZ;have gV:=(b3e (AtF.v df ↑906) T ag bl aj an:FnV l.prog w K mg base aC 5 ["giver"] (a0o cl));have jp:=(b5z (AtF.v eA ↑906) T ag aX aj ca:FnV l.prog w K mg base aD 5 ["giver"] (a1m cl));have hu:=(b4p (AtF.v cA ↑906) T ag bM aj an aI:FnV l.prog w K mg base aB 5 ["giver"] (a1a cl));have fy:=c9z (AtF.t X G cf fP ↑906) T ag ax aj bq;have bS:=(b0b (eC.m (ps:=["self"]) ↑906) T:MethT l.prog w K mg base _ _ _ _ _);have fb:=b3k (fQ.m (ps:=["self","marks"]) λ_ _ _ _ _ _=>ba2 λ_ _=>rfl) T iZ;have bR:=b8x (gk.m (ps:=["self"]) ↑906) T an ca ah;have ib:=(b3d (AtF.v iG ↑906) T af bl aq:FnV l.prog w K mg base aw 5 ["taker"] (a0n cl));have ej:=(b5y (AtF.v cT ↑906) T af aX aq:FnV l.prog w K mg base au 5 ["taker"] (a1l cl));have eY:=d0c (AtF.t X G bw gb ↑906) T ag ax az iB;have eX:=(b6a (iT.m (ps:=["self"]) ↑906) T:MethT l.prog w K mg base _ _ _ _ _);have bC:=b0a (hL.m (ps:=["self"]) ↑906) T ah;have eL:=b3f (hQ.m (ps:=["self","marks"]) λ_ _ _ _ _ _=>ba2 λ_ _=>rfl) T eg;have bz:=b8w (hO.m (ps:=["self"]) ↑906) T ah;have fC:=(b1y (dr.m (ps:=["self"]) ↑906) T:MethT l.prog w K mg base _ _ _ _ _);have hC:=(b4o (AtF.v dC ↑906) T af bM aq ah fC:FnV l.prog w K mg base ar 5 ["taker"] (a0z cl));have fc:=c6t (AtF.t X G cc cJ ↑906) T af ax fb eL;have dc:=d0d (AtF.t X G bP jb ↑906) T af bj (MethT.lift bS ↑4) bC bR bz;have dh:=c9x (AtF.t X G bJ jf ↑906) T bY (MethT.lift bS ↑4) bC bR bz;have bG:=(DT.mk' ja jm (.cons ((FnT.toV gj (mg_of X G ce)).mono ↑4) (.cons ((FnT.toV fk (mg_of X G bI)).mono ↑4) (.cons ((FnT.toV dW (mg_of X G bp)).mono ↑4) (.cons ((FnT.toV fc (mg_of X G cc)).mono ↑4) (.cons ((FnT.toV iP (mg_of X G bK)).mono ↑4) (.cons ((FnT.toV eu (mg_of X G ci)).mono ↑4) (.cons ((FnT.toV gK (mg_of X G cd)).mono ↑4) (.cons ((FnT.toV dP (mg_of X G bv)).mono ↑4) (.cons ((FnT.toV eS (mg_of X G bT)).mono ↑4) (.cons ((FnT.toV cN (mg_of X G cb)).mono ↑4) (.cons ((FnT.toV dc (mg_of X G bP)).mono ↑4) (.cons ((FnT.toV dh (mg_of X G bJ)).mono ↑4) .nil)))))))))))) (show(["rouse","clear","mute","marks","look","wish","again","sleep","hush","unwish","card","ring"]:List Str).Nodup by decide):DT l.prog w K mg base cl.d_DEEDS_hand 7 (c4v cl))
 have hc:=(DT.mk' fE hx (.cons ((FnT.toV jl (mg_of X G bs)).mono ↑4) (.cons ((FnT.toV dd (mg_of X G bE)).mono ↑4) (.cons (gV.mono ↑4) (.cons (jp.mono ↑4) (.cons (hu.mono ↑4) (.cons ((FnT.toV fy (mg_of X G cf)).mono ↑4) .nil)))))) (show(["told","lacks","number","left","thing","mark"]:List Str).Nodup by decide):DT l.prog w K mg base cl.d_DEEDS_giver 5 (e3p cl))
 have cS:=(DT.mk' jc hZ (.cons (ib.mono ↑4) (.cons (ej.mono ↑4) (.cons (hC.mono ↑4) (.cons ((FnT.toV eY (mg_of X G bw)).mono ↑4) .nil)))) (show(["number","left","thing","free"]:List Str).Nodup by decide):DT l.prog w K mg base cl.d_DEEDS_taker 5 (e3o cl))
 have fD:=b4r (fm.m (ps:=["self"]) ↑906) T hc;have iS:=b4q (cp.m (ps:=["self"]) ↑906) T cS;have dG:=(c1v (AtF.m iv aM aY (λ_ _ _ _ _ _=>ba1 λ_=>rfl)) T dw bG fD aN:MethT l.prog w K mg base cl.Giver "step" 8 ["self"] (c0g cl true));have fB:=(c1s (AtF.m ec aM aY (λ_ _ _ _ _ _=>ba1 λ_=>rfl)) T (MethT.lift eX ↑4) bG iS aN:MethT l.prog w K mg base cl.Taker "step" 8 ["self"] (c0g cl false));have ck:=(c6i (eK.t X G λ_ _ _ _ _ _=>ba2 λ_ _=>rfl) T:FnT l.prog w K mg base _ _ _ _);have bN:=c3s (fX.t X G λ_ _ _ _ _ _=>ba2 λ_ _=>rfl) T ck;have eT:=c4o (gB.m (ps:=["self","order"]) λ_ _ _ _ _ _=>ba2 λ_ _=>rfl) T ck;have cF:=(c4n (AtF.m cj dX bO λ_ _ _ _ _ _=>ba5 λ_ _ _ _ _=>rfl) T:MethT l.prog w K mg base _ _ _ _ _);have bo:=(MethT.toBase cF cj ⟨gX,⟨.type "type",fu,gC⟩,bO.k⟩ T.c_Hand.m:d4g l.prog w K mg base "Hand" "__init__" 1 ["self","board","name","other","stage_behind_marks"] (a5c cl));have fx:=c1w (fg.m (ps:=["self","board","orders"]) λ_ _ _ _ _ _=>ba3 λ_ _ _=>rfl) T bN bo;have dM:=fx.make fS dH T.c_Giver.m;have ik:=c1t (eH.m (ps:=["self","board","book"]) λ_ _ _ _ _ _=>ba3 λ_ _ _=>rfl) T bN bo;have hF:=ik.make gF dl T.c_Taker.m;have hs:=b2a (fs.m (ps:=["self","orders"]) λ_ _ _ _ _ _=>ba2 λ_ _=>rfl) T dM;have hr:=b1z (hj.m (ps:=["self","book"]) λ_ _ _ _ _ _=>ba2 λ_ _=>rfl) T hF;have hM:=b3g (gQ.m (ps:=["self","hand"]) λ_ _ _ _ _ _=>ba2 λ_ _=>rfl) T bA;have bU:=b7r (cU.m (ps:=["self","order"]) λ_ _ _ _ _ _=>ba2 λ_ _=>rfl) T eT;have bD:=c4l (hE.m (ps:=["self","hand"]) λ_ _ _ _ _ _=>ba2 λ_ _=>rfl) T hM dG fB;have iJ:=c4m (iU.m (ps:=["self","size"]) λ_ _ _ _ _ _=>ba2 λ_ _=>rfl) T ix hs hr;have bx:=iJ.make cO gU T.c_Lane.m;have ai:=(c3y (eP.t X G λ_ _ _ _ _ _=>ba4 λ_ _ _ _=>rfl) T:FnT l.prog w K mg base _ _ _ _);have aE:=(c6o (iD.t X G λ_ _ _ _ _ _=>ba3 λ_ _ _=>rfl) T:FnT l.prog w K mg base _ _ _ _);have gD:=c6l (fG.t X G λ_ _ _ _ _ _=>ba2 λ_ _=>rfl) T ai aE;have hd:=(c4b (ho.t X G ↑906) T:FnT l.prog w K mg base _ _ _ _);have iR:=b7q (gv.t X G ↑906) T ai;have dI:=c4e (iL.t X G ↑906) T ai;have ha:=c6q (gS.t X G ↑906) T ai aE;have db:=c3z (iF.t X G ↑906) T ai aE;have cP:=(b8s (eD.t X G λ_ _ _ _ _ _=>ba2 λ_ _=>rfl) T:FnT l.prog w K mg base _ _ _ _);have ed:=c6n (ht.t X G λ_ _ _ _ _ _=>ba2 λ_ _=>rfl) T ai cP;have gI:=(c4d (gL.t X G λ_ _ _ _ _ _=>ba0 rfl) T:FnT l.prog w K mg base _ _ _ _);have gf:=c6p (fr.t X G ↑906) T gI;have fp:=b8t (eG.t X G λ_ _ _ _ _ _=>ba2 λ_ _=>rfl) T hd ed gD iR ha dI db;have hH:=c4f (hf.t X G λ_ _ _ _ _ _=>ba2 λ_ _=>rfl) T bx bU;have fn:=c9u (er.t X G λ_ _ _ _ _ _=>ba2 λ_ _=>rfl) T bD aN;have cg:=c1h (ek.t X G λ_ _ _ _ _ _=>ba3 λ_ _ _=>rfl) T hH fn;have el:=c9t (cK.t X G λ_ _ _ _ _ _=>ba3 λ_ _ _=>rfl) T gf (FnT.frame fp);have hD:=b1x (hY.t X G λ_ _ _ _ _ _=>ba3 λ_ _ _=>rfl) T am;have cC:=b1w (iI.t X G λ_ _ _ _ _ _=>ba3 λ_ _ _=>rfl) T am hD;have dS:=a9z (gm.t X G λ_ _ _ _ _ _=>ba3 λ_ _ _=>rfl) T am cm;have jh:=c4a (gJ.t X G λ_ _ _ _ _ _=>ba3 λ_ _ _=>rfl) T hl cg el;have cx:=(c1u (ct.m (ps:=["self"]) ↑906) T:MethT l.prog w K mg base _ _ _ _ _);have hI:=e1u dD T am hP cm (MakeT.frame bx) (MethT.frame bD) (MethT.frame bU) cx cg jh dS cC;exact hI
theorem walk{l:PySem.W.OpenLaw}{q:Program}{loose:List Str}{XP:(Str->Option Value)->Heap->Prop}{YP:World->Heap->Prop}{d:DefRec}{K:Params->Frag}(hn:l.most=some 63)(hdf:d.params.defaults=[])(hY:∀(w:World) (h:Heap),YP w h->(K w.params).In h)(F:∀(w:World) (mg:Str->Option Value) (fa:Addr) (h:Heap),(K w.params).In h->h.Ns mainGlobals mg->mg d.name=some (.ref fa) ->
   ∃fd:FuncData,(∀(s:Shared) (u:Value),BindsTo s fd ⟨[u],[]⟩ [("script",u)])/\∀base:Heap,(K w.params).In base->base.Ns mainGlobals mg->FnOk l.prog w (K w.params) mg base (CXK l.prog w) 13 fa fd ["script"] (c7r (K w.params))):
  PySem.W.WalkO q loose XP YP l.row.toRowW d [] (λf vs=>PySem.call f vs) :=
 L2.walk_of (n:=63) (k:=13) (x:="script") (CX:=λw=>CXK l.prog w) (sp:=λw=>c7r (K w.params)) hn ↑4 hdf ⟨rfl,by decide,by decide⟩ hY F (λ_ _ a ns hl _ hS=>⟨a,ns,rfl,hS,hl,λ_=>rfl⟩)
  λ_ _ _ _ _ z=>by obtain⟨_,_,_,_,_,q⟩:=z;exact q
end S
open PySem PySem.W PyProof.Rows
set_option maxRecDepth 100000
set_option maxHeartbeats 0
theorem PySem.Challenge.cw_slipring_k16_trails_judged_holds : PySem.Challenge.rw_slipring_k16_trails_judged.Holds := by
 refine hd ?_
 k_fill
 refine S.walk (l := PySem.Challenge.rw_slipring_k16_trails_judged) rfl rfl (fun w h Y => PySem.W.kIn_of Y) ?F
 case F =>
  intro w mg fa h KX G hmg
  apply S.all_mk (X := KX) (G := G) (hfa := hmg)
  all_goals try (first | k_is | kit_is | kts_exm | kernel_rfl)
  all_goals first | (refine' S.AtG.of ?d ?a ?b ?c; (case d => k_is); (case a => k_is); (case b => k_is); (case c => k_is)) | (refine' S.AtM.of ?d ?i ?a ?b ?c; (case d => k_is); (case i => k_is); (case a => k_is); (case b => k_is); (case c => k_is)) | (refine' S.AtF.of ?a ?b ?c; (case a => k_is); (case b => k_is); (case c => k_is)) | skip
