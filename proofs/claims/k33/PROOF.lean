import PyProof.Rows.All
import OpenK.KLine
import Lean
import PyProof.EqAt
import PyProof.EqKinds
import PyProof.TupleCall
import PyProof.NsDelKeeps
import PyProof.NeKinds
import PyProof.CompFree
import PyProof.CompMap
import KE.LcSums
import PyProof.CompUse
import PyProof.Rows.RuleIs
import PyProof.Rows.RuleIs2
import PyProof.ZipIter
import PyProof.DictKinds
import PyProof.DictRoads
import PyProof.AutoRange
import PyProof.FactsAll.range_1
import KE.KTryMore
import KE.KDictOf
import KE.KDictList
import KE.KFromBytes
import KE.KIsAll
import KE.KItem
import KE.KxBytes
import KE.RegKIsAll
import KE.RegKTryMore
import PySem.Challenge.RW_slipring_k33_stands_told
set_option Elab.async false
set_option compiler.extract_closed false
set_option linter.all false
set_option maxRecDepth 100000
set_option maxHeartbeats 4000000
section
open PySem PySem.W PyProof.Rows
set_option maxRecDepth 100000
set_option maxHeartbeats 0
theorem hk2{K:Params->Frag}{as:List Addr}(n:Nat)(e:∀P,as=(K P).map (·.1))(w:World)(s:Shared)(x:((as.take n).map s.heap.get?,(as.drop n).map s.heap.get?)=(((K w.params).take n).map (λp=>some p.2),((K w.params).drop n).map λp=>some p.2)):InK K w s.heap:=InK.of e w s (by simpa only[<-List.map_append,List.take_append_drop] using congr (congrArg (·++·) (Prod.mk.inj x).1) (Prod.mk.inj x).2)
set_option hygiene false in
local macro_rules|`(tactic| refine $hd ($n1 := $v1) ($n2 := $v2) ($n3 := $v3) ($n4 := $v4) ($n5 := $_ ($_ $k $a $e)) ($n6 := $_) ($n7 := $v7) ($n8 := $v8) $x1 $_ $x3 $x4 $x5 $x6 $x7 $x8 $x9 $x10 $x11 $x12 $x13 $x14 $x15)=>`(tactic| refine $hd ($n1 := $v1) ($n2 := $v2) ($n3 := $v3) ($n4 := $v4) ($n5 := fun s=>(List.map s.heap.get? (List.take 400 $a),List.map s.heap.get? (List.drop 400 $a))) ($n6 := fun w=>(List.map (fun p=>some p.2) (List.take 400 ($k w.params)),List.map (fun p=>some p.2) (List.drop 400 ($k w.params)))) ($n7 := $v7) ($n8 := $v8) $x1 (hk2 400 $e) $x3 $x4 $x5 $x6 $x7 $x8 $x9 $x10 $x11 $x12 $x13 $x14 $x15)
namespace PySem.W.Fast
local macro_rules|`(command|open $n*)=>do return Lean.mkNullNode (<-n.mapM λx=>`(def $x :=()))
open tw10257675875946525651 tw10368827614151553891 tw10374632558016547081 tw10538179210915043538 tw10627929193734500438 tw10926794812403192696 tw12076798943406307700 tw12731152576971404446 tw1298487162214275115 tw13265978090383273239 tw13932396165709540929 tw14382375192886884664 tw14455545822193828066 tw14800370929953404514 tw15181078141257973585 tw15536608767410316090 tw16220543967445188546 tw16288130148447953894 tw16506471722634982818 tw1745904855532632988 tw17689344090056996911 tw18314875396610151526 tw2361496342566212426 tw2875624504187281209 tw2935169645234900343 tw3210817489611942815 tw3509909880615404879 tw3542984721355170951 tw3877615705368685908 tw3945831679567021610 tw4740311737661911975 tw4855993817490462278 tw4891155283279915023 tw5803173834465269284 tw6594970650091316094 tw6621635546502472408 tw6634204113684779145 tw6823513602893255192 tw7033543273419693189 tw724307879160381300 tw733862000233005451 tw7478123994339007903 tw7724476698626901532 tw7774113678449685934 tw7849015676453855939 tw7893645736953833228 tw7990135213862412714 tw8233839104715478585 tw861502493610598483 tw8997383693586321770 tw9048766736347016508 tw9118428382037634054 tw9363214764283991203 tw9385439782273163706 tw938635154573522699 tw9863125073875416535 tw180266875558373844 tw4449799235075362730 tw4766597723019941021 tw9223045988441327695 tw13257283266767686631 tw9201617497623189827 tw12884060626414724322 tw463774138113389760 tw17348111734160510231 tw9113380124883318265 tw8865387616306378214 tw10373885705245885314 tw855453113358079251 tw5672623616920478581 tw17817366049700826239 tw1545724803604235189 tw6968137755033780318 tw2285686636504529566 tw5537553045615171315 tw8332346137001284160 tw17431205604353252913 tw11793702604926673555 tw14144024108822670751 tw134869140600922118 tw685176793378778422 tw1517009173149250642 tw10151330197121100416 tw6864887910540207759 tw13333588703604149420 tw10094733558918713432 tw17525541185626968058 tw4991487270385306882 tw7631320640757110747 tw15917658305576242666 tw7287071566680170395 tw7164969610272591079 tw5019544711922104826 tw7509565986652818475 tw3538781236444307513 tw12298192366917762067 tw11151835277377553703 tw10550934584343373414 tw15495752065017430504 tw9992116715903482975 tw6259241058660970061 tw4773484457636388862 tw17877845533520812795 tw5467331546851215429 tw8840235324560252208 tw18407495941553956032 tw7607420049574824106 tw4938610541543285704 tw16626521671886133394 tw11205608169257636508 tw14143020097148135716 tw15540911362017771936 tw17721149768220346479 tw12330612334027959195 tw12003660372656728261 tw8349214307167005616 tw13343301709244559618 tw15541240446876304647 tw13343918040275786880 tw2046362190076281809 tw16140922888777852060 tw10510019762269167821 tw646091604453992162 tw4538635040379822027 tw16217903435359918192 tw10539347186207431242 tw14782954611325821827 tw9719393640593047967 tw3953844824629472508 tw8297923619242306668 tw16116027297012810434 tw2990168724187919761 tw6194202620331982285 tw7350462372000428638 tw2167315655227761912 tw4026147355466621588 tw16035376269474964883 tw14321067358777074657 tw4772062507164038959 tw6984818610989830729 tw12477129341811645039 tw13631397514672939371 tw4323258101793500111 tw7828442866392281868 tw10406584006884427733 tw4490611911172417597 tw16728255500844073214 tw17823556299335049440 tw12393862125047025020 tw16860917588515726111 tw6046103115902281144 tw296083027919845158 tw172746767574481773 tw13313058339493701161 tw7867829370405329436 tw18003772858949239459 tw13037224057902187189 tw1835071406663858368 tw14522782377427387804 tw2595585439558603231 tw9402243437249704421 tw211337195705725219 tw17963105932079019327 tw15621116118777243554 tw12360917755211006479 tw15166322114958858414 tw6526287140368922620 tw1835201335921387983 tw10206286209542907786 tw13557862171009465336 tw555815775780349263 tw5240077947681225987 tw5000232492035539693 tw11220919329744738794 tw16232239604740543338 tw4884199854448574 tw15240619367488684849 tw13851515409511356469 tw772564365185477556 tw14746253646979254834 tw3919386906821981792 tw13936439389310444312 tw11837218909656210887 tw506581581156960101 tw14755158882433999464 tw1719895430356276633 tw10095894221667365369 tw10159399881129095643 tw13601115934706021691 tw5622701340561072331 tw17184031218471190783 tw5086489192560080304 tw10295913840692754127 tw14022695629967993375 tw4561898282857576226 tw18073898193381586223 tw11263768400469242888 tw4964365479395341524 tw17163426234232328066 tw8413399678365625193 tw6714880395473160397 tw28018229315631829 tw3652199383789512132 tw12670982853097334264 tw14847308668706973960 tw12747814925858328940 tw12652081859355081885 tw12125097214300078407 tw4493901809537577575 tw2894314189432023629 tw8319933024895762948 tw10312438410070409164 tw7485256538410118956 tw16902440903046159558 tw6828597562223498359 tw8431482922422412695 tw5137589814051832496 tw2595618661548880785 tw16864618592142003386 tw14537775516033599862 tw12550775161083096063 tw14961746396406840608 tw16101134707931498060 tw4993863958327201973 tw16636501806038632012 tw5404398260228975080 tw4946147512530127568 tw10236332898609347644 tw6548459193220583526 tw14993981098963755598 tw9592521066531166775 tw9689729476882780088 tw8293125293789966914 tw2846267367221353805 tw2466311954974566718 tw12297992134047619483 tw6631347999910079877 tw4413860948169739490 tw12549542988036985293 tw6030501089693204938 tw431221854992830470 tw11212356425047092601 tw14219159868682941630 tw17510684818845775701 tw18183970276198133131 tw15481805183316651443 tw2144661209622563809 tw12315944733273679750 tw8185220541750880888 tw13215348057498601715 tw18095796173783872564 tw11449968299874610285 tw13953587524928339648 tw4859391219904099992 tw14935156969734317764 tw866717566613908145 tw14859695947638507448 tw11468729153070441980 tw3520257249291928256 tw5344687154915797982 tw10886659093417053267 tw11033627544408312984 tw16005714805435085966 tw727553628536289456 tw9252304221032618942 tw2455152089536381482 tw12269216009862288129 tw18352723725473834589 tw14036186469904095446 tw16802631365582062104 tw12431713363859531893 tw7484994123860896570 tw1045582712504079209 tw6094820017090691545 tw17397653436517662659 tw547895379624588593 tw17382457898008728272 tw14479964200598819128 tw11373181179767321252 tw2261719852989239553 tw4598271963242535575 tw8374155422468719031 tw376983999666122830 tw17937168697417666835 tw1484650774730072618 tw4683681711962371626 tw18105302477358141223 tw14564479935002850509 tw3721919958574915784 tw9294201344175945319 tw15577281813014381367 tw14995258362815363992 tw17360015989920007124 tw1142673529048489019 tw10851082721055443051 tw86012387029904805 tw9757595895972200118 tw11401859456886640639 tw11095110211248682772 tw1062514266329012355 tw15805137534098808535 tw2868442198168577507 tw16792556548410726896 tw12461081396071149458 tw2474200967059427378 tw8222940686941784037 tw7212858340449540239 tw1125065396945160393 tw2483321941437592071 tw1405720946626083897 tw12750670339961964742 tw890339118813698166 tw9950792792127014553 tw5805800948307579973 tw5662061979359257339 tw247591363613054380 tw14760874974797668852 tw16120054744476736488 tw14940998509354871970 tw3665444673518743966 tw13205091638197436094 tw17483705464198625004 tw15402603294489630176 tw5634867526602368427 tw16422413458241162112 tw8047209995159408440 tw3997487885647526937 tw15831126876759372255 tw256976265262469064 tw14170518179582410385 tw13385558918117058561 tw18101783494082082527 tw1205604411410820431 tw10228342955482612591 tw10519837036962490867 tw18220031379085947620 tw14903569129155370506 tw8833860146974802555 tw7921390202802761869 tw4903002758410956813 tw8219003486749837733 tw3641951560692057861 tw3042748168174471775 tw17760279517084355780 tw10611411778653204182 tw11266997524610791606 tw5364010647548929812 tw4483904966330829159 tw18031968618487185184 tw17659185236578331656 tw16003985067176294414 tw9404705873571188630 tw2983127059725616120 tw13053394406489344094 tw15142666989864626641 tw11907897558876765624 tw17590876675597686902 tw13705283562680751584 tw15052318979288761249 tw14546174082565282566 tw17890440400047909864 tw16145670418848962200 tw6880980288501444468 tw18333273249017474000 tw5920806927976990809 tw17986951261819808105 tw15932183184989994656 tw7900394595670775223 tw10395332584310045583 tw17261404542052806724 tw14569604634059749682 tw17016834523296244275 tw16109456028575089023 tw6900931685637148767 tw9679390387850249182 tw12738610918357793766 tw15012102849882553082 tw9388066449989048879 tw13069393092227542028 tw10859743581388371069 tw2997480634906808460 tw6338894885288841830 tw4860023922305330110 tw8210202977690762169 tw11564986514327137767 tw7787813539459594420 tw5812350808301622050 tw15969335453137586327 tw18400553757987027518 tw5522115075389312692 tw4693966885379303072 tw16670193898709178398 tw12132596417379514657 tw6284410105664486691 tw3236729772642805936 tw12715800853834201459 tw11207431853666184334 tw16409965706819354750 tw15267169705364848929 tw7792700002687035005 tw14202271707224943307 tw6690350156832105676 tw10470340158578859262 tw3374319085511977134 tw9678289623588505577 tw8002303944043701648 tw17079817176256170043 tw8733291241859026926 tw17082689572870858151 tw14935467056822913822 tw14398111036562950334 tw10341888390210383824 tw7424060955962978353 tw3208522521903949160 tw3985964047577975286 tw12740759652641322565 tw5610444585433571239 tw7372170664606466022 tw4334401890000744311 tw12773500944031208451 tw5371794888043636658 tw10198052994689861382 tw13394580363473044415 tw12382822922155266910 tw13996866031312336078 tw3235425350174046738 tw9860861378791804195 tw2773992215795510196 tw9186807149237001177 tw18146532975450069615 tw13674586047789940208 tw3543459598558145280 tw2941924889016668590 tw2275282789119773048 tw12717557048674177747 tw13055953723892786844 tw3239113980409921550 tw2629151800749243262 tw11513857634932158529 tw15699961213505342161 tw5462360663327728810 tw140236481695663071 tw13539809779269347639 tw5274481202262711730 tw2228412568605170491 tw12396662096508845406 tw12681666616541194006 tw9381626543082597023 tw896239598344801917 tw13444670453868202053 tw15235614512728720 tw4635989785427082552 tw699815216081779126 tw16522183678017940807 tw9619071485814978506 tw6945566481307383155 tw15171223727094530161 tw11272164335830466941 tw8912161614967838395 tw2213964242967304950 tw17351735930882485243 tw1537541725227008683 tw9768259533172459722 tw5449563278759341024 tw13571862603940711859 tw5342471268416680606 tw15702583709834301711 tw10186303709888756887 tw8725675927981157988 tw9456574344343218679 tw5438652380644606353 tw2754868194923854518 tw13757698761724263525 tw15150329256914348856 tw11657350159256941575 tw2314633323536394700 tw9977182230042388008 tw7942791058656714990 tw5702276774652866934 tw2353497105660221152 tw16670775579421159206 tw11429584451438056573 tw4757880891971583632 tw896878414759379649 tw17170472223608059050 tw17188069144378779261 tw11738243743197964597 tw5661595848482461739 tw14520296925931582552 tw7397212543588705075 tw4699756791338806529 tw13073492499399858440 tw1303901927050219478 tw6162269159774324313 tw2576523973992343609 tw15254633091992210921 tw7933485763601977624 tw16797375974695604193 tw15415318616479256277 tw14689541978594310382 tw12250869413391326473 tw12887044766017154078 tw10988764466652934233 tw13034982811429478159 tw8185545411690514434 tw17271881437230615512 tw2345282404023599388 tw694261584828832409 tw2238811745713579835 tw18060508904421208200 tw8232614014015475128 tw4548300405975405348 tw13813618637161013713 tw11962351593759143498 tw15418378422589880096 tw6056707288978253535 tw6798380500665416597 tw5306753302271460952 tw11524815483048965402 tw7231845647793152400 tw5816495043963226922 tw10826640976665885199 tw577049184839899653 tw3328811466098603303 tw8737599933303070863 tw17508347553164502932 tw12768989823518198380 tw10713865542653931438 tw6420159726195949164 tw6125853113672642322 tw16053306600634468012 tw8909772338491405060 tw5171440476677080432 tw16103829930404553856 tw13710940844802916613 tw12921946191010883867 tw10861573186032746274 tw8166255043249204926 tw5285915839522022235 tw12132732476715806282 tw4015202173357781934 tw1599053048872161195 tw757356599333046425 tw9869809959619462935 tw6105849179199505303 tw14061609134260724683 tw15475723433398761304 tw8159993647027272844 tw2135409205425526673 tw622995879521568732 tw8157277791214410489 tw2041926188850086339 tw16721508838639397229 tw11078473246598507814 tw9972681490609642005 tw5845002605336314091 tw1998347030407657756 tw18328257000508772394 tw15627779663793561183 tw14226173905949225808 tw13861969467909019144 tw12528533614272120300 tw12020253756985099128 tw9045458381397004210 tw5269183497594736927 tw17499849576073844966 tw9959121941294770655 tw8535803893964050539 tw6557801498797044033 tw2132029292895624192 tw15138174406397646402 tw13384656265869573321 tw8996207646774452837 tw7007286002206832825 tw593343749668468936 tw3456351732281881909 tw14647417624928369756 tw1000662321505670351 tw8171798328758944481 tw12858089460409395330 tw2400638427578300857 tw6170744672141170255 tw4046790133079468173 tw2080317491765294665 tw16453263628727151865 tw9433028549170029634 tw8398943975594018772 tw3049343062529576306 tw1342123614928995077 tw8590580007683888701 tw2692750590507578028 tw4704452742865826424 tw14329579894275425762 tw7592715696027808041 tw5323657890516693427 tw2754379104384642236 tw12903330217458380548 tw937210970483165301 tw8546256303203405941 tw511232430288663203 tw16203965252921439515 tw14664691819916384248 tw14284835775768690865 tw10843851513400154316 tw5341297951324810720 tw1692201390411429781 tw15401437161963490237 tw14904681115217272601 tw10538165733446703262 tw87601786513091389 tw5890639436620234070 tw2694234056635809718 tw18048741565030583774 tw17267597263503486738 tw15565715512253457277 tw14651306747883248417 tw9536688357841153863 tw761803264340522177 tw261171577418715137 tw18418582437962087742 tw9646623106273453227 tw6060609690816243450 tw16298917771340976007 tw14963028359598502718 tw12064304430848566033 tw11526606772788702011 tw10910644110388302437 tw8331849164307833061 tw6607644564249050058 tw4906484309439969231 tw16902085369446701243 tw819570635367399668 tw8080008513338510535 tw7374399212775623666 tw12669407529647801677 tw8285278889055680438 tw6124413428159637790 tw542563422162235373 tw15861351967447197489 tw10387345722656961088 tw3297117884562324255 tw2708214617527550399 tw6953138203311097117 tw182723221234572337 tw14538725608371270373 tw10388488172074580225 tw8919978131948313185 tw6575520176995025181 tw6248682570935725439 tw4189273013823423559 tw4171853373547519906 tw209982475168477708 tw1725486776273817318 tw14845619989558847073 tw523537741815420091 tw15593559885672580101
end PySem.W.Fast
open_top hd for PySem.Challenge.rw_slipring_k33_stands_told
end
open PySem.W (Frag findIn nsIn mg_of mroIn keepIn kia_one excIn clsIn isFn mg_none_of plainGet hasDictIn makesIn codeIn exmAny plainOver callWith_K kitOne specialIn exmOne)
set_option hygiene false
local macro_rules
| `(↑901)=>`(FnT P w K mg base)
| `(↑902)=>`(MethT P w K mg base cl.Giver)
| `(↑903)=>`(MethT P w K mg base cl.Taker)
| `(↑904)=>`(MethT P w K mg base)
| `(↑905)=>`(LH cl H A n c os bk gs ts ps Gq Tq tl lt)
| `(↑906)=>`(λ_ _ _ _ _ _=>ba1 λ_=>rfl)
local macro_rules
| `(↑1)=>`(⟨rfl,rfl,rfl,by decide +kernel,rfl,by decide +kernel,by decide +kernel⟩)
| `(↑2)=>`((by lia))
| `(↑3)=>`((λf cdv A' outer s H vs Q E hr h=>?_))
| `(↑4)=>`((by decide))
| `(↑5)=>`((a4x (K:=K) (pu 0)))
| `(↑6)=>`(LH cl H A L.n L.c L.os L.bk L.gseen L.tseen ps Gq Tq tl lt)
| `(↑7)=>`((λf cdv A outer s H vs Q E hr h=>?_))
| `(↑8)=>`((λvs H Q E h=>by walk_at "len"))
| `(↑9)=>`((b5f (huN hr 1) (pu 1) m4 (λ_ _=>rfl)))
| `(↑10)=>`((b5f (huN hr 1) (pu 0) m4 (λ_ _=>rfl)))
| `(↑11)=>`((λ_ _=>rfl))
| `(↑12)=>`(e2d cl H A L (gstep L) ps Tq tl (lt.tch (gT L)) Q)
| `(↑13)=>`(Inv X pins σ H s)
| `(↑14)=>`(Txt K mg cl)
| `(↑15)=>`(e2c cl H A L (tstep L) Gq tl (lt.tch (tT L)) Q)
| `(↑16)=>`((.tail _ (.tail _ (.tail _ (.tail _ (.head _))))))
| `(↑17)=>`((a0d (huN hr 1) (pu 1) m4 m4 rfl))
| `(↑18)=>`((d5 m4 (d5 m4 i9)))
| `(↑19)=>`((d7l (K:=K)))
| `(↑20)=>`(MethT P w K mg base cl.Board "write" 2 ["self","cell","number"] (b0p cl))
local macro_rules
| `(↑21)=>`((model X.prog X.w))
| `(↑22)=>`((.inl rfl))
| `(↑23)=>`((huN hr 1))
| `(↑24)=>`(MethT P w K mg base cl.Board "read" 2 ["self","cell"] (b3d cl))
| `(↑25)=>`((d5 i4 i9))
| `(↑26)=>`((Addr×Obj))
| `(↑27)=>`((.tail _ (.tail _ (.head _))))
| `(↑28)=>`((List Int))
| `(↑29)=>`(Frag)
| `(↑30)=>`((nomatch (show true=false from y)))
| `(↑31)=>`((Nat.le_refl _))
| `(↑32)=>`((v7 (c6x (K:=K)) (by rfl) T.z_len PySem.boot_len (d5 (pv 0) i9)))
| `(↑33)=>`((x == ("__debug__":Str)))
| `(↑34)=>`((d7 (m8 m4)))
| `(↑35)=>`((d5j X N scope cl C s H ex pn'))
| `(↑36)=>`(FnT P w K mg base "_law_touch" 1 ["lane","who","cell","value"] a2e)
| `(↑37)=>`((d5 (pu 0) (d5 i4 (d5 (k7 v3 (pu 3) i4) ↑145))))
| `(↑38)=>`((d8g rfl rfl (by decide +kernel) (by decide +kernel) rfl rfl))
| `(↑39)=>`(MethT P w K mg base cl.Giver "next_order" 2 ["self"] (a4o cl))
| `(↑40)=>`((λz=>(nomatch (show true=false from z))))
local macro_rules
| `(↑41)=>`((a9o I q (by simp)))
| `(↑42)=>`((c6x (K:=K)))
| `(↑43)=>`((e3z _))
| `(↑44)=>`((.lst (acc++[y])))
| `(↑45)=>`(FnT P w K mg base "onward" 3 ["size","turn","many"] (c4a cl))
| `(↑46)=>`(LH cl H A n c os bk gs ts ps Gq Tq tl lt)
| `(↑47)=>`((d5 (pv 1) i9))
| `(↑48)=>`((d5 (pv 0) i9))
| `(↑49)=>`((d5 (pu 0) i9))
| `(↑50)=>`((acc++[y]))
| `(↑51)=>`((4*(t % (n:Int)).toNat+3))
| `(↑52)=>`((4*(t % (n:Int)).toNat))
| `(↑53)=>`((.lst (o.map V.int)))
| `(↑54)=>`((b5p os Gq.nu Gq.le/\0<=a3m Gq.nu Gq.le/\a3m Gq.nu Gq.le<os.length))
| `(↑55)=>`(LH cl H A n c os bk gs ts ps G T tl lt)
| `(↑56)=>`((model prog w))
| `(↑57)=>`(OWx H a s ks bs ts)
| `(↑58)=>`((by with_unfolding_all rfl))
| `(↑59)=>`(FnOk X.prog X.w X.K X.mg X.base CX k f fd ps sp)
| `(↑60)=>`((by rw[es]))
local macro_rules
| `(↑61)=>`(MethT P w K mg base cl.Giver "place" 4 ["self"] (a1f cl))
| `(↑62)=>`((s.heap.objs.size+1))
| `(↑63)=>`((d5j X N scope cl C s3 H3 fp (X.pn++pins)))
| `(↑64)=>`((d5 (pu 1) i9))
| `(↑65)=>`(TI cl H la wl ko F F2 A L tl a s)
| `(↑66)=>`((.ins C dx fs))
| `(↑67)=>`(Str->Option Value)
| `(↑68)=>`((c0y nt fr σ))
| `(↑69)=>`((Nx.refl A H))
| `(↑70)=>`(FnT P w K mg base "check_size" 1 ["size"] (b2v cl))
| `(↑71)=>`(((L.g+2*L.n-1) % L.n))
| `(↑72)=>`((.ListComp elt [⟨tg,iter,ifs,0⟩] scope pos))
| `(↑73)=>`((k7 a0p (a0k T.m_CELLS_OF_A_PLACE rfl) (pv 0)))
| `(↑74)=>`((if b then [.ref d,.ref (a 4)] else [.ref (a 3),.ref d]))
| `(↑75)=>`((L.t % L.n))
| `(↑76)=>`((.Call (.Attribute o m apos) (e::es) [] pos))
| `(↑77)=>`((some (.builtin "object.__setattr__")))
| `(↑78)=>`((.builtin "getset_descriptor.__get__"))
| `(↑79)=>`((λy=>(nomatch (show Stg.look=Stg.thing from y))))
| `(↑80)=>`((backToKw pos (keywordEach [] X.env)))
local macro_rules
| `(↑81)=>`((ns.map V.int))
| `(↑82)=>`((.builtin "object.__class__"))
| `(↑83)=>`((starEach es X.env))
| `(↑84)=>`((.Call (.Name x p) (e::es) [] pos))
| `(↑85)=>`((k7 a0p i4 (pu 3)))
| `(↑86)=>`((k7 a0p i4 (pu 2)))
| `(↑87)=>`((ha pins s σ H _ I h))
| `(↑88)=>`((.lst acc))
| `(↑89)=>`((g9 st))
| `(↑90)=>`((c.getD (4*(sp % n).toNat) 0))
| `(↑91)=>`(b0u (CXK X.prog X.w) X E)
| `(↑92)=>`(H p=some (.lst xs))
| `(↑93)=>`((o8 (K:=K) (pu 0) (v5 i9)))
| `(↑94)=>`((nomatch z))
| `(↑95)=>`((L.g % L.n))
| `(↑96)=>`((.Call (.Attribute o m apos) [] [] pos))
| `(↑97)=>`((he pins s σ H _ I h))
| `(↑98)=>`(keepIn K (.ref f)=true)
| `(↑99)=>`(((sp+1) % (2*n)))
| `(↑100)=>`((.type "tuple"))
local macro_rules
| `(↑101)=>`((d7 (m8 e6w)))
| `(↑102)=>`((d5k (K:=K)))
| `(↑103)=>`((a (if b then 5 else 6)))
| `(↑104)=>`((4*ts.length))
| `(↑105)=>`((4*gs.length))
| `(↑106)=>`((4*(sp % n).toNat+3))
| `(↑107)=>`(Value->Shared->Prop)
| `(↑108)=>`((upd H D (.lst [])))
| `(↑109)=>`(⟨by lia,by lia⟩)
| `(↑110)=>`((4*L.n+2))
| `(↑111)=>`((λ_ _ _=>rfl))
| `(↑112)=>`(⟨_,rfl,?_⟩)
| `(↑113)=>`(Nat->List V->Hp->Prop)
| `(↑114)=>`((t % (n:Int)))
| `(↑115)=>`((EP X pins σ Q))
| `(↑116)=>`((some (.ref f)))
| `(↑117)=>`(TRel L Tq ps)
| `(↑118)=>`((λ_ z=>nomatch z))
| `(↑119)=>`((.type "int"))
| `(↑120)=>`(⟨nx,rt,bk,ct⟩)
local macro_rules
| `(↑121)=>`(PA X (e::es) t)
| `(↑122)=>`((Heap.lt_size e))
| `(↑123)=>`((λz=>nomatch z))
| `(↑124)=>`((s.os++[o]))
| `(↑125)=>`((c9b st))
| `(↑126)=>`((s.g % s.n))
| `(↑127)=>`((b5f ↑23 (pu 2) m4 ↑11))
| `(↑128)=>`((a1n (k:=4) (pu 0) hr ↑4 j4))
| `(↑129)=>`((d5 (a4x (K:=K) ↑5) (d5 ↑5 i9)))
| `(↑130)=>`((d5 ↑5 i9))
| `(↑131)=>`((a1n (k:=2) (pu 0) hr ↑4 j4))
| `(↑132)=>`((l7 a0m (pu 4) m4 ↑43))
| `(↑133)=>`((a4x (K:=K) ↑5))
| `(↑134)=>`((a0c ↑19 (pv 0) i4 ↑11))
| `(↑135)=>`((d7 (a0d ↑23 (pu 2) m4 m4 rfl)))
| `(↑136)=>`((.tail _ (.tail _ (.tail _ ↑16))))
| `(↑137)=>`(PySem.W.Looks ↑56 s.heap (typeOf (.ref x)) (.ref C))
| `(↑138)=>`((b5f ↑23 (pu 4) m4 ↑11))
| `(↑139)=>`((h.core.high ↑2))
| `(↑140)=>`((a1n (k:=3) (pu 0) hr ↑4 j4))
local macro_rules
| `(↑141)=>`((by simpa using ne 1 ↑2 ↑2))
| `(↑142)=>`((by simpa using ne 0 ↑2 ↑2))
| `(↑143)=>`((KpA.upd (j:=3) ↑2))
| `(↑144)=>`((upd H4 D ↑44))
| `(↑145)=>`((d5 b3q i9))
| `(↑146)=>`((v7 ↑42 (by rfl) T.z_len PySem.boot_len ↑130))
| `(↑147)=>`((d5 ↑128 i9))
local macro_rules
| `(tactic|fail "a")=>`(tactic|(
  obtain⟨many,last,hB,hLast⟩:=hL.brd;obtain⟨⟨dxb,eb⟩,el,hlen,n2,n8⟩:=id hB;have p0:=Int.emod_nonneg t (show(n:Int)≠0 by lia)
  have p1:=Int.emod_lt_of_pos t (show(0:Int)<n by lia)
  have o0:=Int.emod_nonneg (t + -1) (show(2*(n:Int))≠0 by lia)
  have o1:=Int.emod_lt_of_pos (t + -1) (show 0<(2*(n:Int)) by lia)
  have q0:0<=ahd n t:=Int.emod_nonneg ((t + -1) % (2*(n:Int))) (show(n:Int)≠0 by lia)
  have q1:ahd n t<n:=Int.emod_lt_of_pos ((t + -1) % (2*(n:Int))) (show 0<(n:Int) by lia)))
| `(tactic|fail "b")=>`(tactic|(
  have hn:0<L.n:=ok.hn;have g0:gi L=L.g:=d2a e ↑4;have he0:Gq.he=.int ((L.g % (2*L.n):Nat):Int):=by rw[<- g0];exact hg.he (by rw[e];decide)
  have tn:=a0q (i:=L.g) hn;have nu0:Gq.nu=v9 L.os L.g:=by rw[<- g0];exact hg.nu (by rw[e];decide) (by rw[e];decide)
  have le0:Gq.le=a0a L.os L.g:=by rw[<- g0];exact hg.le (by rw[e];decide) (by rw[e];decide) (by rw[e];decide)))
| `(tactic|fail "c")=>`(tactic|(
  obtain⟨many,last,hB,hLast⟩:=hL.brd;obtain⟨⟨dxb,eb⟩,el,hlen,n2,n8⟩:=id hB))
| `(tactic|fail "d")=>`(tactic|(
  have hn:0<L.n:=ok.hn;have he0:Tq.he=.int ((L.t % (2*L.n):Nat):Int):=ht.he (by rw[e];rfl)
  have tn:=a0q (i:=L.t) hn;have nf0:Tq.nf=.int ((L.f % (2*L.n):Nat):Int):=by have:=ht.nf (by rw[e];rfl);rw[e] at this;exact this
  have pa0:ps=y7 L.os L.f (L.t-L.f):=by rw[ht.pa];exact if_neg (by rw[e];decide)))
| `(tactic|fail "e")=>`(tactic|(
  walk_at "go";refine d7z ?_;walk_at "go"))
| `(tactic|fail "f")=>`(tactic|(
  have p0:=Int.emod_nonneg t (show(n:Int)≠0 by lia)
  have p1:=Int.emod_lt_of_pos t (show(0:Int)<n by lia)))
| `(tactic|fail "g")=>`(tactic|(
  have nla:la≠x:=λz=>by rw[<- z,ela] at hx;cases hx
  have ela2:=kp _ _ (sm _ _ ela) (by simpa using nla)
  have nDx:D≠x:=λz=>by rw[z,d9] at hD;cases hD
  have nmx:m≠x:=λz=>by rw[z,d9] at hm;cases hm
  have hD0:=n6 sm hD;have hm0:=n6 sm hm;have nDl:D≠la:=λz=>by rw[z,ela] at hD0;cases hD0
  have nml:m≠la:=λz=>by rw[z,ela] at hm0;cases hm0))
| `(tactic|fail "h")=>`(tactic|(
  refine ↑112;walk_at "go";refine⟨A.bd,A.l,n,_,many,last,_,rfl,hB,?_⟩;rw[if_pos ⟨by lia,by rw[hlen];lia⟩]
  intro tt H' ht kp ett hB'))
| `(tactic|fail "i")=>`(tactic|(
  obtain⟨many,last,hB,hLt⟩:=z6.brd;obtain⟨tt,rfl,nt,ett⟩:=hLt.2.2 _ rfl;obtain⟨⟨dxb,eb⟩,_⟩:=id hB;walk_at "go";refine⟨A1.bd,A1.l,L.n,_,many,.ref tt,rfl,hB,?_⟩;walk_at "go";refine⟨p,tt,_,_,rfl,rfl,SqT.of d9,SqT.of ett,(λz=>↑94),(show 1+3<=sizeLine by decide),(λz=>↑94),λ_ p2 hp2=>?_⟩))
| `(tactic|fail "j")=>`(tactic|(
  rw[if_pos ⟨by lia,by rw[hlen];lia⟩]
  intro tt H' ht kp ett hB'))
local macro_rules
| `(tactic|fail "k")=>`(tactic|(exact k H' A Gq z ⟨rfl,λ_=>he0,λ_ _=>nu0,λ_ _ _=>le0,noC,noC⟩ kz ↑69))
| `(tactic|fail "l")=>`(tactic|(
  ·have nc:c≠la:=by simpa using n
   have ncx:c≠x:=λz=>by rw[z,hx] at e;cases e
   simp only[d8 nc,d8 ncx];exact kp _ _ (sm _ _ e) (by simpa using ncx)
  ·simp only[d8 nDx,d8 nDl]
   exact eD))
| `(tactic|fail "m")=>`(tactic|(
  obtain⟨dxg,eg⟩:=hL.gv;obtain⟨dxt,et⟩:=hL.tk))
| `(tactic|fail "n")=>`(tactic|(
  have h60:5000000<=sizeLine:=by decide
  have np:A1.kt≠p:=λz=>by rw[<- z,d8 n24,ext] at hp;cases hp
  have np2:A1.kt≠p2:=λz=>by rw[<- z,d8 np,d8 n24,ext] at hp2;cases hp2
  walk_at "go"))
| `(tactic|fail "o")=>`(tactic|(
  refine⟨A.gv,cl.Giver,dxg,_,_,_,rfl,eg,rfl,T.k_Giver,GP,?_⟩;walk_at "go";refine⟨A,n,c,os,bk,gs,ts,ps,Gq,Tq,tl,lt,true,A.gv,t,rfl,.inl ⟨rfl,rfl⟩,hL,he,t0,t1,?_⟩;walk_at "go";refine ↑112))
| `(tactic|fail "p")=>`(tactic|(
  refine⟨A.gv,cl.Giver,dxg,_,_,_,rfl,eg,rfl,T.k_Giver,G_next_order,?_⟩;walk_at "go";refine⟨A,n,c,os,bk,gs,ts,ps,Gq,Tq,tl,lt,rfl,hL,?_⟩))
| `(tactic|fail "q")=>`(tactic|(obtain⟨dxg,eg⟩:=hL.gv))
| `(tactic|fail "r")=>`(tactic|(
  rw[es] at k;refine⟨A,L.n,L.c,L.os,L.bk,L.gseen,L.tseen,ps,Gq,Tq,tl,lt,_,rfl,hL,he0,tn.1,tn.2,λH' z kz=>?_⟩))
| `(tactic|fail "s")=>`(tactic|(refine⟨A,L.n,L.c,L.os,L.bk,L.gseen,L.tseen,ps,Gq,Tq,tl,lt,false,A.tk,rfl,.inr ⟨rfl,rfl⟩,hL,λH' z kz=>?_⟩))
| `(tactic|fail "t")=>`(tactic|(refine⟨A,L.n,L.c,L.os,L.bk,L.gseen,L.tseen,ps,Gq,Tq,tl,lt,true,A.gv,rfl,.inl ⟨rfl,rfl⟩,hL,λH' z kz=>?_⟩))
local macro_rules
| `(tactic|fail "u")=>`(tactic|(
  walk_at "go";refine⟨n,_,rfl,e1y n2 n8 (by first|exact .inl rfl|exact .inr rfl) ?_⟩
  walk_at "go"))
| `(tactic|fail "v")=>`(tactic|(rcases this with rfl|rfl|rfl|rfl|rfl|rfl|rfl|rfl|rfl|rfl|rfl <;> rfl))
| `(tactic|fail "w")=>`(tactic|(
  obtain⟨n,c,g,t,os,bk,tr⟩:=s;obtain rfl:n=L.n:=h.n))
| `(tactic|fail "x")=>`(tactic|(intro pins s σ H Q I h))
| `(tactic|fail "y")=>`(tactic|(refine a4j (λy=>?_) (λy=>?_)))
| `(tactic|fail "z")=>`(tactic|(
  have px:p≠x:=λz=>by rw[z,d9] at b0;cases b0
  have p0:=n6 sm b0;have pl:p≠la:=λz=>by rw[z,ela] at p0;cases p0))
| `(tactic|fail "aa")=>`(tactic|(
  obtain⟨a,ea,ra⟩:=r1.at h1;obtain⟨c,ec,rc⟩:=r2.at h2;exact e5q I (h j a c ea ec) ra rc (by show X.A.units+1+n<cLine;lia)))
| `(tactic|fail "ab")=>`(tactic|(
  walk_at "go";refine⟨by show 2<=sizeLine;decide,λl hl=>?_⟩
  generalize u2:upd H1 l _=H2;obtain⟨s2,f2⟩:=nwS u2 hl))
| `(tactic|fail "ac")=>`(tactic|(intro pins s σ H x y v u Q I rx ry h))
| `(tactic|fail "ad")=>`(tactic|(
  ·simp only[d8 nmx,d8 nml]
   exact em
  ·rw[d8 (Ne.symm nla),d9]
   rfl
  ·rw[d9,hfs]
   rfl))
local macro_rules
| `(tactic|fail "ae")=>`(tactic|(·obtain⟨d,z⟩:=h.tk;exact⟨d,by rw[d8 (ne 3 ↑2 ↑2)];exact z⟩))
| `(tactic|fail "af")=>`(tactic|(·obtain⟨d,z⟩:=h.gv;exact⟨d,by rw[d8 (ne 2 ↑2 ↑2)];exact z⟩))
| `(tactic|fail "ag")=>`(tactic|(
  refine ↑112;rw[if_neg (show ¬ (false=true) by decide)]))
| `(tactic|fail "ah")=>`(tactic|(have h60:2000<=sizeLine:=by decide))
| `(tactic|fail "ai")=>`(tactic|(
  walk_at "st";walk_at "st";walk_at "go"))
| `(tactic|fail "aj")=>`(tactic|(refine⟨A.bd,A.l,n,_,many,last,_,_,rfl,hB,?_⟩))
| `(tactic|fail "ak")=>`(tactic|(
  intro X hP hw hK hc i pins s σ H E I hf st hg;subst hP hw hK))
| `(tactic|fail "al")=>`(tactic|(
  obtain⟨dx,ex⟩:=hN.ob;obtain⟨_,_,_,_,hL,_⟩:=id hN.lr))
| `(tactic|fail "am")=>`(tactic|(obtain⟨x,H1,I1,r1,q1⟩:=z0_))
| `(tactic|fail "an")=>`(tactic|(
  have e1:=r1.length;have e2:=r2.length))
local macro_rules
| `(tactic|fail "ao")=>`(tactic|(·rw[d8 (ne 7 ↑2 ↑2)];exact h.pa))
| `(tactic|fail "ap")=>`(tactic|(
  subst ex;obtain rfl:u=Value.ref a:=rx))
| `(tactic|fail "aq")=>`(tactic|(
  walk_at "go";rw[List.length_map]))
| `(tactic|fail "ar")=>`(tactic|(obtain⟨ks,bs,ts,owx⟩:=id ow))
| `(tactic|fail "as")=>`(tactic|(
  walk_at "go";rw[he]))
| `(tactic|fail "at")=>`(tactic|(obtain⟨k1,b1,t1,x1⟩:=h1))
| `(tactic|fail "au")=>`(tactic|(intro pins s σ H D I h))
| `(tactic|fail "av")=>`(tactic|(
  walk_at "go";exact h))
set_option hygiene true
local macro_rules
| `(tactic|fail "Y1")=>`(tactic|(dsimp only;decide))
| `(tactic|fail "Y2")=>`(tactic|(exact λz=>absurd z (by dsimp only;decide)))
| `(tactic|fail "Y3")=>`(tactic|(exact λz=>absurd z ↑4))
| `(tactic|fail "Y4")=>`(tactic|(first|exact .inl rfl|exact .inr rfl|assumption))
| `(tactic|fail "Y5")=>`(tactic|(first|exact Or.inl rfl|exact Or.inr (Or.inl rfl)|exact Or.inr (Or.inr rfl)))
inductive E2{α β:Sort _}(p:α->β->Prop):Prop|mk(a:α)(b:β)(h:p a b):E2 p
inductive E3{α β γ:Sort _}(p:α->β->γ->Prop):Prop|mk(a:α)(b:β)(c:γ)(h:p a b c):E3 p
inductive E4{α β γ δ:Sort _}(p:α->β->γ->δ->Prop):Prop|mk(a:α)(b:β)(c:γ)(d:δ)(h:p a b c d):E4 p
inductive E5{α β γ δ ε:Sort _}(p:α->β->γ->δ->ε->Prop):Prop|mk(a:α)(b:β)(c:γ)(d:δ)(e:ε)(h:p a b c d e):E5 p
inductive E6{α β γ δ ε ζ:Sort _}(p:α->β->γ->δ->ε->ζ->Prop):Prop|mk(a:α)(b:β)(c:γ)(d:δ)(e:ε)(f:ζ)(h:p a b c d e f):E6 p
inductive E10{α β γ δ ε ζ η θ ι κ:Sort _}(p:α->β->γ->δ->ε->ζ->η->θ->ι->κ->Prop):Prop|mk(a:α)(b:β)(c:γ)(d:δ)(e:ε)(f:ζ)(g:η)(i:θ)(j:ι)(k:κ)(h:p a b c d e f g i j k):E10 p
inductive E13{α β γ δ ε ζ η θ ι κ μ ν ξ:Sort _}(p:α->β->γ->δ->ε->ζ->η->θ->ι->κ->μ->ν->ξ->Prop):Prop|mk(a:α)(b:β)(c:γ)(d:δ)(e:ε)(f:ζ)(g:η)(i:θ)(j:ι)(k:κ)(l:μ)(m:ν)(n:ξ)(h:p a b c d e f g i j k l m n):E13 p
theorem zq1(h:True:=by fail "Y4"):True:=h
def q1:Lean.Syntax:=zq1._auto_1
theorem zq2(h:True:=by decide):True:=h
def q2:Lean.Syntax:=zq2._auto_1
theorem zq3(h:True:=by intro _;rfl):True:=h
def q3:Lean.Syntax:=zq3._auto_1
theorem zq4(h:True:=by rfl):True:=h
def q4:Lean.Syntax:=zq4._auto_1
theorem zq5(h:True:=by fail "Y5"):True:=h
def q5:Lean.Syntax:=zq5._auto_1
theorem zq6(h:True:=by fail "Y1"):True:=h
def q6:Lean.Syntax:=zq6._auto_1
theorem zq7(h:True:=by fail "Y2"):True:=h
def q7:Lean.Syntax:=zq7._auto_1
theorem zq8(h:True:=by fail "Y3"):True:=h
def q8:Lean.Syntax:=zq8._auto_1
namespace L2
open PySem PySem.Spec PyProof.Rows
abbrev Key:=Sum Int Str
noncomputable def d1y:Key->Value->Bool
 | .inl k,v=>Value.isInt k v
 | .inr x,v=>Value.isStrOf x v
noncomputable def e9i(w:World):Key->Int
 | .inl k=>hashInt k
 | .inr x=>hashStr w x
theorem a0n:∀{k:Key}{v:Value},d1y k v=true->(∃i t,k=Sum.inl i/\v=Value.int i t)\/(∃x t,k=Sum.inr x/\v=Value.str x t)
 | .inl i,v,h=>by
  obtain⟨t,e⟩:=Value.isInt_shape (k:=i) (v:=v) h;exact .inl ⟨i,t,rfl,e⟩
 | .inr x,v,h=>by
  obtain⟨t,e⟩:=Value.isStrOf_shape (x:=x) (v:=v) h;exact .inr ⟨x,t,rfl,e⟩
theorem d4i(i:Int)(t:Tok):d1y (.inl i) (.int i t)=true:=by simp[d1y,Value.isInt]
theorem d4h(x:Str)(t:Tok):d1y (.inr x) (.str x t)=true:=by simp[d1y,Value.isStrOf]
theorem e4h(a b:Int):decide ((Sum.inl a:Key)=Sum.inl b)=(a == b):=by
 by_cases e:a=b
 ·subst e;simp
 ·have h:¬ (Sum.inl a:Key)=Sum.inl b:=λq=>e (Sum.inl.inj q)
  rw[decide_eq_false h];exact(beq_eq_false_iff_ne.mpr e).symm
theorem e4e(a b:Str):decide ((Sum.inr a:Key)=Sum.inr b)=decide (a=b):=by
 by_cases e:a=b
 ·subst e;simp
 ·have h:¬ (Sum.inr a:Key)=Sum.inr b:=λq=>e (Sum.inr.inj q)
  rw[decide_eq_false h,decide_eq_false e]
theorem e4g(a:Int)(b:Str):decide ((Sum.inl a:Key)=Sum.inr b)=false:=decide_eq_false (λq=>nomatch q)
theorem e4f(a:Str)(b:Int):decide ((Sum.inr a:Key)=Sum.inl b)=false:=decide_eq_false (λq=>nomatch q)
noncomputable def a2b(prog:Program)(w:World):PySem.KeyKind prog w Key where
 is:=d1y
 hash:=e9i w
 inj:=λv a b ha hb=>by
  rcases a0n ha with ⟨i,t,rfl,rfl⟩|⟨x,t,rfl,rfl⟩
  ·rcases a0n hb with ⟨j,u,rfl,e⟩|⟨y,u,rfl,e⟩
   ·injection e with e1 _;rw[e1]
   ·exact nomatch e
  ·rcases a0n hb with ⟨j,u,rfl,e⟩|⟨y,u,rfl,e⟩
   ·exact nomatch e
   ·injection e with e1 _;rw[e1]
 byValue:=λk v h=>by
  rcases a0n h with ⟨i,t,rfl,rfl⟩|⟨x,t,rfl,rfl⟩ <;> rfl
 pyHash:=λhv h=>by
  rcases a0n hv with ⟨i,t,rfl,rfl⟩|⟨x,t,rfl,rfl⟩
  ·exact wpAny_pyHash_int h
  ·exact wpAny_pyHash_str h
 eqBool:=λhu hv h=>by
  rcases a0n hu with ⟨i,t,rfl,rfl⟩|⟨x,t,rfl,rfl⟩
  ·rcases a0n hv with ⟨j,u,rfl,rfl⟩|⟨y,u,rfl,rfl⟩
   ·rw[e4h] at h;exact wpAny_eqBool_int h
   ·rw[e4g] at h;exact SeqAt.EqAt.int_str i t y u _ _ _ _ h
  ·rcases a0n hv with ⟨j,u,rfl,rfl⟩|⟨y,u,rfl,rfl⟩
   ·rw[e4f] at h;exact SeqAt.EqAt.str_int x t j u _ _ _ _ h
   ·rw[e4e] at h;exact wpAny_eqBool_str h
 «strs»:=λk x t v h=>by
  rcases a0n h with ⟨i,u,rfl,e⟩|⟨y,u,rfl,e⟩
  ·exact nomatch e
  ·injection e with e1 _
   subst e1;cases v <;> rfl
theorem c8u(prog:Program)(w:World)(i:Int)(t:Tok):(a2b prog w).is (.inl i) (.int i t)=true:=d4i i t
theorem c8t(prog:Program)(w:World)(x:Str)(t:Tok):(a2b prog w).is (.inr x) (.str x t)=true:=d4h x t
inductive V where
 | non|bl (b:Bool)|int (i:Int)|str (x:Str)|byt (b:Array UInt8)|flt (b:UInt64)|ref (a:Addr)|ty (n:String)
 deriving DecidableEq
noncomputable def RelV:V->Value->Prop
 | .non,u=>u=Value.none
 | .bl b,u=>u=Value.bool b
 | .int i,u=>∃t,u=Value.int i t
 | .str x,u=>∃t,u=Value.str x t
 | .byt b,u=>∃t,u=Value.bytes b t
 | .flt b,u=>∃t,u=Value.float b t
 | .ref a,u=>u=Value.ref a
 | .ty n,u=>u=Value.type n
abbrev Vals:List V->List Value->Prop:=Paired RelV
theorem Vals.length{xs:List V}{us:List Value}(r:Vals xs us):xs.length=us.length:=Paired.length r
theorem Vals.get:∀{xs:List V}{us:List Value}{i:Nat}{x:V},Vals xs us->xs[i]?=some x->∃u,us[i]?=some u/\RelV x u
 | _,_,_,_,.nil,e=>by simp at e
 | _,_,0,_,.cons r _,e=>by simp at e;subst e;exact⟨_,rfl,r⟩
 | _,_,i+1,x,.cons _ t,e=>by
  obtain⟨u,h1,h2⟩:=Vals.get (i:=i) (x:=x) t (by simpa using e)
  exact⟨u,by simpa using h1,h2⟩
theorem Vals.set{x:V}{u:Value}(r:RelV x u):∀{xs:List V}{us:List Value}(i:Nat),Vals xs us->Vals (xs.set i x) (us.set i u)
 | _,_,_,.nil=>.nil
 | _,_,0,.cons _ t=>.cons r t
 | _,_,i+1,.cons q t=>.cons q (Vals.set r i t)
theorem Vals.append{xs ys:List V}{us ws:List Value}(h:Vals xs us)(s:Vals ys ws):Vals (xs++ys) (us++ws):=by
 induction h with
 | nil=>exact s
 | cons r t ih=>exact .cons r ih
theorem Vals.take:∀{xs:List V}{us:List Value}(n:Nat),Vals xs us->Vals (xs.take n) (us.take n)
 | _,_,0,_=>.nil
 | _,_,_+1,.nil=>.nil
 | _,_,n+1,.cons r t=>.cons r (Vals.take n t)
theorem Vals.drop:∀{xs:List V}{us:List Value}(n:Nat),Vals xs us->Vals (xs.drop n) (us.drop n)
 | _,_,0,r=>r
 | _,_,_+1,.nil=>.nil
 | _,_,n+1,.cons _ t=>Vals.drop n t
noncomputable def RelO:Option V->Option Value->Prop
 | some v,some u=>RelV v u
 | none,none=>True
 | _,_=>False
def KV{κ:Type}:List (κ×V)->List (κ×Value)->Prop:=Paired λ(p:κ×V) (q:κ×Value)=>p.1=q.1/\RelV p.2 q.2
def kV:Key->V
 | .inl i=>.int i
 | .inr x=>.str x
inductive HO where
 | lst (xs:List V)
 | tup (xs:List V)
 | dK (kvs:List (Key×V))|dT (kvs:List (List Key×V))
 | set (S:Int->Bool) (n:Nat)
 | ins (C dx:Addr) (fs:List (Str×V))
 | own (x:Addr)
 | xd (fs:List (Str×V))
 | met (f x:Addr)
 | rng (lo hi:Int)
 | frz (o:Obj) (u:HO)
 | tbl (ps:Array Value)
 | ext (φ:Heap->Prop)
abbrev Hp:=Addr->Option HO
noncomputable def upd(H:Hp)(a:Addr)(o:HO):Hp:=λb=>if b=a then some o else H b
theorem d9{H:Hp}{a:Addr}{o:HO}:upd H a o a=some o:=by unfold upd;rw[if_pos rfl]
theorem d8{H:Hp}{a b:Addr}{o:HO}(h:b≠a):upd H a o b=H b:=by unfold upd;rw[if_neg h]
theorem c7j{H:Hp}{a:Addr}{o u:HO}:upd (upd H a o) a u=upd H a u:=by
 funext b;unfold upd;split <;> rfl
theorem e1a{H:Hp}{a b:Addr}{o u:HO}(h:H a=some o)(h':H b=some u)(d:o≠u):a≠b:=by
 intro e;subst e;rw[h] at h';exact d (Option.some.inj h')
theorem k8{H:Hp}{a b:Addr}{o:HO}(h:H a=some o)(h':H b=none):a≠b:=by
 intro e;subst e;rw[h] at h';cases h'
section
variable(P:Program)(w:World)
noncomputable def ObjOk(H:Hp)(h:Heap)(a:Addr):HO->Prop
 | .lst xs=>xs.length<=sizeLine/\∃(its:List Value)(n:Nat),Vals xs its/\h.get? a=some { cls:=.type "list",data:=.seq its.toArray n }
 | .tup xs=>xs.length<=sizeLine/\∃its:List Value,Vals xs its/\IsTup h a its.toArray
 | .dK kvs=>kvs.length<=sizeLine/\(a == sysModules)=false/\∃vs,KV kvs vs/\h.DictOf (a2b P w) a vs
 | .dT kvs=>kvs.length<=sizeLine/\(a == sysModules)=false/\∃xs:List (List Key×Addr×Value),
   Paired (λ(p:List Key×V) (q:List Key×Addr×Value)=>p.1=q.1/\H q.2.1=some (.tup (p.1.map kV))/\RelV p.2 q.2.2) kvs xs /\
   ∃o es ep,h.get? a=some o/\o.ExactDict/\o.data=.dict es ep/\es.toList=xs.map (entryOfKey (tupleKind (a2b P w)))/\(xs.map (·.1)).Nodup
 | .set S n=>h.SetOf (intKind P w) a S n
 | .ins C dx fs=>H dx=some (.own a)/\fs.length<=1000/\dx≠a/\h.get? a=some (PySem.W.instObj C dx) /\
   ∃mA,h.Ns1 dx mA/\(∀f,RelO (fs.lookup f) (mA f))/\PySem.Within mA (fs.map (·.1))
 | .own _=>∃o,h.get? a=some o
 | .xd fs=>∃mA,h.Ns1 a mA/\∀f,RelO (fs.lookup f) (mA f)
 | .rng lo hi=>∃t u v,h.get? a=some { cls:=.type "range",data:=.fields #[.int lo t,.int hi u,.int 1 v] }
 | .frz o u=>h.get? a=some o/\ObjOk H h a u
 | .tbl ps=>h.get? a=some { cls:=.none,data:=.fields ps }
 | .met f x=>h.get? a=some (PySem.W.methodObj (.ref f) (.ref x))
 | .ext φ=>φ h/\(∃o,h.get? a=some o)/\∀h1 h2:Heap,φ h1->(∀o,h1.get? a=some o->h2.get? a=some o)->φ h2
def HOk(H:Hp)(h:Heap):Prop:=∀a o,H a=some o->ObjOk P w H h a o
end
section
variable{P:Program}{w:World}{H H':Hp}{h h':Heap}{a:Addr}{o:HO}
theorem ObjOk.lt(x:ObjOk P w H h a o):a<h.objs.size:=by
 cases o with
 | lst xs=>obtain⟨_,_,_,_,e⟩:=x;exact Heap.lt_size e
 | tup xs=>obtain⟨_,_,_,p⟩:=x;exact p.lt
 | dK kvs=>obtain⟨_,_,_,_,o,_,_,e,_⟩:=x;exact Heap.lt_size e
 | dT kvs=>obtain⟨_,_,_,_,o,_,_,e,_⟩:=x;exact Heap.lt_size e
 | set S n=>obtain⟨o,_,_,_,e,_⟩:=x;exact Heap.lt_size e
 | ins C dx fs=>obtain⟨_,_,_,e,_⟩:=x;exact Heap.lt_size e
 | own y=>obtain⟨_,e⟩:=x;exact Heap.lt_size e
 | xd fs=>obtain⟨_,⟨_,_,_,e,_⟩,_⟩:=x;exact Heap.lt_size e
 | rng lo hi=>obtain⟨_,_,_,e⟩:=x;exact Heap.lt_size e
 | frz ob u=>obtain⟨e,_⟩:=x;exact Heap.lt_size e
 | tbl ps=>exact Heap.lt_size (show h.get? a=some _ from x)
 | met f y=>exact Heap.lt_size (show h.get? a=some _ from x)
 | ext φ=>obtain⟨_,⟨_,e⟩,_⟩:=x;exact Heap.lt_size e
theorem Paired.mapP{α β:Type}{F G:α->β->Prop}{l₁:List α}{l₂:List β}(h:Paired F l₁ l₂)(f:∀a b,F a b->G a b):Paired G l₁ l₂:=by
 induction h with
 | nil=>exact .nil
 | cons r t ih=>exact .cons (f _ _ r) ih
theorem ObjOk.stay(x:ObjOk P w H h a o)(k:∀b u,(b=a\/H b=some (.own a))->h.get? b=some u->h'.get? b=some u)(ho:∀b,H b=some (.own a)->H' b=some (.own a))(ht:∀b xs,H b=some (.tup xs)->H' b=some (.tup xs)):ObjOk P w H' h' a o:=by
 induction o with
 | lst xs=>obtain⟨z,its,n,r,e⟩:=x;exact⟨z,its,n,r,k _ _ ↑22 e⟩
 | tup xs=>obtain⟨z,its,r,ob,e,c⟩:=x;exact⟨z,its,r,ob,k _ _ ↑22 e,c⟩
 | dK kvs=>obtain⟨z,y,vs,r,ob,es,ep,e,c⟩:=x;exact⟨z,y,vs,r,ob,es,ep,k _ _ ↑22 e,c⟩
 | dT kvs=>
  obtain⟨z,y,xs,r,ob,es,ep,e,c⟩:=x;exact⟨z,y,xs,Paired.mapP r λp q z=>⟨z.1,ht _ _ z.2.1,z.2.2⟩,ob,es,ep,k _ _ ↑22 e,c⟩
 | set S n=>obtain⟨ob,es,ep,t,e,c⟩:=x;exact⟨ob,es,ep,t,k _ _ ↑22 e,c⟩
 | ins C dx fs=>
  obtain⟨d,z,ne,e,mA,⟨od,es,ep,e2,c⟩,r⟩:=x;exact⟨ho _ d,z,ne,k _ _ ↑22 e,mA,⟨od,es,ep,k _ _ (.inr d) e2,c⟩,r⟩
 | own y=>obtain⟨ob,e⟩:=x;exact⟨ob,k _ _ ↑22 e⟩
 | xd fs=>obtain⟨mA,⟨od,es,ep,e,c⟩,r⟩:=x;exact⟨mA,⟨od,es,ep,k _ _ ↑22 e,c⟩,r⟩
 | rng lo hi=>obtain⟨t,u,v,e⟩:=x;exact⟨t,u,v,k _ _ ↑22 e⟩
 | frz ob u ih=>obtain⟨e,q⟩:=x;exact⟨k _ _ ↑22 e,ih q⟩
 | tbl ps=>
  have e:h.get? a=some { cls:=.none,data:=.fields ps }:=x;show h'.get? a=some { cls:=.none,data:=.fields ps };exact k a _ ↑22 e
 | met f y=>
  have e:h.get? a=some (PySem.W.methodObj (.ref f) (.ref y)):=x;show h'.get? a=some (PySem.W.methodObj (.ref f) (.ref y));exact k a _ ↑22 e
 | ext φ=>obtain⟨p,⟨o,e⟩,st⟩:=x;exact⟨st _ _ p λo q=>k _ _ ↑22 q,⟨o,k _ _ ↑22 e⟩,st⟩
theorem HOk.lt(x:HOk P w H h)(e:H a=some o):a<h.objs.size:=(x a o e).lt
theorem HOk.fresh(x:HOk P w H h)(e:h.objs.size<=a):H a=none:=by
 cases q:H a with
 | none=>rfl
 | some u=>exact absurd (Nat.lt_of_lt_of_le (x.lt q) e) (Nat.lt_irrefl _)
theorem HOk.kept(x:HOk P w H h)(k:∀b u,h.get? b=some u->h'.get? b=some u):HOk P w H h':=λa o e=>
 (x a o e).stay (λb u _ q=>k b u q) (λ_ q=>q) λ_ _ q=>q
theorem HOk.laid(x:HOk P w H h)(k:∀b u,h.get? b=some u->h'.get? b=some u)(hp:h.objs.size<=a)(new:ObjOk P w (upd H a o) h' a o):HOk P w (upd H a o) h':=λb u e=>by
 have hn:=x.fresh hp;by_cases hb:b=a
 ·subst hb;rw[d9] at e;cases e;exact new
 ·rw[d8 hb] at e
  exact(x b u e).stay (λc v _ q=>k c v q) (λc q=>by rw[d8 (k8 q hn)];exact q) λc xs q=>by rw[d8 (k8 q hn)];exact q
end
def Rd(H:Hp)(a:Addr)(u:HO):Prop:=H a=some u \/ ∃o,H a=some (.frz o u)
theorem Rd.ok{P:Program}{w:World}{H:Hp}{h:Heap}{a:Addr}{u:HO}(r:Rd H a u)(x:HOk P w H h):ObjOk P w H h a u:=by
 rcases r with r|⟨o,r⟩
 ·exact x a u r
 ·obtain⟨_,q⟩:=x a _ r
  exact q
noncomputable def Mut:Option HO->Prop
 | some (.lst _)=>True
 | some (.dK _)=>True
 | some (.dT _)=>True
 | some (.set _ _)=>True
 | some (.ins _ _ _)=>True
 | some (.ext _)=>True
 | _=>False
section
variable{P:Program}{w:World}{H:Hp}{h h':Heap}{x e:Addr}{o':HO}
theorem HOk.write(ok:HOk P w H h)(mu:Mut (H x))(he:e=x\/H e=some (.own x))(k:∀b u,b≠e->h.get? b=some u->h'.get? b=some u)(heo:∃u,h'.get? e=some u)(new:ObjOk P w (upd H x o') h' x o'):HOk P w (upd H x o') h':=λb u q=>by
 have nown:∀c y,H c=some (.own y)->c≠x:=λc y r z=>by subst z;rw[r] at mu;exact mu
 have ntup:∀c xs,H c=some (.tup xs)->c≠x:=λc xs r z=>by subst z;rw[r] at mu;exact mu
 by_cases hb:b=x
 ·subst hb;rw[d9] at q;cases q;exact new
 ·rw[d8 hb] at q
  by_cases hbe:b=e
  ·have q':H b=some (.own x):=by
    rcases he with z|z
    ·exact absurd (hbe.trans z) hb
    ·rw[hbe];exact z
   rw[q] at q';cases q';obtain⟨v,hv⟩:=heo;exact⟨v,by rw[hbe];exact hv⟩
  ·refine (ok b u q).stay (λc v hc r=>k c v ?_ r) (λc r=>by rw[d8 (nown c b r)];exact r) λc xs r=>by rw[d8 (ntup c xs r)];exact r
   rcases hc with rfl|hc
   ·exact hbe
   ·rintro rfl
    rcases he with z|z
    ·exact nown c b hc z
    ·rw[hc] at z;cases z;exact hb rfl
end
structure Un(fs ex:List Addr)(H H':Hp)(h h':Heap):Prop where
 keep:∀b o,h.get? b=some o->H b=none->b ∉ fs->b ∉ ex->h'.get? b=some o
 slot:∀b o,h.get? b=some o->H b=none->b∈fs->b ∉ ex->∃sl,h'.get? b=some { o with slots:=sl }
 free:∀b o,h.get? b=some o->H b=none->b ∉ ex->H' b=none
 there:∀b o,h.get? b=some o->b ∉ ex->∃o',h'.get? b=some o'
 tups:∀b xs,H b=some (.tup xs)->H' b=some (.tup xs)
 frzs:∀b o u,H b=some (.frz o u)->H' b=some (.frz o u)
 tbls:∀b ps,H b=some (.tbl ps)->∃more,H' b=some (.tbl (ps++more))
section
variable{fs fs' ex ex':List Addr}{H H1 H2:Hp}{h h1 h2 h':Heap}{a x e:Addr}{o:HO}
theorem Un.any(u:Un fs ex H H1 h h1){b:Addr}{ob:Obj}(q:h.get? b=some ob)(n:H b=none)(hx:b ∉ ex):∃sl,h1.get? b=some { ob with slots:=sl }:=by
 by_cases hb:b∈fs
 ·exact u.slot b ob q n hb hx
 ·exact⟨ob.slots,u.keep b ob q n hb hx⟩
theorem Un.kept(k:∀b u,h.get? b=some u->h'.get? b=some u):Un fs ex H H h h' :=
 ⟨λb ob q _ _ _=>k b ob q,λb ob q _ _ _=>⟨ob.slots,k b ob q⟩,λ_ _ _ n _=>n,λb ob q _=>⟨ob,k b ob q⟩,λ_ _ q=>q,λ_ _ _ q=>q,λ_ ps q=>⟨#[],by rw[q];simp⟩⟩
theorem Un.refl:Un fs ex H H h h:=Un.kept λ_ _ q=>q
theorem Un.laid(k:∀b u,h.get? b=some u->h'.get? b=some u)(hp:h.objs.size<=a)(hn:H a=none):Un fs ex H (upd H a o) h h' where
 keep:=λb u q _ _ _=>k b u q
 slot:=λb u q _ _ _=>⟨u.slots,k b u q⟩
 free:=λb u q n _=>by rw[d8 (Nat.ne_of_lt (Nat.lt_of_lt_of_le (Heap.lt_size q) hp))];exact n
 there:=λb u q _=>⟨u,k b u q⟩
 tups:=λb xs q=>by rw[d8 (k8 q hn)];exact q
 frzs:=λb u xs q=>by rw[d8 (k8 q hn)];exact q
 tbls:=λb ps q=>⟨#[],by rw[d8 (k8 q hn),q];simp⟩
theorem Un.write(mu:Mut (H x))(he:e=x\/H e=some (.own x))(k:∀b u,b≠e->h.get? b=some u->h'.get? b=some u)(heo:∃u,h'.get? e=some u):Un fs ex H (upd H x o) h h':=by
 have hx:∀b,H b=none->b≠x:=λb n z=>by subst z;rw[n] at mu;exact mu
 have hb:∀b,H b=none->b≠e:=λb n z=>by
  subst z;rcases he with r|r
  ·exact hx b n r
  ·rw[n] at r;cases r
 have hm:∀b u,H b=some u->¬ Mut (some u)->b≠x:=λb u q nm z=>by subst z;rw[q] at mu;exact nm mu
 refine⟨λb u q n _ _=>k b u (hb b n) q,λb u q n _ _=>⟨u.slots,k b u (hb b n) q⟩,λb u q n _=>by rw[d8 (hx b n)];exact n,λb u q _=>?_,
  λb xs q=>by rw[d8 (hm b _ q λz=>z)];exact q,λb u xs q=>by rw[d8 (hm b _ q λz=>z)];exact q,λb ps q=>⟨#[],by rw[d8 (hm b _ q λz=>z),q];simp⟩⟩
 by_cases hbe:b=e
 ·subst hbe;exact heo
 ·exact⟨u,k b u hbe q⟩
end
noncomputable def trk(h:Heap)(H:Hp):List Addr:=(List.range h.objs.size).filter λa=>(H a).isSome
noncomputable def d7p(h:Heap)(H:Hp):Heap:=PySem.W.hideAll h (trk h H)
theorem d4o(h:Heap)(H:Hp):(d7p h H).objs.size=h.objs.size:=PySem.W.hideAll_size _ _
theorem d7o{h:Heap}{H:Hp}{b:Addr}{o:Obj}(e:h.get? b=some o)(n:H b=none):(d7p h H).get? b=some o :=
 PySem.W.hideAll_get _ e λhm=>by
  have q:(H b).isSome=true:=(List.mem_filter.mp hm).2;rw[n] at q;simp at q
theorem e0w{h:Heap}{H:Hp}{b:Addr}{o:Obj}(e:(d7p h H).get? b=some o):h.get? b=some o/\H b=none:=by
 have e':h.get? b=some o:=PySem.W.of_hideAll (trk h H) e;refine⟨e',?_⟩;cases q:H b with
 | none=>rfl
 | some x=>
  have hm:b∈trk h H:=List.mem_filter.mpr ⟨List.mem_range.mpr (Heap.lt_size e'),by simp[q]⟩
  have z:(d7p h H).get? b=none:=PySem.W.hideAll_none (trk h H) hm;rw[z] at e;cases e
structure Mod(K:↑29)(mg:↑67)(base:Heap):Prop where
 kin:K.In base
 glob:base.Ns mainGlobals mg
 blt:∃mb,base.Ns builtinsNs mb/\∀x:Str,x≠"__name__"->mb x=bootBuiltins x
 nolimit:base.NoLimit
structure Cx where
 prog:Program
 w:World
 K:Frag
 mg:Str->Option Value
 base:Heap
 A:Around
 N:List Str
 s₀:Shared
 H₀:Hp
 env:Env
 outer:List Env
 stack:List Env
 ex:List Addr
 fn:Str->Bool
 calm:Bool
 pn:List ↑26
 xe:Value->Shared->Prop
def frs(l:List Env):List Addr:=l.filterMap (·.frame)
abbrev Cx.fs(X:Cx):List Addr:=frs X.outer
def Vis(sc:Scope)(x:Str):Prop:=sc.names.lookup x=some .local\/sc.names.lookup x=some .cell\/sc.names.lookup x=some .free
def Loc(sc:Scope)(x:Str):Prop:=sc.names.lookup x=some .local\/sc.names.lookup x=some .cell
noncomputable def e9z(env:Env)(h:Heap)(m:↑67)(x:Str)(u:Value):Prop :=
 (env.kindOf x=some .local/\m x=some u)\/((env.kindOf x=some .cell\/env.kindOf x=some .free)/\∃c,env.cells.lookup x=some c/\h.IsCell c (some u))
structure Cx.Ok(X:Cx):Prop where
 mod:Mod X.K X.mg X.base
 kind:X.env.scope.kind=.function
 glob:X.env.globals=mainGlobals
 blt:X.env.builtins=builtinsNs
 above:X.s₀.heap.objs.size<=X.env.locals
 inj:∀x y c,X.env.cells.lookup x=some c->X.env.cells.lookup y=some c->x=y
 has:∀x,(X.env.kindOf x=some .cell\/X.env.kindOf x=some .free)->∃c,X.env.cells.lookup x=some c
 cab:∀x c,X.fn x=true->X.env.cells.lookup x=some c->X.s₀.heap.objs.size<=c
 hd:X.calm=true->X.A.handled=none
 frames:X.A.frames=some X.stack
 stk:X.stack=X.outer\/(X.stack=X.env::X.outer/\X.env.frame=some X.env.locals)
 exf:∀b∈X.ex,b≠X.env.locals/\∀x c,X.env.cells.lookup x=some c->c≠b
 bs:∀b o,X.base.get? b=some o->X.s₀.heap.get? b=some o/\X.H₀ b=none
 bsz:X.base.objs.size<=X.s₀.heap.objs.size
 noex:∀b o,X.base.get? b=some o->b ∉ X.ex
 exfs:∀b∈X.ex,b ∉ X.fs
 funs:X.s₀.heap.FunFrames X.base X.outer
 frf:∀b∈X.fs,X.H₀ b=none
structure Inv(X:Cx)(pins:List ↑26)(σ:List (Option V))(H:Hp)(s:Shared):Prop where
 ok:X.Ok
 os:s.os=X.s₀.os
 bare:AllBare s.gens
 base:Un X.fs X.ex X.H₀ H X.s₀.heap s.heap
 loc:∃m,s.heap.Ns X.env.locals m/\∀(i:Nat)(x:Str)(v:V),X.N[i]?=some x->σ[i]?=some (some v)->Vis X.env.scope x->∃u,RelV v u/\e9z X.env s.heap m x u
 cell:∀x c,X.env.cells.lookup x=some c->∃v,s.heap.IsCell c v
 free:H X.env.locals=none
 freeC:∀x c,X.env.cells.lookup x=some c->H c=none
 pin:∀p∈X.pn++pins,s.heap.get? p.1=some p.2/\H p.1=none/\p.1≠X.env.locals/\p.1 ∉ X.fs/\∀v,p.2.data≠.cell v
 hok:HOk X.prog X.w H s.heap
 len:σ.length=X.N.length
section
variable{X:Cx}{pins:List ↑26}{σ:List (Option V)}{H H':Hp}{s:Shared}{h':Heap}
theorem Cx.Ok.nofr(ok:X.Ok){b:Addr}{o:Obj}(e:X.base.get? b=some o):b ∉ X.fs:=λhb=>by
 have:=(ok.funs.mem hb).1;rw[e] at this;cases this
theorem Inv.bs(I:↑13):∀b o,X.base.get? b=some o->s.heap.get? b=some o/\H b=none:=λb o e=>
 ⟨I.base.keep b o (I.ok.bs b o e).1 (I.ok.bs b o e).2 (I.ok.nofr e) (I.ok.noex b o e),I.base.free b o (I.ok.bs b o e).1 (I.ok.bs b o e).2 (I.ok.noex b o e)⟩
theorem Inv.bk(I:↑13):∀b o,X.base.get? b=some o->s.heap.get? b=some o:=λb o e=>(I.bs b o e).1
theorem Inv.mod(I:↑13):Mod X.K X.mg X.base:=I.ok.mod
theorem Inv.kIn(I:↑13):X.K.In s.heap:=I.ok.mod.kin.keeps I.bk
theorem Inv.lt(I:↑13):X.env.locals<s.heap.objs.size:=by obtain⟨_,hn,_⟩:=I.loc;exact hn.lt
theorem Inv.sz(I:↑13):X.s₀.heap.objs.size<=s.heap.objs.size:=Nat.le_trans I.ok.above (Nat.le_of_lt I.lt)
theorem Inv.nofs(I:↑13){a:Addr}(h:s.heap.objs.size<=a):a ∉ X.fs:=λhb=>by
 obtain⟨_,o,ho,_⟩:=I.ok.funs.mem hb;exact absurd (Nat.lt_of_lt_of_le (Heap.lt_size ho) (Nat.le_trans I.sz h)) (Nat.lt_irrefl _)
theorem Inv.cne(I:↑13):∀x c,X.env.cells.lookup x=some c->c≠X.env.locals:=λx c e z=>by
 obtain⟨v,o,ho,hd⟩:=I.cell x c e;obtain⟨m,⟨o',es,ep,ho',hd',_⟩,_⟩:=I.loc;rw[z,ho'] at ho;cases ho;rw[hd'] at hd;cases hd
theorem Inv.funs(I:↑13):s.heap.FunFrames X.base X.outer:=by
 have all:∀(l:List Env),(∀b∈frs l,b∈X.fs)->X.s₀.heap.FunFrames X.base l->s.heap.FunFrames X.base l:=by
  intro l
  induction l with
  | nil=>intro _ _;trivial
  | cons env r ih=>
   intro hs hl;obtain⟨hk,⟨L,o,hf,hn,ho,hd⟩,hr⟩:=hl;have hL:L∈X.fs:=hs L (by unfold frs;rw[List.filterMap_cons,hf];exact List.mem_cons_self)
   obtain⟨sl,e⟩:=I.base.slot L o ho (I.ok.frf L hL) hL λz=>I.ok.exfs L z hL;exact⟨hk,⟨L,_,hf,hn,e,hd⟩,ih (λb hb=>hs b (by unfold frs;rw[List.filterMap_cons,hf];exact List.mem_cons_of_mem _ hb)) hr⟩
 exact all X.outer (λ_ hb=>hb) I.ok.funs
theorem Inv.stack(I:↑13):s.heap.FunFrames X.base X.stack:=by
 rcases I.ok.stk with e|⟨e,hf⟩
 ·rw[e];exact I.funs
 ·rw[e]
  obtain⟨m,hn,_⟩:=I.loc;refine .cons (by rw[I.ok.kind];decide) hf hn ?_ I.funs
  exact Heap.get?_none_of_le (Nat.le_trans I.ok.bsz I.ok.above)
theorem Inv.stkSub(I:↑13):∀b∈frs X.stack,b∈X.env.locals::X.fs:=λb hb=>by
 rcases I.ok.stk with e|⟨e,hf⟩
 ·rw[e] at hb;exact List.mem_cons_of_mem _ hb
 ·rw[e] at hb
  unfold frs at hb;rw[List.filterMap_cons,hf] at hb;exact hb
theorem Inv.stkFree(I:↑13):∀b∈frs X.stack,H b=none:=λb hb=>by
 rcases List.mem_cons.mp (I.stkSub b hb) with e|hb
 ·rw[e];exact I.free
 ·obtain⟨_,o,ho,_⟩:=I.ok.funs.mem hb
  exact I.base.free b o ho (I.ok.frf b hb) λz=>I.ok.exfs b z hb
theorem Inv.step{g':Array GenState}{t':Nat}{d':Drawn}{ch:List Addr}(I:↑13)(hch:∀b∈ch,(b∈X.ex\/X.s₀.heap.objs.size<=b)/\b≠X.env.locals/\(∀x c,X.env.cells.lookup x=some c->c≠b)/\∀p∈X.pn++pins,p.1≠b)(keep:∀b o,b≠X.env.locals->b ∉ X.fs->b ∉ ch->s.heap.get? b=some o->H b=none->h'.get? b=some o)(slot:∀b o,b≠X.env.locals->b∈X.fs->b ∉ ch->s.heap.get? b=some o->H b=none->∃sl,h'.get? b=some { o with slots:=sl })(free:∀b o,b ∉ ch->s.heap.get? b=some o->H b=none->H' b=none)(there:∀b o,b ∉ ch->s.heap.get? b=some o->∃o',h'.get? b=some o')(tups:∀b xs,H b=some (.tup xs)->H' b=some (.tup xs))(frzs:∀b o u,H b=some (.frz o u)->H' b=some (.frz o u))(tbls:∀b ps,H b=some (.tbl ps)->∃more,H' b=some (.tbl (ps++more)))(ns:∀m,s.heap.Ns X.env.locals m->h'.Ns X.env.locals m)(hok:HOk X.prog X.w H' h')(hg:AllBare g'):
  Inv X pins σ H' { s with heap:=h',gens:=g',drawn:=d',toks:=t' }:=by
 have neL:∀b o,X.s₀.heap.get? b=some o->b≠X.env.locals:=λb o e=>Nat.ne_of_lt (Nat.lt_of_lt_of_le ↑122 I.ok.above);have neC:∀b o,X.s₀.heap.get? b=some o->b ∉ X.ex->b ∉ ch:=λb o e hx hb=>by
  rcases (hch b hb).1 with z|z
  ·exact hx z
  ·exact absurd (Nat.lt_of_lt_of_le ↑122 z) (Nat.lt_irrefl _)
 have cellK:∀x c,X.env.cells.lookup x=some c->∀v,s.heap.IsCell c v->h'.IsCell c v:=λx c e v zb_=>by
  obtain⟨o,ho,hd⟩:=zb_;have nch:c ∉ ch:=λz=>(hch c z).2.2.1 x c e rfl;by_cases hc:c∈X.fs
  ·obtain⟨sl,q⟩:=slot c o (I.cne x c e) hc nch ho (I.freeC x c e)
   exact⟨_,q,hd⟩
  ·exact⟨o,keep c o (I.cne x c e) hc nch ho (I.freeC x c e),hd⟩
 refine⟨I.ok,I.os,hg,⟨λb o e n hb hx=>?_,λb o e n hb hx=>?_,λb o e n hx=>?_,λb o e hx=>?_,λb xs e=>tups b xs (I.base.tups b xs e),λb o xs e=>frzs b o xs (I.base.frzs b o xs e),λb ps e=>?_⟩,?_,λx c e=>?_,?_,λx c e=>?_,λp hp=>?_,hok,I.len⟩
 ·exact keep b o (neL b o e) hb (neC b o e hx) (I.base.keep b o e n hb hx) (I.base.free b o e n hx)
 ·obtain⟨sl,e1⟩:=I.base.slot b o e n hb hx
  obtain⟨sl',e2⟩:=slot b _ (neL b o e) hb (neC b o e hx) e1 (I.base.free b o e n hx);exact⟨sl',e2⟩
 ·obtain⟨o',e1⟩:=I.base.there b o e hx
  exact free b o' (neC b o e hx) e1 (I.base.free b o e n hx)
 ·obtain⟨o',e1⟩:=I.base.there b o e hx
  exact there b o' (neC b o e hx) e1
 ·obtain⟨m1,e1⟩:=I.base.tbls b ps e
  obtain⟨m2,e2⟩:=tbls b _ e1;exact⟨m1++m2,by rw[e2,Array.append_assoc]⟩
 ·obtain⟨m,hn,hl⟩:=I.loc
  refine⟨m,ns m hn,λi x v e1 e2 e3=>?_⟩;obtain⟨u,r,l⟩:=hl i x v e1 e2 e3;refine⟨u,r,?_⟩;rcases l with l|⟨k,c,e,z⟩
  ·exact .inl l
  ·exact .inr ⟨k,c,e,cellK x c e _ z⟩
 ·obtain⟨v,z⟩:=I.cell x c e
  exact⟨v,cellK x c e v z⟩
 ·obtain⟨m,⟨o,_,_,ho,_⟩,_⟩:=I.loc
  exact free _ o (λz=>(hch _ z).2.1 rfl) ho I.free
 ·obtain⟨v,o,ho,hd⟩:=I.cell x c e
  exact free c o (λz=>(hch c z).2.2.1 x c e rfl) ho (I.freeC x c e)
 ·obtain⟨e,n,ne,nf,d⟩:=I.pin p hp
  have nch:p.1 ∉ ch:=λz=>(hch p.1 z).2.2.2 p hp rfl;exact⟨keep p.1 p.2 ne nf nch e n,free p.1 p.2 nch e n,ne,nf,d⟩
theorem Inv.un{t':Nat}(I:↑13)(u:Un X.fs [] H H' s.heap h')(hok:HOk X.prog X.w H' h'):Inv X pins σ H' { s with heap:=h',toks:=t' }:=by
 obtain⟨m,⟨o,es,ep,ho,r⟩,_⟩:=id I.loc;obtain⟨sl,hL⟩:=u.any ho I.free (by simp)
 exact I.step (g':=s.gens) (d':=s.drawn) (ch:=[]) ↑118 (λb o _ hb _ e n=>u.keep b o e n hb (by simp)) (λb o _ hb _ e n=>u.slot b o e n hb (by simp)) (λb o _ e n=>u.free b o e n (by simp)) (λb o _ e=>u.there b o e (by simp)) u.tups u.frzs u.tbls (λm' hm=>by
  obtain⟨o',es',ep',ho',r'⟩:=hm;rw[ho] at ho';cases ho';exact⟨_,es',ep',hL,r'⟩) hok I.bare
theorem Inv.call{g':Array GenState}{t':Nat}{d':Drawn}{ch:List Addr}(I:↑13)(u:Un (frs X.stack) ch H H' s.heap h')(hok:HOk X.prog X.w H' h')(hg:AllBare g')(hch:∀b∈ch,(b∈X.ex\/X.s₀.heap.objs.size<=b)/\b≠X.env.locals/\(∀x c,X.env.cells.lookup x=some c->c≠b)/\∀p∈X.pn++pins,p.1≠b):
  Inv X pins σ H' { s with heap:=h',gens:=g',drawn:=d',toks:=t' }:=by
 obtain⟨m,⟨o,es,ep,ho,r⟩,_⟩:=id I.loc;obtain⟨sl,hL⟩:=u.any ho I.free λz=>(hch _ z).2.1 rfl;exact I.step (ch:=ch) hch (λb o hL hb hc e n=>u.keep b o e n (λz=>(List.mem_cons.mp (I.stkSub b z)).elim hL hb) hc) (λb o _ _ hc e n=>u.any e n hc) (λb o hc e n=>u.free b o e n hc) (λb o hc e=>u.there b o e hc) u.tups u.frzs u.tbls (λm' hm=>by
  obtain⟨o',es',ep',ho',r'⟩:=hm;rw[ho] at ho';cases ho';exact⟨_,es',ep',hL,r'⟩) hok hg
theorem Inv.turned{t':Nat}{it:Addr}(I:↑13)(k:∀b o,b≠it->s.heap.get? b=some o->h'.get? b=some o)(hn:H it=none)(hL:it≠X.env.locals)(h1:it∈X.ex\/X.s₀.heap.objs.size<=it)(h2:∀x c,X.env.cells.lookup x=some c->c≠it)(h3:∀p∈X.pn++pins,p.1≠it):Inv X pins σ H { s with heap:=h',toks:=t' }:=by
 have nit:∀b u,H b=some u->b≠it:=λb u e z=>by rw[z,hn] at e;cases e
 refine I.step (g':=s.gens) (d':=s.drawn) (ch:=[it]) (λb hb=>?_) (λb o _ _ hc e _=>k b o (λz=>hc (by simp[z])) e) (λb o _ _ hc e _=>⟨o.slots,k b o (λz=>hc (by simp[z])) e⟩) (λ_ _ _ _ n=>n)
  (λb o hc e=>⟨o,k b o (λz=>hc (by simp[z])) e⟩) (λ_ _ e=>e) (λ_ _ _ e=>e) (λb ps e=>⟨#[],by rw[e];simp⟩) (λm hm=>?_) (λb u e=>?_) I.bare
 ·have e:b=it:=by simpa using hb
  subst e;exact⟨h1,hL,h2,h3⟩
 ·obtain⟨o,es,ep,ho,r⟩:=hm
  exact⟨o,es,ep,k _ o (Ne.symm hL) ho,r⟩
 ·refine (I.hok b u e).stay (λc v hc q=>k c v ?_ q) (λ_ q=>q) λ_ _ q=>q
  rcases hc with z|z
  ·rw[z];exact nit b u e
  ·exact nit c _ z
theorem Inv.tok(I:↑13)(t:Nat):Inv X pins σ H { s with toks:=t }:=I.un (h':=s.heap) (t':=t) Un.refl I.hok
theorem Inv.kept{t':Nat}(I:↑13)(k:∀b u,s.heap.get? b=some u->h'.get? b=some u):Inv X pins σ H { s with heap:=h',toks:=t' }:=I.un (Un.kept k) (I.hok.kept k)
theorem Inv.laid{a:Addr}{o:HO}{t':Nat}(I:↑13)(k:∀b u,s.heap.get? b=some u->h'.get? b=some u)(hp:s.heap.objs.size<=a)(new:ObjOk X.prog X.w (upd H a o) h' a o):
  Inv X pins σ (upd H a o) { s with heap:=h',toks:=t' }:=I.un (Un.laid k hp (I.hok.fresh hp)) (I.hok.laid k hp new)
theorem Inv.write{x e:Addr}{o:HO}{t':Nat}(I:↑13)(mu:Mut (H x))(he:e=x\/H e=some (.own x))(k:∀b u,b≠e->s.heap.get? b=some u->h'.get? b=some u)(heo:∃u,h'.get? e=some u)(new:ObjOk X.prog X.w (upd H x o) h' x o):Inv X pins σ (upd H x o) { s with heap:=h',toks:=t' }:=I.un (Un.write mu he k heo) (I.hok.write mu he k heo new)
theorem Inv.weak{σ':List (Option V)}(I:↑13)(hl:σ'.length=σ.length)(w:∀(i:Nat) v,σ'[i]?=some (some v)->σ[i]?=some (some v)):Inv X pins σ' H s :=
 ⟨I.ok,I.os,I.bare,I.base,let ⟨m,hn,hl'⟩:=I.loc;⟨m,hn,λi x v e1 e2 e3=>hl' i x v e1 (w i v e2) e3⟩,I.cell,I.free,I.freeC,I.pin,I.hok,hl.trans I.len⟩
theorem Inv.pins_of{pins':List ↑26}(I:↑13)(h:∀p∈pins',s.heap.get? p.1=some p.2/\H p.1=none/\p.1≠X.env.locals/\p.1 ∉ X.fs/\∀v,p.2.data≠.cell v):Inv X pins' σ H s :=
 ⟨I.ok,I.os,I.bare,I.base,I.loc,I.cell,I.free,I.freeC,λp hp=>(List.mem_append.mp hp).elim (λz=>I.pin p (List.mem_append_left _ z)) (h p),I.hok,I.len⟩
theorem d0a{N:List Str}(hN:N.Nodup){i j:Nat}{x:Str}(a:N[i]?=some x)(b:N[j]?=some x):i=j:=by
 obtain⟨h1,e1⟩:=List.getElem?_eq_some_iff.mp a;obtain⟨h2,e2⟩:=List.getElem?_eq_some_iff.mp b;exact(List.getElem_inj hN).mp (e1.trans e2.symm)
theorem c3y{M:Model}{A:Around}{E:Value->Shared->Prop}{i:Nat}{x:Str}{v:V}{u:Value}{Q:Unit->Shared->Prop}(I:↑13)(hN:X.N.Nodup)(hi:X.N[i]?=some x)(hx:Loc X.env.scope x)(r:RelV v u)(h:∀s',Inv X pins (σ.set i (some v)) H s'->(∃a,Heap.SameBut a s.heap s'.heap/\(a=X.env.locals\/X.env.cells.lookup x=some a))->Q () s')(hf:autoParam (X.fn x=true\/X.env.scope.names.lookup x=some .local) q1):wpAny M A (storeName X.env x u) Q E s:=by
 obtain⟨m,hn,hl⟩:=id I.loc;have hcls:(X.env.scope.kind == .class || (X.env.scope.kind == .module && X.env.locals != X.env.globals))=false:=by rw[I.ok.kind];rfl
 have hiσ:i<σ.length:=by rw[I.len];exact(List.getElem?_eq_some_iff.mp hi).1
 have cne:=I.cne;have tracked:∀{a:Addr}{h':Heap},(∃o,s.heap.get? a=some o/\H a=none)->Heap.SameBut a s.heap h'->HOk X.prog X.w H h':=λ{a h'} ha hs b ob e=>by
  obtain⟨_,_,hfree⟩:=ha;refine (I.hok b ob e).stay (λc w' hc q=>(hs.2 c ?_).trans q) (λ_ q=>q) λ_ _ q=>q;rintro rfl;rcases hc with rfl|hc
  ·rw[hfree] at e;cases e
  ·rw[hfree] at hc;cases hc
 rcases hx with hk|hk
 ·refine wpAny_storeName_local hk hn (λh' hn' hs=>?_) hcls
  obtain⟨oL,_,_,hoL,_⟩:=id hn;refine h _ ⟨I.ok,I.os,I.bare,⟨λb o e n hb hx=>?_,λb o e n hb hx=>?_,I.base.free,λb o e hx=>?_,I.base.tups,I.base.frzs,I.base.tbls⟩,⟨_,hn',λj y v' e1 e2 e3=>?_⟩,λy c e=>?_,I.free,I.freeC,λp hp=>?_,tracked ⟨oL,hoL,I.free⟩ hs,by simpa using I.len⟩ ⟨_,hs,.inl rfl⟩
  ·exact(hs.2 b (Nat.ne_of_lt (Nat.lt_of_lt_of_le ↑122 I.ok.above))).trans (I.base.keep b o e n hb hx)
  ·obtain⟨sl,e1⟩:=I.base.slot b o e n hb hx
   exact⟨sl,(hs.2 b (Nat.ne_of_lt (Nat.lt_of_lt_of_le ↑122 I.ok.above))).trans e1⟩
  ·obtain⟨o',e1⟩:=I.base.there b o e hx
   exact⟨o',(hs.2 b (Nat.ne_of_lt (Nat.lt_of_lt_of_le ↑122 I.ok.above))).trans e1⟩
  ·by_cases hj:j=i
   ·subst hj
    rw[hi] at e1;cases e1;rw[List.getElem?_set_self hiσ] at e2;cases e2;exact⟨u,r,.inl ⟨hk,by simp⟩⟩
   ·rw[List.getElem?_set_ne (Ne.symm hj)] at e2
    obtain⟨u',r',q⟩:=hl j y v' e1 e2 e3;refine⟨u',r',?_⟩;rcases q with ⟨k,e⟩|⟨k,c,e,z⟩
    ·refine .inl ⟨k,?_⟩
     have:y≠x:=λe=>hj (d0a hN e1 (e ▸ hi));simp[this,e]
    ·exact .inr ⟨k,c,e,z.sameBut hs (cne y c e)⟩
  ·obtain⟨w',z⟩:=I.cell y c e
   exact⟨w',z.sameBut hs (cne y c e)⟩
  ·obtain⟨e,n,ne,nf,d⟩:=I.pin p hp
   exact⟨(hs.2 p.1 ne).trans e,n,ne,nf,d⟩
 ·have hfn:X.fn x=true:=by
   rcases hf with z|z
   ·exact z
   ·rw[z] at hk;cases hk
  obtain⟨c,hc⟩:=I.ok.has x (.inl hk);obtain⟨w',z⟩:=I.cell x c hc;refine wpAny_storeName_cell I.ok.kind hk hc z (λh' hc' hs=>?_);obtain⟨oc,hoc,hocd⟩:=id z;refine h { s with heap:=h' } ⟨I.ok,I.os,I.bare,⟨λb o e n hb hx=>?_,λb o e n hb hx=>?_,I.base.free,λb o e hx=>?_,I.base.tups,I.base.frzs,I.base.tbls⟩,⟨m,hn.sameBut hs (Ne.symm (cne x c hc)),λj y v' e1 e2 e3=>?_⟩,λy c' e=>?_,I.free,I.freeC,λp hp=>?_,tracked ⟨oc,hoc,I.freeC x c hc⟩ hs,by simpa using I.len⟩ ⟨c,hs,.inr hc⟩
  ·exact(hs.2 b (Nat.ne_of_lt (Nat.lt_of_lt_of_le ↑122 (I.ok.cab x c hfn hc)))).trans (I.base.keep b o e n hb hx)
  ·obtain⟨sl,e1⟩:=I.base.slot b o e n hb hx
   exact⟨sl,(hs.2 b (Nat.ne_of_lt (Nat.lt_of_lt_of_le ↑122 (I.ok.cab x c hfn hc)))).trans e1⟩
  ·obtain⟨o',e1⟩:=I.base.there b o e hx
   exact⟨o',(hs.2 b (Nat.ne_of_lt (Nat.lt_of_lt_of_le ↑122 (I.ok.cab x c hfn hc)))).trans e1⟩
  ·by_cases hj:j=i
   ·subst hj
    rw[hi] at e1;cases e1;rw[List.getElem?_set_self hiσ] at e2;cases e2;exact⟨u,r,.inr ⟨.inl hk,c,hc,hc'⟩⟩
   ·rw[List.getElem?_set_ne (Ne.symm hj)] at e2
    obtain⟨u',r',q⟩:=hl j y v' e1 e2 e3;refine⟨u',r',?_⟩;rcases q with q|⟨k,c',e,z'⟩
    ·exact .inl q
    ·refine .inr ⟨k,c',e,z'.sameBut hs ?_⟩
     rintro rfl;exact hj (d0a hN e1 (I.ok.inj _ _ _ e hc ▸ hi))
  ·by_cases hcc:c'=c
   ·subst hcc;exact⟨_,hc'⟩
   ·obtain⟨w2,z2⟩:=I.cell y c' e
    exact⟨w2,z2.sameBut hs hcc⟩
  ·obtain⟨e,n,ne,nf,d⟩:=I.pin p hp
   refine⟨(hs.2 p.1 ?_).trans e,n,ne,nf,d⟩;intro q;rw[q,hoc] at e;have q':oc=p.2:=Option.some.inj e;exact d w' (by rw[<- q'];exact hocd)
theorem c1e{M:Model}{A:Around}{E:Value->Shared->Prop}{i:Nat}{x:Str}{v:V}{u:Value}{Q:Unit->Shared->Prop}(I:↑13)(hN:X.N.Nodup)(hi:X.N[i]?=some x)(hx:Loc X.env.scope x)(r:RelV v u)(h:∀s',Inv X pins (σ.set i (some v)) H s'->Q () s')(hf:autoParam (X.fn x=true\/X.env.scope.names.lookup x=some .local) q1):wpAny M A (storeName X.env x u) Q E s :=
 c3y I hN hi hx r (λs' I' _=>h s' I') hf
theorem Inv.call'{s':Shared}{ch:List Addr}(I:↑13)(ho:s'.os=s.os)(u:Un (frs X.stack) ch H H' s.heap s'.heap)(hok:HOk X.prog X.w H' s'.heap)(hg:AllBare s'.gens)(hch:∀b∈ch,(b∈X.ex\/X.s₀.heap.objs.size<=b)/\b≠X.env.locals/\(∀x c,X.env.cells.lookup x=some c->c≠b)/\∀p∈X.pn++pins,p.1≠b):Inv X pins σ H' s':=by
 obtain⟨h',g',d',t',o'⟩:=s';have e:o'=s.os:=ho;subst e;exact I.call (g':=g') (t':=t') (d':=d') u hok hg hch
end
abbrev XK:=Value->Option Addr->Hp->Prop
abbrev St:=List (Option V)
abbrev VK:=V->Hp->Prop
abbrev TE:=St->Hp->VK->Prop
abbrev TT:=St->Hp->(Bool->Hp->Prop)->Prop
abbrev TA:=St->Hp->(List V->Hp->Prop)->Prop
structure d9h where
 nx:St->Hp->Prop
 rt:VK
 bk:St->Hp->Prop:=λ_ _=>False
 ct:St->Hp->Prop:=λ_ _=>False
abbrev TS:=d9h->St->Hp->Prop
def EP(X:Cx)(pins:List ↑26)(σ:St)(Q:VK)(u:Value)(s':Shared):Prop:=∃v H',Inv X pins σ H' s'/\RelV v u/\Q v H'
def TP(X:Cx)(pins:List ↑26)(σ:St)(Q:Bool->Hp->Prop)(b:Bool)(s':Shared):Prop:=∃H',Inv X pins σ H' s'/\Q b H'
def AP(X:Cx)(pins:List ↑26)(σ:St)(Q:List V->Hp->Prop)(us:List Value)(s':Shared):Prop:=∃vs H',Inv X pins σ H' s'/\Vals vs us/\Q vs H'
noncomputable def SP(X:Cx)(pins:List ↑26)(D:d9h)(f:Flow)(s':Shared):Prop :=
 match f with
 | .next=>∃σ' H',Inv X pins σ' H' s'/\D.nx σ' H'
 | .brk=>∃σ' H',Inv X pins σ' H' s'/\D.bk σ' H'
 | .cont=>∃σ' H',Inv X pins σ' H' s'/\D.ct σ' H'
 | .ret u=>∃v σ' H',Inv X pins σ' H' s'/\RelV v u/\D.rt v H'
noncomputable def PE(X:Cx)(e:Expr)(t:TE):Prop :=
 ∀(pins:List ↑26)(s:Shared)(σ:St)(H:Hp)(Q:VK),Inv X pins σ H s->t σ H Q->wpAny ↑21 X.A (eval e X.env) ↑115 X.xe s
noncomputable def PT(X:Cx)(e:Expr)(t:TT):Prop :=
 ∀(pins:List ↑26)(s:Shared)(σ:St)(H:Hp)(Q:Bool->Hp->Prop),Inv X pins σ H s->t σ H Q->wpAny ↑21 X.A (isTrue e X.env (eval e X.env)) (TP X pins σ Q) X.xe s
noncomputable def PW(X:Cx)(e:Expr)(t:TT):Prop :=
 ∀(whole:Sem Value)(pins:List ↑26)(s:Shared)(σ:St)(H:Hp)(Q:Bool->Hp->Prop),Inv X pins σ H s->t σ H Q->wpAny ↑21 X.A (isTrue e X.env whole) (TP X pins σ Q) X.xe s
theorem PW.pt{X:Cx}{e:Expr}{t:TT}(h:PW X e t):PT X e t:=h _
noncomputable def PA(X:Cx)(es:List Expr)(t:TA):Prop :=
 ∀(pos:Pos)(pins:List ↑26)(s:Shared)(σ:St)(H:Hp)(Q:List V->Hp->Prop),Inv X pins σ H s->t σ H Q->wpAny ↑21 X.A (spliced (backTo pos ↑83)) (AP X pins σ Q) X.xe s
noncomputable def PS(X:Cx)(st:Stmt)(t:TS):Prop :=
 ∀(pins:List ↑26)(s:Shared)(σ:St)(H:Hp)(D:d9h),Inv X pins σ H s->t D σ H->wpAny ↑21 X.A (exec st X.env) (SP X pins D) X.xe s
noncomputable def PSs(X:Cx)(st:List Stmt)(t:TS):Prop :=
 ∀(pins:List ↑26)(s:Shared)(σ:St)(H:Hp)(D:d9h),Inv X pins σ H s->t D σ H->wpAny ↑21 X.A (execs st X.env) (SP X pins D) X.xe s
theorem thn{α:Type}{t:Sem α}{Q Q':α->Shared->Prop}{M:Model}{A:Around}{E:Value->Shared->Prop}{s:Shared}(h:wpAny M A t Q E s)(hQ:∀a s,Q a s->Q' a s):wpAny M A t Q' E s:=wpAny_mono h hQ λ_ _ x=>x
section
variable{X:Cx}
noncomputable def e5u(i:Nat):TE:=λσ H Q=>∃v,σ[i]?=some (some v)/\Q v H
def tC(v:V):TE:=λ_ H Q=>Q v H
theorem d8r{i:Nat}{x:Str}{pos:Pos}(hN:X.N[i]?=some x)(hv:Vis X.env.scope x)(hd:autoParam (↑33=false) q2)(hcd:autoParam ((x == ("__classdict__":Str))=false) q2):PE X (.Name x pos) (e5u i):=by
 fail "x";obtain⟨v,e,h⟩:=h;obtain⟨m,hn,hl⟩:=I.loc;obtain⟨u,r,l⟩:=hl i x v hN e hv;have fin:EP X pins σ Q u s:=⟨v,H,I,r,h⟩;rcases l with ⟨hk,hm⟩|⟨hk,c,hc,hcell⟩
 ·exact wpAny_Name (wpAny_loadName_local I.ok.kind hk hn hm fin) hd
 ·rcases hk with hk|hk
  ·exact wpAny_Name (wpAny_loadName_cell I.ok.kind hk hc hcell fin) hd
  ·exact wpAny_Name (wpAny_loadName_free I.ok.kind hk hc hcell fin hcd) hd
theorem i4{i j pos}:PE X (.Constant (.int i) j pos) (tC (.int i)):=λ_ _ _ H _ I h=>wpAny_Constant_int ⟨.int i,H,I.tok _,⟨_,rfl⟩,h⟩
theorem e6w{b j pos}:PE X (.Constant (.bool b) j pos) (tC (.bl b)):=λ_ _ _ H _ I h=>Constant_bool ⟨.bl b,H,I,rfl,h⟩
theorem b3q{j pos}:PE X (.Constant .none j pos) (tC .non):=λ_ _ _ H _ I h=>Constant_none ⟨.non,H,I,rfl,h⟩
theorem m4{x j pos}:PE X (.Constant (.str x) j pos) (tC (.str x)):=λ_ _ _ H _ I h=>Calls.Constant_str ⟨.str x,H,I.tok _,⟨_,rfl⟩,h⟩
def Gl(X:Cx)(x:Str):Prop:=X.env.kindOf x=some .globalImplicit
theorem c3i{E:Value->Shared->Prop}{pins:List ↑26}{s:Shared}{σ:St}{H:Hp}{x:Str}{u:Value}{pos:Pos}{Q:Value->Shared->Prop}(I:↑13)(hg:Gl X x)(hm:X.mg x=some u)(h:Q u s)(hd:autoParam (↑33=false) q2):wpAny ↑21 X.A (eval (.Name x pos) X.env) Q E s :=
 Calls.Name_function_global I.ok.kind hg (Calls.loadGlobal_global (by rw[I.ok.glob];exact I.mod.glob.keeps I.bk) hm h) hd
theorem c0t{E:Value->Shared->Prop}{pins:List ↑26}{s:Shared}{σ:St}{H:Hp}{x:Str}{u:Value}{pos:Pos}{Q:Value->Shared->Prop}(I:↑13)(hg:Gl X x)(hm:X.mg x=none)(hv:bootBuiltins x=some u)(h:Q u s)(hn:autoParam (x≠"__name__") q2)(hd:autoParam (↑33=false) q2):wpAny ↑21 X.A (eval (.Name x pos) X.env) Q E s:=by
 obtain⟨mb,h1,h2⟩:=I.mod.blt;exact Calls.Name_function_global I.ok.kind hg (Calls.loadGlobal_builtin (by rw[I.ok.glob];exact I.mod.glob.keeps I.bk) hm (by rw[I.ok.blt];exact h1.keeps I.bk) ((h2 x hn).trans hv) h) hd
theorem c7x{x:Str}{v:V}{u:Value}{pos:Pos}(hg:Gl X x)(hm:X.mg x=some u)(r:RelV v u)(hd:autoParam (↑33=false) q2):PE X (.Name x pos) (tC v) :=
 λ_ _ _ H _ I h=>c3i I hg hm ⟨v,H,I,r,h⟩ hd
theorem e0s{x:Str}{v:V}{u:Value}{pos:Pos}(hg:Gl X x)(hm:X.mg x=none)(hv:bootBuiltins x=some u)(r:RelV v u)(hn:autoParam (x≠"__name__") q2)(hd:autoParam (↑33=false) q2):PE X (.Name x pos) (tC v) :=
 λ_ _ _ H _ I h=>c0t I hg hm hv ⟨v,H,I,r,h⟩ hn hd
variable{a b:Expr}{ta tb:TE}{pos:Pos}
noncomputable def tB(t:TE):TT:=λσ H Q=>t σ H λx H1=>∃c,x=.bl c/\Q c H1
theorem a9g{e:Expr}{t:TE}(h:PE X e t)(he:autoParam (∀whole,isTrue e X.env whole=(do let v <- whole;standAt e.pos;holding [v] (truthy v))) q3):PT X e (tB t):=by
 intro pins s σ H Q I hw;refine isTrue_plain (thn (h pins s σ H _ I hw) λv s1 z0_=>?_) (he _);fail "am";obtain⟨d,rfl,q⟩:=q1;cases r1;exact wpAny_truthy_bool ⟨H1,I1,q⟩
variable{tA tB':TT}{rest:List Expr}
noncomputable def e8k(t u:TT):TT:=λσ H Q=>t σ H λc H1=>if c=true then u σ H1 Q else Q false H1
noncomputable def tOr(t u:TT):TT:=λσ H Q=>t σ H λc H1=>if c=true then Q true H1 else u σ H1 Q
def e8h(t:TT):TT:=λσ H Q=>t σ H λc H1=>Q (!c) H1
theorem b8k(ha:PT X a tA):PW X (.BoolOp .And [a] pos) tA:=by
 intro wh pins s σ H Q I h;refine isTrue_and (thn (ha pins s σ H Q I h) λc s1 e=>?_);cases c with
 | true=>exact isTrue_and_nil e
 | false=>exact e
theorem b8j(ha:PT X a tA):PW X (.BoolOp .Or [a] pos) tA:=by
 intro wh pins s σ H Q I h;refine isTrue_or (thn (ha pins s σ H Q I h) λc s1 e=>?_);cases c with
 | false=>exact isTrue_or_nil e
 | true=>exact e
theorem c4y(ha:PT X a tA)(hb:PW X (.BoolOp .And (b::rest) pos) tB'):PW X (.BoolOp .And (a::b::rest) pos) (e8k tA tB'):=by
 intro wh pins s σ H Q I h;refine isTrue_and (thn ↑87 λc s1 z0_=>?_);obtain⟨H1,I1,q1⟩:=z0_;cases c with
 | true=>exact hb wh pins s1 σ H1 Q I1 q1
 | false=>exact⟨H1,I1,q1⟩
theorem c4x(ha:PT X a tA)(hb:PW X (.BoolOp .Or (b::rest) pos) tB'):PW X (.BoolOp .Or (a::b::rest) pos) (tOr tA tB'):=by
 intro wh pins s σ H Q I h;refine isTrue_or (thn ↑87 λc s1 z0_=>?_);obtain⟨H1,I1,q1⟩:=z0_;cases c with
 | true=>exact⟨H1,I1,q1⟩
 | false=>exact hb wh pins s1 σ H1 Q I1 q1
theorem d2z(ha:PT X a tA):PT X (.UnaryOp .Not a pos) (e8h tA):=by
 fail "x";exact isTrue_not (ha pins s σ H (λc H1=>Q (!c) H1) I h)
noncomputable def e3b(ta tb:TE):TE:=λσ H Q=>ta σ H λx H1=>∃c,x=.bl c/\if c=true then tb σ H1 Q else Q (.bl false) H1
noncomputable def e8g(ta tb:TE):TE:=λσ H Q=>ta σ H λx H1=>∃c,x=.bl c/\if c=true then Q (.bl true) H1 else tb σ H1 Q
noncomputable def e2s(ta:TE):TE:=λσ H Q=>ta σ H λx H1=>∃c,x=.bl c/\Q (.bl (!c)) H1
theorem c0m{op}{t:TE}(h:PE X a t):PE X (.BoolOp op [a] pos) t:=λpins s σ H Q I hw=>BoolOp_one (h pins s σ H Q I hw)
theorem c9z(ha:PE X a ta)(hb:PE X (.BoolOp .And (b::rest) pos) tb):PE X (.BoolOp .And (a::b::rest) pos) (e3b ta tb):=by
 fail "x";refine BoolOp_and (thn ↑87 λv s1 z0_=>?_);fail "am";obtain⟨c,rfl,q1⟩:=q1;cases r1;refine wpAny_truthy_bool ?_;cases c with
 | true=>exact hb pins s1 σ H1 Q I1 q1
 | false=>exact⟨.bl false,H1,I1,rfl,q1⟩
theorem e0o(ha:PE X a ta)(hb:PE X (.BoolOp .Or (b::rest) pos) tb):PE X (.BoolOp .Or (a::b::rest) pos) (e8g ta tb):=by
 fail "x";refine BoolOp_or (thn ↑87 λv s1 z0_=>?_);fail "am";obtain⟨c,rfl,q1⟩:=q1;cases r1;refine wpAny_truthy_bool ?_;cases c with
 | false=>exact hb pins s1 σ H1 Q I1 q1
 | true=>exact⟨.bl true,H1,I1,rfl,q1⟩
theorem d8s(ha:PE X a ta):PE X (.UnaryOp .Not a pos) (e2s ta):=by
 fail "x";refine UnaryOp_ (thn ↑87 λv s1 z0_=>?_);fail "am";obtain⟨c,rfl,q1⟩:=q1;cases r1;exact not_of (wpAny_truthy_bool ⟨.bl (!c),H1,I1,rfl,q1⟩)
noncomputable def tIf(t:TT)(ta tb:TE):TE:=λσ H Q=>t σ H λc H1=>if c=true then ta σ H1 Q else tb σ H1 Q
theorem a0w{c:Expr}(hc:PT X c tA)(ha:PE X a ta)(hb:PE X b tb):PE X (.IfExp c a b pos) (tIf tA ta tb):=by
 fail "x";refine wpAny_IfExp (thn (hc pins s σ H _ I h) λd s1 z0_=>?_);obtain⟨H1,I1,q1⟩:=z0_;cases d with
 | true=>exact ha pins s1 σ H1 Q I1 q1
 | false=>exact hb pins s1 σ H1 Q I1 q1
end
noncomputable def SqL(K:↑29)(H:Hp)(a:Addr)(xs:List V):Prop :=
 Rd H a (.lst xs) \/
  ∃(o:Obj)(its:Array Value)(n:Nat),K.lookup a=some o/\o.cls=.type "list"/\o.dict=none/\o.data=.seq its n/\its.size<=sizeLine/\Vals xs its.toList
noncomputable def SqT(K:↑29)(H:Hp)(a:Addr)(xs:List V):Prop :=
 Rd H a (.tup xs) \/
  ∃(o:Obj)(its:Array Value)(n:Nat),K.lookup a=some o/\o.cls=.type "tuple"/\o.data=.seq its n/\its.size<=sizeLine/\Vals xs its.toList
noncomputable def e9y:Value->Option V
 | .none=>some .non
 | .bool b=>some (.bl b)
 | .int i _=>some (.int i)
 | .str x _=>some (.str x)
 | .bytes b _=>some (.byt b)
 | .float b _=>some (.flt b)
 | .ref a=>some (.ref a)
 | .type n=>some (.ty n)
 | _=>none
theorem RelV.abs{x:V}{u:Value}(r:RelV x u):e9y u=some x:=by
 cases x with
 | non=>cases r;rfl
 | bl _=>cases r;rfl
 | int _=>obtain⟨t,rfl⟩:=r;rfl
 | str _=>obtain⟨t,rfl⟩:=r;rfl
 | byt _=>obtain⟨t,rfl⟩:=r;rfl
 | flt _=>obtain⟨t,rfl⟩:=r;rfl
 | ref _=>cases r;rfl
 | ty _=>cases r;rfl
theorem RelV.inj{x y:V}{u:Value}(r:RelV x u)(q:RelV y u):x=y:=Option.some.inj (r.abs.symm.trans q.abs)
theorem Vals.inj{xs ys:List V}{us:List Value}(h:Vals xs us)(h':Vals ys us):xs=ys:=by
 induction h generalizing ys with
 | nil=>cases h';rfl
 | cons r t ih=>cases h' with|cons r' t'=>rw[r.inj r',ih t']
section
variable{X:Cx}{pins:List ↑26}{σ:St}{H:Hp}{s:Shared}{a:Addr}{xs ys:List V}
theorem SqL.of{K:Frag}(h:H a=some (.lst xs)):SqL K H a xs:=.inl (.inl h)
theorem SqT.of{K:Frag}(h:H a=some (.tup xs)):SqT K H a xs:=.inl (.inl h)
theorem Inv.list(I:↑13)(h:SqL X.K H a xs):∃its:List Value,Vals xs its/\PlainL s.heap a its.toArray/\xs.length<=sizeLine:=by
 rcases h with h|⟨o,its,n,hk,hc,hd,hs,hz,r⟩
 ·obtain⟨z,its,n,r,e⟩:=h.ok I.hok
  exact⟨its,r,⟨_,n,e,rfl,rfl,rfl⟩,z⟩
 ·refine⟨its.toList,r,⟨o,n,I.kIn a o hk,hc,hd,by simpa using hs⟩,?_⟩
  have e:=r.length;simp only[Array.length_toList] at e;lia
theorem Inv.tuple(I:↑13)(h:SqT X.K H a xs):∃its:List Value,Vals xs its/\IsTup s.heap a its.toArray/\xs.length<=sizeLine:=by
 rcases h with h|⟨o,its,n,hk,hc,hs,hz,r⟩
 ·obtain⟨z,its,r,p⟩:=h.ok I.hok
  exact⟨its,r,p,z⟩
 ·refine⟨its.toList,r,⟨o,I.kIn a o hk,hc,n,by simpa using hs⟩,?_⟩
  have e:=r.length;simp only[Array.length_toList] at e;lia
theorem Inv.list_inj(I:↑13)(h:SqL X.K H a xs)(h':SqL X.K H a ys):xs=ys:=by
 obtain⟨its,r,⟨o,n,e,_,_,d⟩,_⟩:=I.list h;obtain⟨its',r',⟨o',n',e',_,_,d'⟩,_⟩:=I.list h';rw[e] at e';cases e';rw[d] at d';injection d' with d1 _
 have:its=its':=by simpa using congrArg Array.toList d1
 subst this;exact r.inj r'
theorem Inv.tuple_inj(I:↑13)(h:SqT X.K H a xs)(h':SqT X.K H a ys):xs=ys:=by
 obtain⟨its,r,⟨o,e,_,n,d⟩,_⟩:=I.tuple h;obtain⟨its',r',⟨o',e',_,n',d'⟩,_⟩:=I.tuple h';rw[e] at e';cases e';rw[d] at d';injection d' with d1 _
 have:its=its':=by simpa using congrArg Array.toList d1
 subst this;exact r.inj r'
end
section
variable{X:Cx}{st:Stmt}{rest:List Stmt}{t u:TS}{e:Expr}{te:TE}{pos:Pos}
def d9y:TS:=λD σ H=>D.nx σ H
def e5v(t u:TS):TS:=λD σ H=>t { D with nx:=u D } σ H
theorem v6:PSs X [] d9y:=λ_ _ σ H _ I h=>wpAny_execs_nil ⟨σ,H,I,h⟩
theorem d6(h1:PS X st t)(h2:PSs X rest u):PSs X (st::rest) (e5v t u):=by
 fail "au";refine wpAny_execs_cons (thn (h1 pins s σ H { D with nx:=u D } I h) λf s1 q=>?_)
 cases f with
 | next=>
  obtain⟨σ',H',I',q⟩:=q;exact h2 pins s1 σ' H' D I' q
 | ret v=>exact q
 | brk=>exact q
 | cont=>exact q
theorem d7(h1:PS X st t):PSs X [st] t:=by
 fail "au";refine wpAny_execs_cons (thn (h1 pins s σ H D I h) λf s1 q=>?_);cases f with
 | next=>exact wpAny_execs_nil q
 | ret v=>exact q
 | brk=>exact q
 | cont=>exact q
theorem Inv.quiet{pins:List ↑26}{σ:St}{H:Hp}{s:Shared}(I:↑13):interactive X.env=false:=by simp[interactive,I.ok.kind]
def e2v(te:TE):TS:=λD σ H=>te σ H λ_ H1=>D.nx σ H1
theorem j9(he:PE X e te)(hs:autoParam (swapsWith e none pos.line X.env=pure false) q4):PS X (.Expr e pos) (e2v te):=by
 fail "au";exact wpAny_Expr_any (thn ↑97 λv s1 z0_=>by obtain⟨x,H1,I1,r1,q1⟩:=z0_;exact⟨σ,H1,I1,q1⟩) I.quiet hs
def e8f(te:TE):TS:=λD σ H=>te σ H D.rt
theorem m8(he:PE X e te):PS X (.Return (some e) pos) (e8f te):=by
 fail "au";exact wpAny_Return_some (thn ↑97 λv s1 z0_=>by obtain⟨x,H1,I1,r1,q1⟩:=z0_;exact⟨x,σ,H1,I1,r1,q1⟩)
noncomputable def e6o(c:TT)(t u:TS):TS:=λD σ H=>c σ H λb H1=>if b=true then t D σ H1 else u D σ H1
theorem x0{c:Expr}{a b:List Stmt}{tc:TT}(hc:PT X c tc)(ha:PSs X a t)(hb:PSs X b u):PS X (.If c a b pos) (e6o tc t u):=by
 fail "au";refine wpAny_If (thn (hc pins s σ H _ I h) λd s1 z0_=>?_);obtain⟨H1,I1,q1⟩:=z0_;cases d with
 | true=>exact ha pins s1 σ H1 D I1 q1
 | false=>exact hb pins s1 σ H1 D I1 q1
def e2t:TS:=λ_ _ _=>False
theorem a5n:PS X st e2t:=λ_ _ _ _ _ _ h=>h.elim
end
abbrev TG:=V->St->Hp->(St->Hp->Prop)->Prop
abbrev TGs:=List V->St->Hp->(St->Hp->Prop)->Prop
noncomputable def PG(X:Cx)(target:Expr)(t:TG):Prop :=
 ∀(pins:List ↑26)(s:Shared)(σ:St)(H:Hp)(v:V)(u:Value)(Q:St->Hp->Prop),Inv X pins σ H s->RelV v u->t v σ H Q ->
  wpAny ↑21 X.A (assign target X.env u) (λ_ s'=>∃σ' H',Inv X pins σ' H' s'/\Q σ' H') X.xe s
noncomputable def PGs(X:Cx)(ts:List Expr)(t:TGs):Prop :=
 ∀(pins:List ↑26)(s:Shared)(σ:St)(H:Hp)(vs:List V)(us:List Value)(Q:St->Hp->Prop),Inv X pins σ H s->Vals vs us->t vs σ H Q ->
  wpAny ↑21 X.A (assignInOrder ((assignEach ts X.env).map (·.2)) us) (λ_ s'=>∃σ' H',Inv X pins σ' H' s'/\Q σ' H') X.xe s
abbrev e6f:=V->V->V->Hp->(Hp->Prop)->Prop
noncomputable def e8y(X:Cx)(t:e6f):Prop :=
 ∀(pins:List ↑26)(s:Shared)(σ:St)(H:Hp)(o i v:V)(ov iv u:Value)(Q:Hp->Prop),Inv X pins σ H s->RelV o ov->RelV i iv->RelV v u->t o i v H Q ->
  wpAny ↑21 X.A (setItem ov iv u) (λ_ s'=>∃H',Inv X pins σ H' s'/\Q H') X.xe s
abbrev TIp:=V->V->Hp->VK->Prop
noncomputable def PIp(X:Cx)(op:Operator)(t:TIp):Prop :=
 ∀(pins:List ↑26)(s:Shared)(σ:St)(H:Hp)(x y:V)(v u:Value)(Q:VK),Inv X pins σ H s->RelV x v->RelV y u->t x y H Q ->
  wpAny ↑21 X.A (inplaceOp op v u) ↑115 X.xe s
section
variable{X:Cx}{pos:Pos}
def d2d(i:Nat):TG:=λv σ H Q=>Q (σ.set i (some v)) H
theorem a1b{i:Nat}{x:Str}(hN:X.N.Nodup)(hi:X.N[i]?=some x)(hx:Loc X.env.scope x)(hf:autoParam (X.fn x=true\/X.env.scope.names.lookup x=some .local) q1):PG X (.Name x pos) (d2d i):=by
 intro pins s σ H v u Q I r h;exact wpAny_assign_Name (c1e I hN hi hx r (λs' I'=>⟨_,H,I',h⟩) hf)
def e9x:TGs:=λvs σ H Q=>vs=[]/\Q σ H
noncomputable def e7w(t:TG)(u:TGs):TGs:=λvs σ H Q=>∃v r,vs=v::r/\t v σ H λσ' H'=>u r σ' H' Q
theorem e0m:PGs X [] e9x:=by
 intro pins s σ H vs us Q I r h;obtain⟨e,h⟩:=h;subst e;cases r;exact assignInOrder_nil ⟨σ,H,I,h⟩
theorem c9w{e:Expr}{es:List Expr}{t:TG}{u:TGs}(h1:PG X e t)(h2:PGs X es u)(hs:autoParam ((assignEach (e::es) X.env).map (·.2)=assign e X.env::(assignEach es X.env).map (·.2)) q4):PGs X (e::es) (e7w t u):=by
 intro pins s σ H vs us Q I r h;obtain⟨v,vr,e1,h⟩:=h;subst e1;cases r with
 | cons r rr=>
  rw[hs];refine assignInOrder_cons (thn (h1 pins s σ H _ _ _ I r h) λ_ s1 z0_=>?_);obtain⟨σ1,H1,I1,q1⟩:=z0_;exact h2 pins s1 σ1 H1 _ _ Q I1 rr q1
noncomputable def e8u(K:↑29)(n:Nat)(t:TGs):TG:=λv σ H Q=>∃a xs,v=.ref a/\SqT K H a xs/\xs.length=n/\t xs σ H Q
theorem e3q{es:List Expr}{k:Nat}{t:TGs}{n:Nat}(hc:X.calm=true)(h:PGs X es t)(hn:autoParam ((assignEach es X.env).length=n) q4)(hst:autoParam ((assignEach es X.env).findIdx? (·.1)=none) q4):PG X (.Tuple es k pos) (e8u X.K n t):=by
 intro pins s σ H v u Q I r hw;obtain⟨a,xs,e1,hq,hl,hw⟩:=hw;subst e1;cases r;obtain⟨its,rv,ht,hz⟩:=I.tuple hq;refine assign_Tuple_tuple (I.ok.hd hc) ht (by simp[hn,<- hl,rv.length]) hst λh' hx=>?_
 have I1:Inv X pins σ H { s with heap:=h' }:=I.kept (t':=s.toks) λb o e=>hx b o (Nat.ne_of_lt (Heap.lt_size e)) e
 exact h pins _ σ H xs _ Q I1 (by simpa using rv) hw
noncomputable def e8v(to ti:TE)(t:e6f):TG:=λv σ H Q=>to σ H λo H1=>ti σ H1 λi H2=>t o i v H2 λH3=>Q σ H3
theorem c5a{o i:Expr}{to ti:TE}{t:e6f}(ho:PE X o to)(hi:PE X i ti)(hs:e8y X t)(ha:∀v,assign (.Subscript o i pos) X.env v=(do
   let ov <- holding [v] (eval o X.env)
   let iv <- holding [v,ov] (eval i X.env)
   standAt pos
   holding [v,ov,iv] (setItem ov iv v)
   release [v,ov,iv] []):=by intro _;rfl):PG X (.Subscript o i pos) (e8v to ti t):=by
 intro pins s σ H v u Q I r h;rw[ha];refine wpAny_bind (wpAny_holding (thn (ho pins s σ H _ I h) λov s1 z0_=>?_));fail "am";refine wpAny_bind (wpAny_holding (thn (hi pins s1 σ H1 _ I1 q1) λiv s2 z0_=>?_));obtain⟨y,H2,I2,r2,q2⟩:=z0_;refine wpAny_bind (wpAny_standAt (wpAny_bind (wpAny_holding (thn (hs pins s2 σ H2 x y v ov iv u _ I2 r1 r2 r q2) λ_ s3 z0_=>?_))));obtain⟨H3,I3,q3⟩:=z0_;exact wpAny_release ⟨σ,H3,I3,q3⟩
noncomputable def e3a(te:TE)(g:TG):TS:=λD σ H=>te σ H λx H1=>g x σ H1 D.nx
theorem c0l{tg e:Expr}{te:TE}{g:TG}(he:PE X e te)(hg:PG X tg g)(hs:autoParam (swapsWithSole [tg] e pos.line X.env=pure false) q4)(hw:autoParam (swappedStores [tg] e X.env=pure none) q4)(h1:autoParam ((assignEach [tg] X.env).map (·.2)=[assign tg X.env]) q4):PS X (.Assign [tg] e pos) (e3a te g):=by
 fail "au";refine wpAny_Assign_stores (thn ↑97 λv s1 z0_=>?_) hs hw;fail "am";rw[h1];exact thn (hg pins s1 σ H1 x v _ I1 r1 q1) λ_ s2 q=>q
theorem l9{i:Nat}{x:Str}{e:Expr}{te:TE}{pos':Pos}(hN:X.N.Nodup)(hi:X.N[i]?=some x)(hx:Loc X.env.scope x)(he:PE X e te)(hs:autoParam (swapsWith e (some (.Name x pos')) pos.line X.env=pure false) q4)(hf:autoParam (X.fn x=true\/X.env.scope.names.lookup x=some .local) q1):
  PS X (.Assign [.Name x pos'] e pos) (e3a te (d2d i)):=by
 fail "au";refine wpAny_Assign_Name (thn ↑97 λv s1 z0_=>?_) hs;obtain⟨y,H1,I1,r1,q1⟩:=z0_;exact c1e I1 hN hi hx r1 (λs2 I2=>⟨_,H1,I2,q1⟩) hf
noncomputable def e9c(i:Nat)(te:TE)(ti:TIp):TS:=λD σ H=>∃x,σ[i]?=some (some x)/\te σ H λy H1=>ti x y H1 λz H2=>D.nx (σ.set i (some z)) H2
theorem e3n{i:Nat}{x:Str}{e:Expr}{te:TE}{op:Operator}{ti:TIp}{pos':Pos}(hN:X.N.Nodup)(hi:X.N[i]?=some x)(hx:Loc X.env.scope x)(he:PE X e te)(ho:PIp X op ti)(hf:autoParam (X.fn x=true\/X.env.scope.names.lookup x=some .local) q1):
  PS X (.AugAssign (.Name x pos') op e pos) (e9c i te ti):=by
 fail "au";obtain⟨v,e1,h⟩:=h;obtain⟨m,hn,hl⟩:=I.loc;have vis:Vis X.env.scope x:=by rcases hx with k|k;exact .inl k;exact .inr (.inl k)
 obtain⟨u,r,l⟩:=hl i x v hi e1 vis;refine wpAny_AugAssign_Name ?_;have go:wpAny ↑21 X.A (eval e X.env) (λw s₂=>wpAny ↑21 X.A (inplaceOp op u w) (λr s₃=>wpAny ↑21 X.A (storeName X.env x r) (λ_=>SP X pins D .next) X.xe s₃) X.xe s₂) X.xe s:=by
  refine thn ↑97 λw s1 z0_=>?_;obtain⟨y,H1,I1,r1,q1⟩:=z0_;refine thn (ho pins s1 σ H1 v y u w _ I1 r r1 q1) λz s2 z0_=>?_;obtain⟨zv,H2,I2,r2,q2⟩:=z0_;exact c1e I2 hN hi hx r2 (λs3 I3=>⟨_,H2,I3,q2⟩) hf
 rcases l with ⟨hk,hm⟩|⟨hk,c,hc,hcell⟩
 ·exact wpAny_loadName_local I.ok.kind hk hn hm go
 ·rcases hk with hk|hk
  ·exact wpAny_loadName_cell I.ok.kind hk hc hcell go
  ·rcases hx with k|k
   ·have:X.env.scope.names.lookup x=some .free:=hk
    rw[k] at this;cases this
   ·have:X.env.scope.names.lookup x=some .free:=hk
    rw[k] at this;cases this
noncomputable def ipI(f:Int->Int->Int):TIp:=λx y H Q=>∃i j,x=.int i/\y=.int j/\Q (.int (f i j)) H
theorem e4k:PIp X .Add (ipI λi j=>i+j):=by
 intro pins s σ H x y v u Q I r1 r2 h;obtain⟨i,j,e1,e2,q⟩:=h;subst e1;subst e2;obtain⟨t,rfl⟩:=r1;obtain⟨t',rfl⟩:=r2;exact iadd_int ⟨.int _,H,I.tok _,⟨_,rfl⟩,q⟩
noncomputable def e2r(c:TT)(tb:TS):TS:=λD σ H=>∃W:Nat->St->Hp->Prop,(∃m,W m σ H)/\∀m σ H,W m σ H ->
 c σ H λb H1=>if b=true then ∃N:St->Hp->Prop,(∀σ' H',N σ' H'->∃m',m'<m/\W m' σ' H')/\tb { D with nx:=N,ct:=N,bk:=D.nx } σ H1 else D.nx σ H1
theorem d6t{c:Expr}{body:List Stmt}{tc:TT}{tb:TS}(hp:PassesOwn ↑21 X.A X.env X.xe)(hc:PT X c tc)(hb:PSs X body tb):PS X (.While c body [] pos) (e2r tc tb):=by
 fail "au";obtain⟨W,⟨m0,w0⟩,turn⟩:=h;refine wpAny_While (codeAny_whileLoop (λn s'=>∃σ' H',Inv X pins σ' H' s'/\W n σ' H') ?_ m0 ⟨σ,H,I,w0⟩);rintro n s1 ⟨σ1,H1,I1,w1⟩;refine wpAny_passesOwn hp (thn (hc pins s1 σ1 H1 _ I1 (turn n σ1 H1 w1)) λb s2 z0_=>?_);obtain⟨H2,I2,q2⟩:=z0_;cases b with
 | true=>
  obtain⟨N,hN,q2⟩:=q2;rw[if_pos rfl];refine wpAny_passesOwn hp (thn (hb pins s2 σ1 H2 _ I2 q2) λf s3 q3=>?_);cases f with
  | next=>
   obtain⟨σ3,H3,I3,n3⟩:=q3;obtain⟨m',hm,w3⟩:=hN σ3 H3 n3;exact⟨m',hm,σ3,H3,I3,w3⟩
  | cont=>
   obtain⟨σ3,H3,I3,n3⟩:=q3;obtain⟨m',hm,w3⟩:=hN σ3 H3 n3;exact⟨m',hm,σ3,H3,I3,w3⟩
  | brk=>exact q3
  | ret v=>exact q3
 | false=>
  rw[if_neg Bool.false_ne_true];exact wpAny_execs_nil ⟨σ1,H2,I2,q2⟩
end
structure It where
 go:Nat->Hp->Prop
 yld:Nat->Hp->V->Hp->Prop
 stop:Nat->Hp->Prop
noncomputable def d5w(X:Cx)(pins:List ↑26)(H:Hp)(b:Addr):Prop :=
 H b=none/\b≠X.env.locals/\b ∉ X.fs/\(b∈X.ex\/X.s₀.heap.objs.size<=b)/\(∀x c,X.env.cells.lookup x=some c->c≠b)/\∀p∈X.pn++pins,p.1≠b
theorem Inv.fpOk{X:Cx}{pins:List ↑26}{σ:St}{H H':Hp}{s:Shared}{b:Addr}(I:↑13)(hb:s.heap.objs.size<=b)(hn:H' b=none):d5w X pins H' b:=by
 refine⟨hn,Nat.ne_of_gt (Nat.lt_of_lt_of_le I.lt hb),I.nofs hb,.inr (Nat.le_trans I.sz hb),λx c e z=>?_,λp hp z=>?_⟩
 ·obtain⟨v,q⟩:=I.cell x c e
  exact absurd (Nat.lt_of_lt_of_le q.lt (by rw[z];exact hb)) (Nat.lt_irrefl _)
 ·exact absurd (Nat.lt_of_lt_of_le (Heap.lt_size (I.pin p hp).1) (by rw[z];exact hb)) (Nat.lt_irrefl _)
structure e6e(P:Program)(w:World)(K:↑29)(tg:Expr)(J:It)(fp:List Addr)(it:Addr)(tn:Nat->Heap->Prop):Prop where
 mem:it∈fp
 obj:∀i h,tn i h->∀b∈fp,∃o,h.get? b=some o/\∀v,o.data≠.cell v
 keep:∀i h h',tn i h->(∀b∈fp,∀o,h.get? b=some o->h'.get? b=some o)->tn i h'
 item:∀(X:Cx),X.prog=P->X.w=w->X.K=K->X.calm=true->∀(i:Nat)(pins:List ↑26)(s:Shared)(σ:St)(H:Hp)(E:↑107),Inv X pins σ H s->(∀b∈fp,d5w X pins H b)->tn i s.heap->J.go i H ->
  wpAny (model P w) X.A (pyNext (.ref it)) (λr s1=>∃u,r=some u /\
   wpAny (model P w) X.A (letOwnedTupleGo tg (.ref it) u) (λ_ s2=>∃x H',Inv X pins σ H' s2/\RelV x u/\J.yld i H x H'/\tn (i+1) s2.heap/\∀b∈fp,H' b=none) E s1) E s
 done:∀(X:Cx),X.prog=P->X.w=w->X.K=K->X.calm=true->∀(i:Nat)(pins:List ↑26)(s:Shared)(σ:St)(H:Hp)(E:↑107),Inv X pins σ H s->(∀b∈fp,d5w X pins H b)->tn i s.heap->J.stop i H ->
  wpAny (model P w) X.A (pyNext (.ref it)) (λr s1=>r=none/\Inv X pins σ H s1) E s
 self:∀(A:Around)(i:Nat)(s:Shared)(Q:↑107)(E:↑107),tn i s.heap->Q (.ref it) s->wpAny (model P w) A (pyIter (.ref it)) Q E s
abbrev TI:=St->Hp->(It->Hp->Prop)->Prop
noncomputable def PIE(X:Cx)(pins:List ↑26)(σ:St)(tg:Expr)(R:It->Hp->Prop)(itv:Value)(s2:Shared):Prop :=
 ∃(it:Addr)(fp:List Addr)(tn:Nat->Heap->Prop)(J:It)(H':Hp),itv=.ref it/\Inv X pins σ H' s2/\e6e X.prog X.w X.K tg J fp it tn/\tn 0 s2.heap/\(∀b∈fp,d5w X pins H' b)/\R J H'
noncomputable def PI(X:Cx)(tg iter:Expr)(wi:TI):Prop :=
 ∀(pins:List ↑26)(s:Shared)(σ:St)(H:Hp)(R:It->Hp->Prop),Inv X pins σ H s->wi σ H R ->
  wpAny ↑21 X.A (eval iter X.env) (λv s1=>wpAny ↑21 X.A (pyIter v) (PIE X pins σ tg R) X.xe s1) X.xe s
theorem e1f{M:Model}{A:Around}{E:Value->Shared->Prop}{s:Shared}{tg:Expr}{it:Addr}{u:Value}{o:Obj}{n:String}{vs:Array Value}{Q:Unit->Shared->Prop}(ho:s.heap.get? it=some o)(hc:o.cls=.type n)(hd:o.data=.fields vs)(hn:["enumerate","zip","dict_itemiterator","dict_reverseitemiterator","odict_iterator","itertools.zip_longest","itertools.pairwise"].contains n=false)(hQ:Q () s):wpAny M A (letOwnedTupleGo tg (.ref it) u) Q E s:=by
 unfold letOwnedTupleGo;cases tg <;> first
  | exact wpAny_pure hQ
  | (cases u <;> first
    | exact wpAny_pure hQ
    | (
      refine wpAny_bind (wpAny_load ho ?_);rw[hc,hd];show wpAny M A (if (["enumerate","zip","dict_itemiterator","dict_reverseitemiterator","odict_iterator","itertools.zip_longest","itertools.pairwise"].contains n && vs[0]? == some (rawInt _))=true then _ else _) Q E s;rw[if_neg (by intro h;rw[hn,Bool.false_and] at h;cases h)]
      exact wpAny_pure hQ))
noncomputable def Itl(K:↑29)(a:Addr):It :=
 ⟨λi H=>∃xs x,SqL K H a xs/\xs[i]?=some x,λi H x H'=>H'=H/\∀xs,SqL K H a xs->xs[i]?=some x,λi H=>∃xs,SqL K H a xs/\xs.length<=i⟩
noncomputable def Itt(K:↑29)(a:Addr):It :=
 ⟨λi H=>∃xs x,SqT K H a xs/\xs[i]?=some x,λi H x H'=>H'=H/\∀xs,SqT K H a xs->xs[i]?=some x,λi H=>∃xs,SqT K H a xs/\xs.length<=i⟩
noncomputable def Itr(lo:Int)(n:Nat):It:=⟨λi _=>i<n,λi H x H'=>H'=H/\x=.int (lo+i),λi _=>n<=i⟩
theorem d2h{P:Program}{w:World}{K:Frag}{tg:Expr}(a it:Addr):e6e P w K tg (Itl K a) [it] it (λi h=>h.IsListIter it a i) where
 mem:=by simp
 obj:=λi h st b hb=>by
  have e:b=it:=by simpa using hb
  subst e;obtain⟨o,e,c,d⟩:=st;exact⟨o,e,λv z=>by rw[d] at z;cases z⟩
 keep:=λi h h' st k=>st.at λo e=>k it (by simp) o e
 item:=by
  fail "ak";obtain⟨xs,x,hq,hx⟩:=hg;obtain⟨its,rv,p,hz⟩:=I.list hq;obtain⟨u,hu,ru⟩:=rv.get hx;obtain⟨f0,f1,f2,f3,f4,f5⟩:=hf it (by simp)
  refine wpAny_pyNext_list_item st p.isList (x:=u) (by simpa using hu) λh' st' sb=>?_
  have I1:Inv X pins σ H { s with heap:=h' }:=I.turned (t':=s.toks) (λb o hb e=>(sb.2 b hb).trans e) f0 f1 f3 f4 f5
  obtain⟨o,e,c,d⟩:=id st';exact⟨u,rfl,e1f (s:={ s with heap:=h' }) e c d (by decide) ⟨x,H,I1,ru,⟨rfl,λys hy=>by rw[I.list_inj hy hq];exact hx⟩,st',λb hb=>(hf b hb).1⟩⟩
 done:=by
  fail "ak";obtain⟨xs,hq,hx⟩:=hg;obtain⟨its,rv,p,hz⟩:=I.list hq;obtain⟨f0,f1,f2,f3,f4,f5⟩:=hf it (by simp)
  have hl:=rv.length;exact wpAny_pyNext_list_end (I.ok.hd hc) st p.isList (by simp;lia) λh' eb=>⟨rfl,I.turned (t':=s.toks) (λb o hb e=>eb b o hb e) f0 f1 f3 f4 f5⟩
 self:=λ_ _ _ _ _ st h=>wpAny_pyIter_listiter st h
theorem d0u{P:Program}{w:World}{K:Frag}{tg:Expr}(a it:Addr):e6e P w K tg (Itt K a) [it] it (λi h=>h.IsTupleIter it a i) where
 mem:=by simp
 obj:=λi h st b hb=>by
  have e:b=it:=by simpa using hb
  subst e;obtain⟨o,e,c,d⟩:=st;exact⟨o,e,λv z=>by rw[d] at z;cases z⟩
 keep:=λi h h' st k=>st.at λo e=>k it (by simp) o e
 item:=by
  fail "ak";obtain⟨xs,x,hq,hx⟩:=hg;obtain⟨its,rv,p,hz⟩:=I.tuple hq;obtain⟨u,hu,ru⟩:=rv.get hx;obtain⟨f0,f1,f2,f3,f4,f5⟩:=hf it (by simp)
  refine wpAny_pyNext_tuple_item st (show s.heap.IsTuple a its.toArray from p) (x:=u) (by simpa using hu) λh' st' sb=>?_
  have I1:Inv X pins σ H { s with heap:=h' }:=I.turned (t':=s.toks) (λb o hb e=>(sb.2 b hb).trans e) f0 f1 f3 f4 f5
  obtain⟨o,e,c,d⟩:=id st';exact⟨u,rfl,e1f (s:={ s with heap:=h' }) e c d (by decide) ⟨x,H,I1,ru,⟨rfl,λys hy=>by rw[I.tuple_inj hy hq];exact hx⟩,st',λb hb=>(hf b hb).1⟩⟩
 done:=by
  fail "ak";obtain⟨xs,hq,hx⟩:=hg;obtain⟨its,rv,p,hz⟩:=I.tuple hq;obtain⟨f0,f1,f2,f3,f4,f5⟩:=hf it (by simp)
  have hl:=rv.length;exact wpAny_pyNext_tuple_end (I.ok.hd hc) st (show s.heap.IsTuple a its.toArray from p) (by simp;lia) λh' eb=>⟨rfl,I.turned (t':=s.toks) (λb o hb e=>eb b o hb e) f0 f1 f3 f4 f5⟩
 self:=λ_ _ _ _ _ st h=>wpAny_pyIter_tupleiter st h
theorem d0v{P:Program}{w:World}{K:Frag}{tg:Expr}(it:Addr)(lo:Int)(n:Nat):e6e P w K tg (Itr lo n) [it] it (λi h=>IsRangeIter h it (lo+(i:Nat)*1) ((n:Int)-(i:Nat)) 1) where
 mem:=by simp
 obj:=λi h st b hb=>by
  have e:b=it:=by simpa using hb
  subst e;exact⟨_,st,λv z=>by
   have z':Data.fields _=Data.cell v:=z;cases z'⟩
 keep:=λi h h' st k=>k it (by simp) _ st
 item:=by
  fail "ak";obtain⟨f0,f1,f2,f3,f4,f5⟩:=hf it (by simp)
  have W:=Walks.range (prog:=X.prog) (w:=X.w) (I.ok.hd hc) it lo 1 n;refine W.item i s _ _ hg st λv h' tk hv st' kk=>?_;obtain⟨t,rfl⟩:=hv;have I1:Inv X pins σ H { s with heap:=h',toks:=tk }:=I.turned (λb o hb e=>kk b o (by simpa using hb) e) f0 f1 f3 f4 f5
  refine⟨_,rfl,e1f (s:={ s with heap:=h',toks:=tk }) (n:="range_iterator") st' rfl rfl (by decide) ⟨.int (lo+i),H,I1,⟨t,?_⟩,⟨rfl,rfl⟩,st',λb hb=>(hf b hb).1⟩⟩
  rw[Int.mul_one]
 done:=by
  fail "ak";obtain⟨f0,f1,f2,f3,f4,f5⟩:=hf it (by simp)
  exact wpAny_pyNext_range_end (I.ok.hd hc) st (by have:n<=i:=hg;lia) λh' eb=>⟨rfl,I.turned (t':=s.toks) (λb o hb e=>eb b o hb e) f0 f1 f3 f4 f5⟩
 self:=λ_ _ _ _ _ st h=>wpAny_pyIter_rangeiter st h
section
variable{X:Cx}{tg:Expr}
noncomputable def e1e(K:↑29)(tl:TE):TI:=λσ H R=>tl σ H λx H1=>∃a,x=.ref a/\(∃xs,SqL K H1 a xs)/\R (Itl K a) H1
noncomputable def e7d(K:↑29)(tl:TE):TI:=λσ H R=>tl σ H λx H1=>∃a,x=.ref a/\(∃xs,SqT K H1 a xs)/\R (Itt K a) H1
theorem e0l{l:Expr}{tl:TE}(hl:PE X l tl):PI X tg l (e1e X.K tl):=by
 intro pins s σ H R I h;refine thn (hl pins s σ H _ I h) λv s1 z0_=>?_;fail "am";obtain⟨a,e,⟨xs,hq⟩,q⟩:=q1;subst e;cases r1;obtain⟨its,rv,p,hz⟩:=I1.list hq;refine wpAny_pyIter_list p.isList ?_;refine⟨s1.heap.objs.size,[s1.heap.objs.size],_,_,H1,rfl,I1.kept (t':=s1.toks) λb o e=>Heap.get?_push_of_some _ e,d2h a _,⟨_,Heap.get?_push_size _ rfl,rfl,rfl⟩,λb hb=>?_,q⟩;have e:b=s1.heap.objs.size:=by simpa using hb
 subst e;exact I1.fpOk ↑31 (I1.hok.fresh ↑31)
theorem e3p{l:Expr}{tl:TE}(hl:PE X l tl):PI X tg l (e7d X.K tl):=by
 intro pins s σ H R I h;refine thn (hl pins s σ H _ I h) λv s1 z0_=>?_;fail "am";obtain⟨a,e,⟨xs,hq⟩,q⟩:=q1;subst e;cases r1;obtain⟨its,rv,p,hz⟩:=I1.tuple hq;refine wpAny_pyIter_tuple (show s1.heap.IsTuple a its.toArray from p) ?_;refine⟨s1.heap.objs.size,[s1.heap.objs.size],_,_,H1,rfl,I1.kept (t':=s1.toks) λb o e=>Heap.get?_push_of_some _ e,d0u a _,⟨_,Heap.get?_push_size _ rfl,rfl,rfl⟩,λb hb=>?_,q⟩;have e:b=s1.heap.objs.size:=by simpa using hb
 subst e;exact I1.fpOk ↑31 (I1.hok.fresh ↑31)
theorem c9v{pins:List ↑26}{σ:St}{H:Hp}{s:Shared}{R:It->Hp->Prop}{E:Value->Shared->Prop}{lo hi:Int}{t u v:Tok}{tk:Nat}(I:↑13)(h1:-(2 ^ 62)<=lo)(h2:lo<2 ^ 62)(h3:-(2 ^ 62)<=hi)(h4:hi<2 ^ 62)(q:R (Itr lo (hi-lo).toNat) H):wpAny ↑21 X.A (pyIter (.ref s.heap.objs.size)) (PIE X pins σ tg R) E { s with heap:=s.heap.push { cls:=.type "range",data:=.fields #[.int lo t,.int hi u,.int 1 v] },toks:=tk }:=by
 refine wpAny_pyIter_range (IsRange.new ..) (small_one h1 h2 h3 h4) ?_;have I1:Inv X pins σ H { s with heap:=s.heap.push { cls:=.type "range",data:=.fields #[.int lo t,.int hi u,.int 1 v] },toks:=tk }:=I.kept λb o e=>Heap.get?_push_of_some _ e
 refine⟨(s.heap.push { cls:=.type "range",data:=.fields #[.int lo t,.int hi u,.int 1 v] }).objs.size,[(s.heap.push { cls:=.type "range",data:=.fields #[.int lo t,.int hi u,.int 1 v] }).objs.size],_,_,H,rfl,
  I1.kept (t':=tk) λb o e=>Heap.get?_push_of_some _ e,d0v _ lo (hi-lo).toNat,?_,λb hb=>?_,q⟩
 ·have e1:lo+((0:Nat):Int)*1=lo:=by simp
  have e2:(((hi-lo).toNat:Nat):Int)-((0:Nat):Int)=Builtin.Range.rangeSize lo hi 1:=by rw[rangeSize_one];split <;> lia
  show IsRangeIter _ _ (lo+((0:Nat):Int)*1) ((((hi-lo).toNat:Nat):Int)-((0:Nat):Int)) 1;rw[e1,e2];exact Heap.get?_push_size _ rfl
 ·have e:b=(s.heap.push { cls:=.type "range",data:=.fields #[.int lo t,.int hi u,.int 1 v] }).objs.size:=by simpa using hb
  subst e;exact I1.fpOk ↑31 (I1.hok.fresh ↑31)
noncomputable def e4n(ta:TA):TI:=λσ H R=>ta σ H λvs H1=>∃j:Int,vs=[.int j]/\-(2 ^ 62)<=j/\j<2 ^ 62/\R (Itr 0 j.toNat) H1
noncomputable def e4m(ta:TA):TI:=λσ H R=>ta σ H λvs H1=>∃i j:Int,vs=[.int i,.int j]/\(-(2 ^ 62)<=i/\i<2 ^ 62/\-(2 ^ 62)<=j/\j<2 ^ 62)/\R (Itr i (j-i).toNat) H1
theorem b3p{a:Expr}{ta:TA}{p pos:Pos}(hg:Gl X "range")(hm:X.mg "range" = none)(ha:PA X [a] ta)(hs:autoParam (starEach [a] X.env=[(false,eval a X.env)]) q4):PI X tg (.Call (.Name "range" p) [a] [] pos) (e4n ta):=by
 intro pins s σ H R I h;refine Call_ (c0t I hg hm boot_range (PyProof.Rows.callWith_type1 (thn (ha pos pins s σ H _ I h) λus s1 z0_=>?_) hs rfl));obtain⟨vs,H1,I1,r1,q1⟩:=z0_;obtain⟨j,e,q1,q2,q⟩:=q1;subst e;cases r1 with
 | cons r rr=>
  cases rr;obtain⟨t,rfl⟩:=r;exact call_range_1 (c9v I1 ↑2 ↑2 q1 q2 (by simpa using q))
theorem d3g{a b:Expr}{ta:TA}{p pos:Pos}(hg:Gl X "range")(hm:X.mg "range" = none)(ha:PA X [a,b] ta)(hs:autoParam (starEach [a,b] X.env=[(false,eval a X.env),(false,eval b X.env)]) q4)(hs2:autoParam (starEach [b] X.env=[(false,eval b X.env)]) q4):
  PI X tg (.Call (.Name "range" p) [a,b] [] pos) (e4m ta):=by
 intro pins s σ H R I h;refine Call_ (c0t I hg hm boot_range (PyProof.Rows.callWith_type1 (thn (ha pos pins s σ H _ I h) λus s1 ⟨vs,H1,I1,r1,q1⟩=>?_) (by rw[hs,hs2]) (by rw[hs2];rfl)))
 obtain⟨i,j,e,⟨q1,q2,q3,q4⟩,q⟩:=q1;subst e;cases r1 with
 | cons r rr=>
  cases rr with
  | cons r' rr=>
   cases rr;obtain⟨t,rfl⟩:=r;obtain⟨t',rfl⟩:=r';exact call_range_2 (c9v I1 q1 q2 q3 q4 q)
noncomputable def e8j(wi:TI)(g:TG)(tb:TS):TS:=λD σ H=>wi σ H λJ H1=>∃W:Nat->Nat->St->Hp->Prop,(∃m,W 0 m σ H1)/\∀i m σ H,W i m σ H ->
 (J.stop i H/\D.nx σ H)\/(J.go i H/\∃N:St->Hp->Prop,(∀σ' H',N σ' H'->∃m',m'<m/\W (i+1) m' σ' H')/\∀x H',J.yld i H x H'->g x σ H' λσ2 H2=>tb { D with nx:=N,ct:=N,bk:=D.nx } σ2 H2)
noncomputable def c4z(fp:List Addr)(h:Heap):List ↑26:=fp.filterMap λb=>(h.get? b).map λo=>(b,o)
theorem a9y{fp:List Addr}{h:Heap}{b:Addr}{o:Obj}(hb:b∈fp)(e:h.get? b=some o):(b,o)∈c4z fp h:=List.mem_filterMap.mpr ⟨b,hb,by rw[e];rfl⟩
theorem d3x{fp:List Addr}{h:Heap}{p:Addr×Obj}(hp:p∈c4z fp h):p.1∈fp/\h.get? p.1=some p.2:=by
 obtain⟨b,hb,e⟩:=List.mem_filterMap.mp hp;cases q:h.get? b with
 | none=>rw[q] at e;cases e
 | some o=>
  rw[q] at e;have e':(b,o)=p:=Option.some.inj e;subst e';exact⟨hb,q⟩
theorem Inv.pinned{pins:List ↑26}{σ:St}{H:Hp}{s:Shared}{fp:List Addr}(I:↑13)(hf:∀b∈fp,d5w X pins H b)(ho:∀b∈fp,∃o,s.heap.get? b=some o/\∀v,o.data≠.cell v):Inv X (pins++c4z fp s.heap) σ H s :=
 I.pins_of λp hp=>(List.mem_append.mp hp).elim (λz=>I.pin p (List.mem_append_right _ z)) λz=>by
  obtain⟨hb,e⟩:=d3x z;obtain⟨f0,f1,f2,_⟩:=hf p.1 hb;obtain⟨o,e',d⟩:=ho p.1 hb;rw[e] at e';cases e';exact⟨e,f0,f1,f2,d⟩
theorem Inv.unpinned{pins pl:List ↑26}{σ:St}{H:Hp}{s:Shared}(I:Inv X (pins++pl) σ H s):Inv X pins σ H s:=I.pins_of λp hp=>I.pin p (List.mem_append_right _ (List.mem_append_left _ hp))
theorem b8l{iter:Expr}{body:List Stmt}{wi:TI}{g:TG}{tb:TS}{pos:Pos}(hp:PassesOwn ↑21 X.A X.env X.xe)(hc:X.calm=true)(hi:PI X tg iter wi)(hg:PG X tg g)(hb:PSs X body tb)(hs:autoParam (∀x,foldedSetIterable iter X.env x=pure x) q3):PS X (.For tg iter body [] pos) (e8j wi g tb):=by
 fail "au";refine wpAny_For (thn (hi pins s σ H _ I h) λv s1 h1=>thn h1 λitv s2 h2=>?_) hs;obtain⟨it,fp,tn,J,H2,e,I2,T,st2,f2,W,⟨m0,w0⟩,turn⟩:=h2;subst e;have stat:∀{H':Hp},(∀b∈fp,H' b=none)->∀b∈fp,d5w X pins H' b:=λhn b hb=>⟨hn b hb,(f2 b hb).2⟩;refine codeAny_forLoop_any (λn s'=>∃i σ' H',Inv X pins σ' H' s'/\tn i s'.heap/\(∀b∈fp,H' b=none)/\W i n σ' H') ?_ m0 ⟨0,σ,H2,I2,st2,λb hb=>(f2 b hb).1,w0⟩;rintro n s3 ⟨i,σ3,H3,I3,st3,fr3,w3⟩;rcases turn i n σ3 H3 w3 with ⟨stop,qn⟩|⟨go,N,hN,step⟩
 ·refine wpAny_passesOwn hp (thn (T.done X rfl rfl rfl hc i pins s3 σ3 H3 X.xe I3 (stat fr3) st3 stop) λr s4 z0_=>?_)
  obtain⟨hr,I4⟩:=z0_;subst hr;exact wpAny_execs_nil ⟨σ3,H3,I4,qn⟩
 ·refine wpAny_passesOwn hp (thn (T.item X rfl rfl rfl hc i pins s3 σ3 H3 X.xe I3 (stat fr3) st3 go) λr s4 z0_=>?_)
  obtain⟨u,hr,h4⟩:=z0_;subst hr;refine wpAny_passesOwn hp (thn h4 λ_ s5 z0_=>?_);obtain⟨x,H5,I5,r5,y5,st5,fr5⟩:=z0_;have I5':=I5.pinned (stat fr5) (T.obj _ _ st5);refine wpAny_passesOwn hp (thn (hg _ s5 σ3 H5 x u _ I5' r5 (step x H5 y5)) λ_ s6 z0_=>?_);obtain⟨σ6,H6,I6,q6⟩:=z0_;refine wpAny_passesOwn hp (thn (hb _ s6 σ6 H6 _ I6 q6) λf s7 q7=>?_);have again:∀{σ7:St}{H7:Hp},Inv X (pins++c4z fp s5.heap) σ7 H7 s7->N σ7 H7->∃m,m<n/\∃i σ' H',Inv X pins σ' H' s7/\tn i s7.heap/\(∀b∈fp,H' b=none)/\W i m σ' H':=λ{σ7 H7} I7 n7=>by
   obtain⟨m',hm,w7⟩:=hN σ7 H7 n7;refine⟨m',hm,i+1,σ7,H7,I7.unpinned,T.keep _ _ _ st5 λb hb o e=>(I7.pin (b,o) (List.mem_append_right _ (List.mem_append_right _ (a9y hb e)))).1,λb hb=>?_,w7⟩;obtain⟨o,e,d⟩:=T.obj _ _ st5 b hb;exact(I7.pin (b,o) (List.mem_append_right _ (List.mem_append_right _ (a9y hb e)))).2.1
  cases f with
  | next=>obtain⟨σ7,H7,I7,n7⟩:=q7;exact again I7 n7
  | cont=>obtain⟨σ7,H7,I7,n7⟩:=q7;exact again I7 n7
  | brk=>obtain⟨σ7,H7,I7,q7⟩:=q7;exact⟨σ7,H7,I7.unpinned,q7⟩
  | ret v=>obtain⟨x7,σ7,H7,I7,r7,q7⟩:=q7;exact⟨x7,σ7,H7,I7.unpinned,r7,q7⟩
end
theorem c3o{K:Frag}{a:Addr}{xs:List V}{g:TG}{tb:TS}{D:d9h}{σ:St}{H:Hp}(Pv:Nat->St->Hp->Prop)(h0:Pv 0 σ H)(hl:∀i σ H,i<=xs.length->Pv i σ H->SqL K H a xs)(hs:∀i x σ H,xs[i]?=some x->Pv i σ H->g x σ H λσ2 H2=>tb { D with nx:=Pv (i+1),ct:=Pv (i+1),bk:=D.nx } σ2 H2)(hd:∀σ H,Pv xs.length σ H->D.nx σ H):
  ∃W:Nat->Nat->St->Hp->Prop,(∃m,W 0 m σ H)/\∀i m σ H,W i m σ H ->
   ((Itl K a).stop i H/\D.nx σ H)\/((Itl K a).go i H/\∃N:St->Hp->Prop,(∀σ' H',N σ' H'->∃m',m'<m/\W (i+1) m' σ' H')/\∀x H',(Itl K a).yld i H x H'->g x σ H' λσ2 H2=>tb { D with nx:=N,ct:=N,bk:=D.nx } σ2 H2):=by
 refine⟨λi m σ H=>m=xs.length-i/\i<=xs.length/\Pv i σ H,⟨xs.length,by simp,Nat.zero_le _,h0⟩,?_⟩
 rintro i m σ H ⟨rfl,hi,p⟩;have q:=hl i σ H hi p;by_cases hlt:i<xs.length
 ·refine .inr ⟨⟨xs,xs[i],q,by simp[hlt]⟩,Pv (i+1),λσ' H' p'=>⟨xs.length-(i+1),by lia,rfl,hlt,p'⟩,λx H' y=>?_⟩
  obtain⟨e,y⟩:=y;subst e;exact hs i x σ _ (y xs q) p
 ·have e:i=xs.length:=by lia
  subst e;exact .inl ⟨⟨xs,q,Nat.le_refl _⟩,hd σ H p⟩
theorem d5a{lo:Int}{n:Nat}{g:TG}{tb:TS}{D:d9h}{σ:St}{H:Hp}(Pv:Nat->St->Hp->Prop)(h0:Pv 0 σ H)(hs:∀i σ H,i<n->Pv i σ H->g (.int (lo+i)) σ H λσ2 H2=>tb { D with nx:=Pv (i+1),ct:=Pv (i+1),bk:=D.nx } σ2 H2)(hd:∀σ H,Pv n σ H->D.nx σ H):
  ∃W:Nat->Nat->St->Hp->Prop,(∃m,W 0 m σ H)/\∀i m σ H,W i m σ H ->
   ((Itr lo n).stop i H/\D.nx σ H)\/((Itr lo n).go i H/\∃N:St->Hp->Prop,(∀σ' H',N σ' H'->∃m',m'<m/\W (i+1) m' σ' H')/\∀x H',(Itr lo n).yld i H x H'->g x σ H' λσ2 H2=>tb { D with nx:=N,ct:=N,bk:=D.nx } σ2 H2):=by
 refine⟨λi m σ H=>m=n-i/\i<=n/\Pv i σ H,⟨n,by simp,Nat.zero_le _,h0⟩,?_⟩
 rintro i m σ H ⟨rfl,hi,p⟩;by_cases hlt:i<n
 ·refine .inr ⟨hlt,Pv (i+1),λσ' H' p'=>⟨n-(i+1),by lia,rfl,hlt,p'⟩,λx H' y=>?_⟩
  obtain⟨e,y⟩:=y;subst e y;exact hs i σ _ hlt p
 ·have e:i=n:=by lia
  subst e;exact .inl ⟨Nat.le_refl _,hd σ H p⟩
abbrev R2:=V->V->Hp->VK->Prop
noncomputable def OpR(X:Cx)(f:Value->Value->Sem Value)(r:R2):Prop :=
 ∀(pins:List ↑26)(s:Shared)(σ:St)(H:Hp)(x y:V)(v u:Value)(Q:VK),Inv X pins σ H s->RelV x v->RelV y u->r x y H Q ->
  wpAny ↑21 X.A (f v u) ↑115 X.xe s
noncomputable def UnR(X:Cx)(f:Value->Sem Value)(r:V->Hp->VK->Prop):Prop :=
 ∀(pins:List ↑26)(s:Shared)(σ:St)(H:Hp)(x:V)(v:Value)(Q:VK),Inv X pins σ H s->RelV x v->r x H Q ->
  wpAny ↑21 X.A (f v) ↑115 X.xe s
noncomputable def b2r(X:Cx)(f:Value)(r:List V->Hp->VK->Prop):Prop :=
 ∀(pins:List ↑26)(s:Shared)(σ:St)(H:Hp)(xs:List V)(us:List Value)(Q:VK),Inv X pins σ H s->Vals xs us->r xs H Q ->
  wpAny ↑21 X.A (call f us) ↑115 X.xe s
noncomputable def tOp(r:R2)(ta tb:TE):TE:=λσ H Q=>ta σ H λx H1=>tb σ H1 λy H2=>r x y H2 Q
noncomputable def tUn(r:V->Hp->VK->Prop)(ta:TE):TE:=λσ H Q=>ta σ H λx H1=>r x H1 Q
noncomputable def rI(C:Int->Int->Prop)(g:Int->Int->V):R2:=λx y H Q=>∃i j,x=.int i/\y=.int j/\C i j/\Q (g i j) H
noncomputable def rI0(g:Int->Int->V):R2:=λx y H Q=>∃i j,x=.int i/\y=.int j/\Q (g i j) H
def rU(g:Int->V):V->Hp->VK->Prop:=λx H Q=>∃i,x=.int i/\Q (g i) H
section
variable{X:Cx}{a b c:Expr}{ta tb tc:TE}{pos:Pos}
theorem e7z(ha:PE X a ta)(hb:PE X b tb){pins:List ↑26}{s:Shared}{σ:St}{H:Hp}{R:V->V->Hp->Prop}(I:↑13)(h:ta σ H λx H1=>tb σ H1 λy H2=>R x y H2){Q:Value->Shared->Prop}{f:Value->Value->Sem Value}(hf:∀v u s2 x y H2,Inv X pins σ H2 s2->RelV x v->RelV y u->R x y H2->wpAny ↑21 X.A (f v u) Q X.xe s2):
  wpAny ↑21 X.A (eval a X.env) (λv s₁=>wpAny ↑21 X.A (eval b X.env) (λu s₂=>wpAny ↑21 X.A (f v u) Q X.xe s₂) X.xe s₁) X.xe s:=by
 refine thn ↑87 λv s1 z0_=>?_;fail "am";refine thn (hb pins s1 σ H1 _ I1 q1) λu s2 z0_=>?_;obtain⟨y,H2,I2,r2,q2⟩:=z0_;exact hf v u s2 x y H2 I2 r1 r2 q2
theorem k7{op:Operator}{r:R2}(ho:OpR X (binaryOp op) r)(ha:PE X a ta)(hb:PE X b tb):PE X (.BinOp a op b pos) (tOp r ta tb):=by
 fail "x";exact wpAny_BinOp (e7z ha hb I h λv u s2 x y H2 I2 rx ry q=>ho pins s2 σ H2 x y v u Q I2 rx ry q)
theorem d1g{op:UnaryOp}{r:V->Hp->VK->Prop}(ho:UnR X (unaryOp op) r)(ha:PE X a ta):PE X (.UnaryOp op a pos) (tUn r ta):=by
 fail "x";exact UnaryOp_ (thn ↑87 λv s1 z0_=>by obtain⟨x,H1,I1,r1,q1⟩:=z0_;exact ho pins s1 σ H1 x v Q I1 r1 q1)
theorem opI{f:Value->Value->Sem Value}{C:Int->Int->Prop}{g:Int->Int->Int}(rule:∀(i j:Int) (t u:Tok) (s:Shared) (Q:↑107) (E:↑107),C i j->Q (.int (g i j) s.toks) { s with toks:=s.toks+1 }->wpAny (model X.prog X.w) X.A (f (.int i t) (.int j u)) Q E s):
  OpR X f (rI C λi j=>.int (g i j)):=by
 fail "ac";obtain⟨i,j,rfl,rfl,hc,q⟩:=h;obtain⟨t,rfl⟩:=rx;obtain⟨t',rfl⟩:=ry;exact rule i j t t' s _ _ hc ⟨.int (g i j),H,I.tok _,⟨_,rfl⟩,q⟩
theorem e8s{f:Value->Value->Sem Value}{g:Int->Int->Int}(rule:∀(i j:Int) (t u:Tok) (s:Shared) (Q:↑107) (E:↑107),Q (.int (g i j) s.toks) { s with toks:=s.toks+1 }->wpAny (model X.prog X.w) X.A (f (.int i t) (.int j u)) Q E s):
  OpR X f (rI0 λi j=>.int (g i j)):=by
 fail "ac";obtain⟨i,j,rfl,rfl,q⟩:=h;obtain⟨t,rfl⟩:=rx;obtain⟨t',rfl⟩:=ry;exact rule i j t t' s _ _ ⟨.int (g i j),H,I.tok _,⟨_,rfl⟩,q⟩
theorem e6a{f:Value->Value->Sem Value}{g:Int->Int->Bool}(rule:∀(i j:Int) (t u:Tok) (s:Shared) (Q:↑107) (E:↑107),Q (.bool (g i j)) s->wpAny ↑21 X.A (f (.int i t) (.int j u)) Q E s):
  OpR X f (rI0 λi j=>.bl (g i j)):=by
 fail "ac";obtain⟨i,j,rfl,rfl,q⟩:=h;obtain⟨t,rfl⟩:=rx;obtain⟨t',rfl⟩:=ry;exact rule i j t t' s _ _ ⟨.bl (g i j),H,I,rfl,q⟩
def f0b(i j:Int):Prop:=0<=j/\j<=1000000/\i.natAbs<2 ^ 64
def CMul(i j:Int):Prop:=(-(2 ^ 64)<i/\i<2 ^ 64)\/(-(2 ^ 64)<j/\j<2 ^ 64)
theorem CMul.ok{i j:Int}(h:CMul i j):IntMulOk i j:=by
 rcases h with ⟨h1,h2⟩|⟨h1,h2⟩
 ·exact .of_left (intBits_le_64 h1 h2)
 ·exact .of_right (intBits_le_64 h1 h2)
theorem v3:OpR X (binaryOp .Add) (rI0 λi j=>.int (i+j)):=e8s λ_ _ _ _ _ _ _ q=>add_int q
theorem a2g:OpR X (binaryOp .Sub) (rI0 λi j=>.int (i-j)):=e8s λ_ _ _ _ _ _ _ q=>sub_int q
theorem a0p:OpR X (binaryOp .Mult) (rI CMul λi j=>.int (i*j)):=opI λ_ _ _ _ _ _ _ hc q=>mul_int q hc.ok
theorem a0l:OpR X (binaryOp .Mod) (rI (λ_ j=>0<j) λi j=>.int (i % j)):=opI λi j _ _ _ _ _ hc q=>by
 have h1:(0:Int)<j:=hc;exact mod_int' ↑2 (by rw[Int.fmod_eq_emod_of_nonneg i ↑2];exact q)
theorem d3o:OpR X (binaryOp .Pow) (rI f0b λi j=>.int (i ^ j.toNat)):=opI λ_ _ _ _ _ _ _ hc q=>pow_int_small hc.1 hc.2.1 hc.2.2 q
theorem unI{f:Value->Sem Value}{g:Int->Int}(rule:∀(i:Int) (t:Tok) (s:Shared) (Q:↑107) (E:↑107),Q (.int (g i) s.toks) { s with toks:=s.toks+1 }->wpAny (model X.prog X.w) X.A (f (.int i t)) Q E s):
  UnR X f (rU λi=>.int (g i)):=by
 intro pins s σ H x v Q I rx h;obtain⟨i,rfl,q⟩:=h;obtain⟨t,rfl⟩:=rx;exact rule i t s _ _ ⟨.int (g i),H,I.tok _,⟨_,rfl⟩,q⟩
theorem c0c:UnR X (unaryOp .USub) (rU λi=>.int (-i)):=unI λ_ _ _ _ _ q=>neg_int q
end
noncomputable def e5x:V->V->Bool
 | .non,.non=>true|.non,.int _=>true|.int _,.non=>true|.non,.bl _=>true|.bl _,.non=>true|.non,.str _=>true|.str _,.non=>true
 | .int _,.int _=>true|.bl _,.bl _=>true|.str _,.str _=>true|.byt _,.byt _=>true
 | .int _,.str _=>true|.str _,.int _=>true|.bl _,.str _=>true|.str _,.bl _=>true
 | _,_=>false
noncomputable def rEq:R2:=λx y H Q=>e5x x y=true/\Q (.bl (decide (x=y))) H
noncomputable def rNe:R2:=λx y H Q=>e5x x y=true/\Q (.bl (!decide (x=y))) H
theorem a5a{i j:Int}:decide (V.int i=V.int j)=(i == j):=by
 rw[Bool.eq_iff_iff];simp
theorem d9f{i j:Bool}:decide (V.bl i=V.bl j)=(i == j):=by
 rw[Bool.eq_iff_iff];simp
theorem a2v{i j:Str}:decide (V.str i=V.str j)=(i == j):=by
 rw[Bool.eq_iff_iff];simp
theorem d5f{i j:Array UInt8}:decide (V.byt i=V.byt j)=(i.toList == j.toList):=by
 rw[Bool.eq_iff_iff];cases i;cases j;simp
section
variable{X:Cx}{a b c:Expr}{ta tb tc:TE}{pos:Pos}
theorem a9o{pins:List ↑26}{σ:St}{H:Hp}{s:Shared}{Q:VK}{k k':Bool}(I:↑13)(q:Q (.bl k) H)(e:k=k'):EP X pins σ Q (.bool k') s:=by
 subst e;exact⟨.bl k,H,I,rfl,q⟩
theorem a0m:OpR X (compareOp .Eq) rEq:=by
 fail "ac";obtain⟨hs,q⟩:=h;cases x with
 | non=>
  cases rx;cases y with
  | non=>cases ry;exact PySem.EqNone.eq_none_none ↑41
  | bl j=>cases ry;exact PySem.EqNone.eq_none_bool ↑41
  | int j=>obtain⟨t',rfl⟩:=ry;exact PySem.EqNone.eq_none_int ↑41
  | str j=>obtain⟨t',rfl⟩:=ry;exact PySem.EqNone.eq_none_str ↑41
  | _=>exact absurd (show false=true from hs) Bool.false_ne_true
 | bl i=>
  cases rx;cases y with
  | non=>cases ry;exact PySem.EqNone.eq_bool_none ↑41
  | bl j=>cases ry;exact eq_bool (a9o I q d9f)
  | str j=>obtain⟨t',rfl⟩:=ry;exact PySem.EqMixed.eq_bool_str ↑41
  | _=>exact absurd (show false=true from hs) Bool.false_ne_true
 | int i=>
  obtain⟨t,rfl⟩:=rx;cases y with
  | non=>cases ry;exact PySem.EqNone.eq_int_none ↑41
  | int j=>obtain⟨t',rfl⟩:=ry;exact eq_int (a9o I q a5a)
  | str j=>obtain⟨t',rfl⟩:=ry;exact PySem.EqMixed.eq_int_str ↑41
  | _=>exact absurd (show false=true from hs) Bool.false_ne_true
 | str i=>
  obtain⟨t,rfl⟩:=rx;cases y with
  | non=>cases ry;exact PySem.EqNone.eq_str_none ↑41
  | bl j=>cases ry;exact PySem.EqMixed.eq_str_bool ↑41
  | int j=>obtain⟨t',rfl⟩:=ry;exact PySem.EqMixed.eq_str_int ↑41
  | str j=>obtain⟨t',rfl⟩:=ry;exact eq_str (a9o I q a2v)
  | _=>exact absurd (show false=true from hs) Bool.false_ne_true
 | byt i=>
  obtain⟨t,rfl⟩:=rx;cases y with
  | byt j=>obtain⟨t',rfl⟩:=ry;exact PySem.W.eq_bytes (a9o I q d5f)
  | _=>exact absurd (show false=true from hs) Bool.false_ne_true
 | _=>cases y <;> exact absurd (show false=true from hs) Bool.false_ne_true
theorem e3u:OpR X (compareOp .NotEq) rNe:=by
 fail "ac";obtain⟨hs,q⟩:=h;cases x with
 | non=>
  cases rx;cases y with
  | non=>cases ry;exact PySem.EqNone.ne_none_none ↑41
  | bl j=>cases ry;exact PySem.EqNone.ne_none_bool ↑41
  | int j=>obtain⟨t',rfl⟩:=ry;exact PySem.EqNone.ne_none_int ↑41
  | str j=>obtain⟨t',rfl⟩:=ry;exact PySem.EqNone.ne_none_str ↑41
  | _=>exact absurd (show false=true from hs) Bool.false_ne_true
 | bl i=>
  cases rx;cases y with
  | non=>cases ry;exact PySem.EqNone.ne_bool_none ↑41
  | bl j=>cases ry;exact ne_bool (a9o I q (congrArg not d9f))
  | str j=>obtain⟨t',rfl⟩:=ry;exact PySem.EqMixed.ne_bool_str ↑41
  | _=>exact absurd (show false=true from hs) Bool.false_ne_true
 | int i=>
  obtain⟨t,rfl⟩:=rx;cases y with
  | non=>cases ry;exact PySem.EqNone.ne_int_none ↑41
  | int j=>obtain⟨t',rfl⟩:=ry;exact ne_int (a9o I q (congrArg not a5a))
  | str j=>obtain⟨t',rfl⟩:=ry;exact PySem.EqMixed.ne_int_str ↑41
  | _=>exact absurd (show false=true from hs) Bool.false_ne_true
 | str i=>
  obtain⟨t,rfl⟩:=rx;cases y with
  | non=>cases ry;exact PySem.EqNone.ne_str_none ↑41
  | bl j=>cases ry;exact PySem.EqMixed.ne_str_bool ↑41
  | int j=>obtain⟨t',rfl⟩:=ry;exact PySem.EqMixed.ne_str_int ↑41
  | str j=>obtain⟨t',rfl⟩:=ry;exact ne_str (a9o I q (congrArg not a2v))
  | _=>exact absurd (show false=true from hs) Bool.false_ne_true
 | byt i=>
  obtain⟨t,rfl⟩:=rx;cases y with
  | byt j=>obtain⟨t',rfl⟩:=ry;exact PySem.W.ne_bytes (a9o I q (congrArg not d5f))
  | _=>exact absurd (show false=true from hs) Bool.false_ne_true
 | _=>cases y <;> exact absurd (show false=true from hs) Bool.false_ne_true
theorem b5h:OpR X (compareOp .Lt) (rI0 λi j=>.bl (decide (i<j))):=e6a λ_ _ _ _ _ _ _ q=>lt_int q
theorem e6x:OpR X (compareOp .LtE) (rI0 λi j=>.bl (decide (i<=j))):=e6a λ_ _ _ _ _ _ _ q=>le_int q
theorem c5d:OpR X (compareOp .Gt) (rI0 λi j=>.bl (decide (j<i))):=e6a λ_ _ _ _ _ _ _ q=>gt_int q
theorem d3s:OpR X (compareOp .GtE) (rI0 λi j=>.bl (decide (j<=i))):=e6a λ_ _ _ _ _ _ _ q=>ge_int q
theorem e3v:OpR X (compareOp .Is) (λx y H Q=>y=.non/\Q (.bl (decide (x=.non))) H):=by
 fail "ac";obtain⟨rfl,q⟩:=h;cases ry;refine is_none_gen (a9o I q ?_);cases x <;> first
  | (cases rx;rfl)
  | (obtain⟨t,rfl⟩:=rx;rfl)
theorem e0u:OpR X (compareOp .IsNot) (λx y H Q=>y=.non/\Q (.bl (!decide (x=.non))) H):=by
 fail "ac";obtain⟨rfl,q⟩:=h;cases ry;refine isnot_none_gen (a9o I q ?_);cases x <;> first
  | (cases rx;rfl)
  | (obtain⟨t,rfl⟩:=rx;rfl)
theorem e3z(b:Expr){op:CmpOp}(h:autoParam (op≠.In) q2)(h2:autoParam (op≠.NotIn) q2):behindInMarks op b=false:=by
 have e1:(op == CmpOp.In)=false:=by cases op <;> first|rfl|exact absurd rfl h
 have e2:(op == CmpOp.NotIn)=false:=by cases op <;> first|rfl|exact absurd rfl h2
 cases b <;> simp[behindInMarks,e1,e2]
theorem a3k{op:CmpOp}{r:R2}(ho:OpR X (compareOp op) r)(ha:PE X a ta)(hb:PE X b tb)(hm:behindInMarks op b=false):PE X (.Compare a [op] [b] pos) (tOp r ta tb):=by
 fail "x";exact wpAny_Compare1 (e7z ha hb I h λv u s2 x y H2 I2 rx ry q=>ho pins s2 σ H2 x y v u Q I2 rx ry q) hm
noncomputable def d9w(t:TE):TT:=λσ H Q=>t σ H λx H'=>∃k,x=.bl k/\Q k H'
theorem l7{op:CmpOp}{r:R2}(ho:OpR X (compareOp op) r)(ha:PE X a ta)(hb:PE X b tb)(hm:behindInMarks op b=false):PT X (.Compare a [op] [b] pos) (d9w (tOp r ta tb)):=by
 fail "x";refine wpAny_isTrue_Compare1 (thn ↑87 λv s1 ⟨x,H1,I1,r1,q1⟩=>thn (hb pins s1 σ H1 _ I1 q1) λu s2 ⟨y,H2,I2,r2,q2⟩=>
  thn (ho pins s2 σ H2 x y v u _ I2 r1 r2 q2) λc s3 ⟨z,H3,I3,r3,k,e,q3⟩=>?_) hm
 subst e;cases r3;exact wpAny_truthy_bool ⟨H3,I3,q3⟩
theorem d4f:(sizeLine:Nat)<2 ^ 63:=by rw[sizeLine_eq];decide
theorem d2g{x:V}{us:List Value}(r:Vals [x] us):∃u,us=[u]/\RelV x u:=by
 cases r with
 | cons r1 r2=>cases r2;exact⟨_,rfl,r1⟩
theorem e2n{x y:V}{us:List Value}(r:Vals [x,y] us):∃u w',us=[u,w']/\RelV x u/\RelV y w':=by
 cases r with
 | cons r1 r2=>
  cases r2 with
  | cons r3 r4=>cases r4;exact⟨_,_,rfl,r1,r3⟩
theorem d5m(hc:X.calm=true):b2r X (.builtin "max") (λxs H Q=>∃i j,xs=[.int i,.int j]/\Q (.int (if j > i then j else i)) H):=by
 intro pins s σ H xs us Q I r h;obtain⟨i,j,rfl,q⟩:=h;obtain⟨u,w',rfl,⟨t,rfl⟩,⟨t',rfl⟩⟩:=e2n r;refine max_two_ints (I.ok.hd hc) λh' tk k=>⟨_,H,I.kept k,?_,q⟩;by_cases hj:j > i
 ·rw[if_pos hj,if_pos hj];exact⟨_,rfl⟩
 ·rw[if_neg hj,if_neg hj];exact⟨_,rfl⟩
theorem d5l(hc:X.calm=true):b2r X (.builtin "min") (λxs H Q=>∃i j,xs=[.int i,.int j]/\Q (.int (if j<i then j else i)) H):=by
 intro pins s σ H xs us Q I r h;obtain⟨i,j,rfl,q⟩:=h;obtain⟨u,w',rfl,⟨t,rfl⟩,⟨t',rfl⟩⟩:=e2n r;refine min_two_ints (I.ok.hd hc) λh' tk k=>⟨_,H,I.kept k,?_,q⟩;by_cases hj:j<i
 ·rw[if_pos hj,if_pos hj];exact⟨_,rfl⟩
 ·rw[if_neg hj,if_neg hj];exact⟨_,rfl⟩
theorem a6q:b2r X ↑119 (λxs H Q=>(∃i,xs=[.int i]/\Q (.int i) H) \/ ∃k,xs=[.bl k]/\Q (.int (if k then 1 else 0)) H):=by
 intro pins s σ H xs us Q I r h;rcases h with ⟨i,rfl,q⟩|⟨k,rfl,q⟩
 ·obtain⟨u,rfl,t,rfl⟩:=d2g r
  exact call_int_int ⟨.int i,H,I,⟨_,rfl⟩,q⟩
 ·obtain⟨u,rfl,r1⟩:=d2g r
  cases r1;exact call_int_bool ⟨.int (if k then 1 else 0),H,I.tok _,⟨_,rfl⟩,q⟩
end
structure ObjM(h:Heap)(x dx C:Addr)(mA:↑67):Prop where
 obj:h.get? x=some (PySem.W.instObj C dx)
 ns:h.Ns1 dx mA
 ne:dx≠x
theorem d4e{h:Heap}{dx:Addr}{mA:Str->Option Value}(n:h.Ns1 dx mA):∃od,h.get? dx=some od/\∀name,PySem.W.lookIn name od=some (mA name):=by
 obtain⟨o,es,ep,ho,hd,hk,_,hm⟩:=n;refine⟨o,ho,λname=>?_⟩;have e:=hm name;unfold nsFind findBy at e;rw[<- Array.find?_toList] at e;unfold PySem.W.lookIn;rw[hd];dsimp only;split
 ·rename_i y q
  rw[q] at e;exact congrArg some e
 ·rename_i q
  rw[q] at e;have a:es.toList.any (·.refKey)=false:=by
   rw[List.any_eq_false];intro y hy;obtain⟨z,t,hkey⟩:=hk y (Array.mem_toList_iff.mp hy);simp[DictEntry.refKey,hkey]
  have a':¬ es.toList.any (·.refKey)=true:=by rw[a];exact Bool.false_ne_true
  rw[if_neg a'];exact congrArg some e
theorem ObjM.look{h:Heap}{x dx C:Addr}{mA:Str->Option Value}(I:ObjM h x dx C mA):∃od,PySem.W.InstAt h x (PySem.W.instObj C dx) C (some od)/\∀name,PySem.W.lookIn name od=some (mA name) :=
 let ⟨od,ho,hl⟩:=d4e I.ns
 ⟨od,⟨I.obj,rfl,rfl,ho⟩,hl⟩
section
variable{prog:Program}{w:World}{A:Around}{E:Value->Shared->Prop}{s:Shared}{K:Frag}{x dx C f:Addr}{mA:Str->Option Value}{name:Str}{v:Value}
theorem e1g{expr:Bool}{Q:Value->Shared->Prop}(X:K.In s.heap)(I:ObjM s.heap x dx C mA)(hg:plainGet K C name=true)(hh:hasDictIn K C=true)(ha:findIn K (.ref C) name=some none)(hv:mA name=some v)(hv':PySem.W.handedIn v=true)(h:Q v { s with toks:=s.toks+1 }):
  wpAny ↑56 A (getAttr (.ref x) name expr) Q E s:=by
 obtain⟨od,J,hl⟩:=I.look;exact PySem.W.get_value X J (PySem.W.plainGet_of hg).1 (PySem.W.findObj_own hh ha rfl (by rw[hl,hv])) hv' h
theorem d7r{pl:Sem Bool}{Q:Value×List Value->Shared->Prop}(X:K.In s.heap)(I:ObjM s.heap x dx C mA)(hg:plainGet K C name=true)(hf:findIn K (.ref C) name=some ↑116)(ht:isFn K (.ref f)=true)(hv:mA name=none)(h:Q (.ref f,[.ref x]) s):
  wpAny ↑56 A (getMethod (.ref x) name pl) Q E s:=by
 obtain⟨od,J,hl⟩:=I.look;exact PySem.W.method_fn X J (PySem.W.plainGet_of hg).1 (PySem.W.plainGet_of hg).2 hf (beq_iff_eq.mp ht) (by show(PySem.W.lookIn name od).map (·.isSome)=some false;rw[hl,hv];rfl) h
theorem e0d{ns:List Str}{Q:Unit->Shared->Prop}(X:K.In s.heap)(I:ObjM s.heap x dx C mA)(hs:findIn K (.ref C) "__setattr__" = some ↑77)(hp:plainOver K C=true)(ht:PySem.W.takerIn K C name=some none)(hh:hasDictIn K C=true)(hw:PySem.Within mA ns)(hsz:ns.length<=sizeLine)(h:∀h',ObjM h' x dx C (λy=>if y=name then some v else mA y)->Heap.SameBut dx s.heap h'->Q () { s with heap:=h',toks:=s.toks+2 }):
  wpAny ↑56 A (setAttr (.ref x) name v) Q E s:=by
 obtain⟨od,J,hl⟩:=I.look;refine PySem.W.set_plain X J hs (PySem.W.osa_open (s:={ s with toks:=s.toks+1 }) (r:=none) X J hp ht λb=>?_)
 obtain⟨cd,hc,hd'⟩:=PySem.W.any_some hh;have hx:s.heap.get? x=some ⟨.ref C,some dx,.plain,#[]⟩:=I.obj;refine wpAny_bind (wpAny_pure (wpAny_bind (wpAny_bind (wpAny_loadPart hx (wpAny_bind (PySem.W.Looks.here (s:={ s with toks:=s.toks+1 }) (PySem.W.looks_clsIn X hc) ?_))))))
 rw[hd'];refine wpAny_pure (a:=some dx) (wpAny_bind (wpAny_pure (wpAny_bind ?_)));refine wpAny_nsSet1 (s:={ s with toks:=s.toks+1 }) I.ns λh' hn2 hs2=>?_
 obtain⟨oD,esD,epD,hoD,hdD,hcD⟩:=hn2.count (PySem.Within.cons name v hw);refine wpAny_bind (wpAny_lookBehind hoD (by rw[hdD];exact pastItsLine_dict (Nat.le_trans hcD (by rw[List.length_cons];lia))) ?_)
 exact wpAny_pure (h _ ⟨(hs2.2 _ (Ne.symm I.ne)).trans I.obj,hn2,I.ne⟩ hs2)
theorem d7e{R:Result->Shared->Prop}{vs:List Value}{kw:List (Str×Value)}(X:K.In s.heap)(hm:makesIn K C=true)(hi:findIn K (.ref C) "__init__" = some ↑116)(hf:PySem.W.typeIn K (.ref f)=some (.type "function"))(h:codeAny ↑56 (A.under (.builtin "type.__call__" ⟨.ref C::vs,kw⟩)) (.call (.ref f) ⟨.ref ↑62::vs,kw⟩) (PySem.W.InitBack ↑62 R)
   { s with heap:=(s.heap.push PySem.W.emptyDict).push (PySem.W.instObj C s.heap.objs.size) }):
  codeAny ↑56 A (.call (.ref C) ⟨vs,kw⟩) R s:=by
 obtain⟨hh,g,d,t,os⟩:=s;exact PySem.W.make_core (PySem.W.makes_of X hm) (PySem.W.looks_findIn X hi) (λself=>PySem.W.bind_fn X self hf) ↑22 h
end
noncomputable def b9q(f:Str)(v:V):List (Str×V)->List (Str×V)
 | []=>[(f,v)]
 | (g,x)::r=>if g=f then (g,v)::r else (g,x)::b9q f v r
theorem b8s(f g:Str)(v:V):∀fs:List (Str×V),(b9q f v fs).lookup g=if g=f then some v else fs.lookup g
 | []=>by
  show List.lookup g [(f,v)]=_;by_cases h:g=f
  ·have hb:(g == f)=true:=beq_iff_eq.mpr h
   simp only[List.lookup,hb,if_pos h]
  ·have hb:(g == f)=false:=beq_eq_false_iff_ne.mpr h
   simp only[List.lookup,hb,if_neg h]
 | (k,x)::r=>by
  have ih:=b8s f g v r;rw[show b9q f v ((k,x)::r)=(if k=f then (k,v)::r else (k,x)::b9q f v r) from rfl];by_cases hk:k=f
  ·rw[if_pos hk]
   by_cases h:g=k
   ·have hb:(g == k)=true:=beq_iff_eq.mpr h
    simp only[List.lookup,hb,if_pos (h.trans hk)]
   ·have hb:(g == k)=false:=beq_eq_false_iff_ne.mpr h
    simp only[List.lookup,hb,if_neg (λe:g=f=>h (e.trans hk.symm))]
  ·rw[if_neg hk]
   by_cases h:g=k
   ·have hb:(g == k)=true:=beq_iff_eq.mpr h
    simp only[List.lookup,hb,if_neg (λe:g=f=>hk (h.symm.trans e))]
   ·have hb:(g == k)=false:=beq_eq_false_iff_ne.mpr h
    simp only[List.lookup,hb];exact ih
theorem b8u(f:Str)(v:V):∀fs:List (Str×V),f∈(b9q f v fs).map (·.1)/\∀g,g∈fs.map (·.1)->g∈(b9q f v fs).map (·.1)
 | []=>⟨by simp[b9q],λg h=>by simp at h⟩
 | (k,x)::r=>by
  obtain⟨i1,i2⟩:=b8u f v r;rw[show b9q f v ((k,x)::r)=(if k=f then (k,v)::r else (k,x)::b9q f v r) from rfl];by_cases hk:k=f
  ·rw[if_pos hk]
   subst hk;exact⟨by simp,λg h=>by simpa using h⟩
  ·rw[if_neg hk]
   refine⟨?_,λg h=>?_⟩
   ·rw[List.map_cons]
    exact List.mem_cons_of_mem _ i1
   ·rw[List.map_cons] at h ⊢
    rcases List.mem_cons.mp h with e|e
    ·exact List.mem_cons.mpr (.inl e)
    ·exact List.mem_cons_of_mem _ (i2 g e)
theorem b8t(f:Str)(v:V):∀fs:List (Str×V),(b9q f v fs).length<=fs.length+1
 | []=>by simp[b9q]
 | (k,x)::r=>by
  have ih:=b8t f v r;rw[show b9q f v ((k,x)::r)=(if k=f then (k,v)::r else (k,x)::b9q f v r) from rfl];by_cases hk:k=f
  ·rw[if_pos hk,List.length_cons,List.length_cons];lia
  ·rw[if_neg hk,List.length_cons,List.length_cons];lia
theorem RelO.some_of{v:V}{o:Option Value}(r:RelO (some v) o):∃u,o=some u/\RelV v u:=by
 cases o with
 | none=>exact(show False from r).elim
 | some u=>exact⟨u,rfl,r⟩
theorem RelO.none_of{o:Option Value}(r:RelO none o):o=none:=by
 cases o with
 | none=>rfl
 | some u=>exact(show False from r).elim
theorem d4p{v:V}{u:Value}(r:RelV v u):PySem.W.handedIn u=true:=by
 cases v with
 | non=>cases (show u=Value.none from r);rfl
 | bl b=>cases (show u=Value.bool b from r);rfl
 | int i=>obtain⟨t,e⟩:=(show ∃t,u=Value.int i t from r);cases e;rfl
 | str x=>obtain⟨t,e⟩:=(show ∃t,u=Value.str x t from r);cases e;rfl
 | byt b=>obtain⟨t,e⟩:=(show ∃t,u=Value.bytes b t from r);cases e;rfl
 | flt b=>obtain⟨t,e⟩:=(show ∃t,u=Value.float b t from r);cases e;rfl
 | ref a=>cases (show u=Value.ref a from r);rfl
 | ty n=>cases (show u=Value.type n from r);rfl
section
variable{P:Program}{w:World}{H H':Hp}{h h':Heap}{a C dx:Addr}{fs fs':List (Str×V)}
theorem c3m(hok:HOk P w H h)(e:H a=some ↑66):∃mA,ObjM h a dx C mA/\(∀f,RelO (fs.lookup f) (mA f))/\PySem.Within mA (fs.map (·.1))/\fs.length<=1000/\H dx=some (.own a):=by
 obtain⟨d,z,ne,ob,mA,n,r,q⟩:=(show ObjOk P w H h a ↑66 from hok a _ e);exact⟨mA,⟨ob,n,ne⟩,r,q,z,d⟩
end
structure Cls(K:↑29)(C:Addr):Prop where
 pg:plainGet K C Str.empty=true
 hd:hasDictIn K C=true
 po:plainOver K C=true
 sa:findIn K (.ref C) "__setattr__" = some ↑77
theorem Cls.get{K:Frag}{C:Addr}(c:Cls K C)(f:Str):plainGet K C f=true:=c.pg
def NoAttr(K:↑29)(C:Addr)(f:Str):Prop:=findIn K (.ref C) f=some none
theorem NoAttr.taker{K:Frag}{C:Addr}{f:Str}(n:NoAttr K C f):PySem.W.takerIn K C f=some none:=by
 unfold PySem.W.takerIn;rw[show findIn K (.ref C) f=some none from n]
 rfl
structure e5t(K:↑29)(C:Addr)(m:Str)(f:Addr):Prop where
 at_:findIn K (.ref C) m=some ↑116
 fn:isFn K (.ref f)=true
 kp:keepIn K (.ref f)=true
section
variable{X:Cx}{pins:List ↑26}{σ:St}{H:Hp}{s:Shared}{a C dx:Addr}{fs:List (Str×V)}{f:Str}{v:V}{A:Around}{E:Value->Shared->Prop}
theorem c0v{b:Bool}{Q:Value->Shared->Prop}(I:↑13)(e:H a=some ↑66)(c:Cls X.K C)(n:NoAttr X.K C f)(l:fs.lookup f=some v)(h:∀u s',Inv X pins σ H s'->RelV v u->Q u s'):wpAny ↑21 A (getAttr (.ref a) f b) Q E s:=by
 obtain⟨mA,O,r,_,_,_⟩:=c3m I.hok e;obtain⟨u,hu,ru⟩:=RelO.some_of (v:=v) (o:=mA f) (by rw[<- l];exact r f)
 exact e1g I.kIn O (c.get f) c.hd n hu (d4p ru) (h u _ (I.tok _) ru)
theorem b0a{m:Str}{g:Addr}{pl:Sem Bool}{Q:Value×List Value->Shared->Prop}(I:↑13)(e:H a=some ↑66)(c:Cls X.K C)(k:e5t X.K C m g)(l:fs.lookup m=none)(h:Q (.ref g,[.ref a]) s):wpAny ↑21 A (getMethod (.ref a) m pl) Q E s:=by
 obtain⟨mA,O,r,_,_,_⟩:=c3m I.hok e;have hn:mA m=none:=RelO.none_of (by rw[<- l];exact r m)
 exact d7r I.kIn O (c.get m) k.at_ k.fn hn h
theorem b4j{y:V}{u:Value}{Q:Unit->Shared->Prop}(I:↑13)(e:H a=some ↑66)(c:Cls X.K C)(n:NoAttr X.K C f)(hl:fs.length<1000)(ry:RelV y u)(h:∀s',Inv X pins σ (upd H a (.ins C dx (b9q f y fs))) s'->Q () s'):wpAny ↑21 A (setAttr (.ref a) f u) Q E s:=by
 obtain⟨mA,O,r,wi,_,ho⟩:=c3m I.hok e;have hz:(fs.map (·.1)).length<=sizeLine:=by rw[List.length_map,sizeLine_eq];lia
 refine e0d I.kIn O c.sa c.po n.taker c.hd wi hz λh' O' sb=>h _ ?_;have hd:∃o,h'.get? dx=some o:=let ⟨o,_,_,e',_⟩:=O'.ns;⟨o,e'⟩
 refine I.write (x:=a) (e:=dx) (by rw[e];exact True.intro) (.inr ho) (λb q hb z=>(sb.2 b hb).trans z) hd ?_
 refine⟨by rw[d8 O.ne];exact ho,?_,O.ne,O'.obj,_,O'.ns,λg=>?_,λg hg=>?_⟩
 ·have:=b8t f y fs;lia
 ·show RelO ((b9q f y fs).lookup g) (if g=f then some u else mA g)
  rw[b8s];by_cases q:g=f
  ·rw[if_pos q,if_pos q];exact ry
  ·rw[if_neg q,if_neg q];exact r g
 ·by_cases q:g=f
  ·rw[q];exact(b8u f y fs).1
  ·refine (b8u f y fs).2 g (wi g λz=>hg ?_)
   show(if g=f then some u else mA g)=none;rw[if_neg q];exact z
theorem Inv.made(I:↑13):Inv X pins σ (upd (upd H s.heap.objs.size (.own ↑62)) ↑62 (.ins C s.heap.objs.size []))
  { s with heap:=(s.heap.push PySem.W.emptyDict).push (PySem.W.instObj C s.heap.objs.size) }:=by
 have e1:(s.heap.push PySem.W.emptyDict).get? s.heap.objs.size=some PySem.W.emptyDict:=Heap.get?_push_size s.heap rfl;have e2:((s.heap.push PySem.W.emptyDict).push (PySem.W.instObj C s.heap.objs.size)).get? ↑62=some (PySem.W.instObj C s.heap.objs.size):=by
  have:=Heap.get?_push_size (s.heap.push PySem.W.emptyDict) (o:=PySem.W.instObj C s.heap.objs.size) rfl
  rwa [Heap.size_push] at this
 have e3:(s.heap.push PySem.W.emptyDict).Ns s.heap.objs.size (λ_=>none):=⟨PySem.W.emptyDict,#[],_,e1,rfl,(λe he=>absurd he (by simp)),λ_=>rfl⟩
 have I1:=I.laid (a:=s.heap.objs.size) (o:=.own ↑62) (h':=s.heap.push PySem.W.emptyDict) (t':=s.toks) (λb u q=>Heap.get?_push_of_some _ q) ↑31 ⟨_,e1⟩;refine I1.laid (a:=s.heap.objs.size+1) (o:=.ins C s.heap.objs.size []) (t':=s.toks) (λb u q=>Heap.get?_push_of_some _ q) (Nat.le_of_eq (Heap.size_push _ _)) ?_;have ne:s.heap.objs.size≠s.heap.objs.size+1:=Nat.ne_of_lt (Nat.lt_succ_self _);refine⟨by rw[d8 ne,d9],Nat.zero_le _,ne,e2,λ_=>none,(Heap.Ns1.of_empty e3).at λo q=>Heap.get?_push_of_some _ q,λ_=>True.intro,λy hy=>absurd rfl hy⟩
theorem e2a{prog:Program}{w:World}{env:Env}{e:Expr}{f:Str}{pos:Pos}{s:Shared}{Q:Value->Shared->Prop}(hb:attributeBase e f env (eval e env)=eval e env)(h:wpAny ↑56 A (eval e env) (λo s₁=>wpAny ↑56 A (getAttr o f true) Q E s₁) E s):wpAny ↑56 A (eval (.Attribute e f pos) env) Q E s :=
 Attribute_any_ h (by rw[arm_eval_Attribute,hb])
end
noncomputable def e6p(K:↑29)(ta:TE)(f:Str):TE:=λσ H Q=>ta σ H λx H1=>∃a C dx fs v,x=.ref a/\H1 a=some ↑66/\Cls K C/\NoAttr K C f/\fs.lookup f=some v/\Q v H1
noncomputable def e6r(K:↑29)(ta tv:TE)(f:Str):TS:=λD σ H=>tv σ H λy H1=>ta σ H1 λx H2=>∃a C dx fs,x=.ref a/\H2 a=some ↑66/\Cls K C/\NoAttr K C f/\fs.length<1000 /\
 D.nx σ (upd H2 a (.ins C dx (b9q f y fs)))
noncomputable def e8b(X:Cx)(op:Operator)(rd:V->V->Hp->VK->Prop):Prop :=
 ∀(pins:List ↑26)(s:Shared)(σ:St)(H:Hp)(x y:V)(u v:Value)(Q:VK),Inv X pins σ H s->RelV x u->RelV y v->rd x y H Q->wpAny ↑21 X.A (inplaceOp op u v) ↑115 X.xe s
noncomputable def c7u(K:↑29)(ta tv:TE)(rd:V->V->Hp->VK->Prop)(f:Str):TS:=λD σ H=>ta σ H λx H1=>∃a C dx fs v,x=.ref a/\H1 a=some ↑66/\Cls K C/\NoAttr K C f/\fs.lookup f=some v /\
 tv σ H1 λy H2=>rd v y H2 λz H3=>∃dx' fs',H3 a=some (.ins C dx' fs')/\fs'.length<1000/\D.nx σ (upd H3 a (.ins C dx' (b9q f z fs')))
section
variable{X:Cx}{o e value:Expr}{f:Str}{pos pos' tpos:Pos}{ta tv:TE}
theorem e3r(he:PE X e ta)(hb:attributeBase e f X.env (eval e X.env)=eval e X.env):PE X (.Attribute e f pos) (e6p X.K ta f):=by
 fail "x";refine e2a hb (thn ↑97 λu s1 z0_=>?_);obtain⟨x,H1,I1,rx,a,C,dx,fs,v,ex,ea,c,n,l,q⟩:=z0_;fail "ap";exact c0v I1 ea c n l λu' s2 I2 ru=>⟨v,H1,I2,ru,q⟩
theorem e3m(ha:PE X o ta)(hv:PE X value tv)(hs:swapsWith value (some (.Attribute o f pos')) pos.line X.env=pure false):PS X (.Assign [.Attribute o f pos'] value pos) (e6r X.K ta tv f):=by
 fail "au";refine plainObj_wpAny_Assign_Attribute (thn (hv pins s σ H _ I h) λu s1 z0_=>?_) hs;obtain⟨y,H1,I1,ry,q⟩:=z0_;refine thn (ha pins s1 σ H1 _ I1 q) λov s2 z1_=>?_;obtain⟨x,H2,I2,rx,a,C,dx,fs,ex,ea,c,n,l,q2⟩:=z1_;subst ex;obtain rfl:ov=Value.ref a:=rx;exact b4j I2 ea c n l ry λs3 I3=>⟨σ,_,I3,q2⟩
theorem d3a{op:Operator}{rd:V->V->Hp->VK->Prop}(ha:PE X o ta)(hv:PE X value tv)(hop:e8b X op rd):PS X (.AugAssign (.Attribute o f tpos) op value pos) (c7u X.K ta tv rd f):=by
 fail "au";refine wpAny_AugAssign_AttributeAny (thn ↑87 λov s1 z0_=>?_);obtain⟨x,H1,I1,rx,a,C,dx,fs,v,ex,ea,c,n,l,q⟩:=z0_;subst ex;obtain rfl:ov=Value.ref a:=rx;refine c0v I1 ea c n l λu s2 I2 ru=>thn (hv pins s2 σ H1 _ I2 q) λw3 s3 z0_=>?_;obtain⟨y,H2,I3,ry,q3⟩:=z0_;refine thn (hop pins s3 σ H2 v y u w3 _ I3 ru ry q3) λw4 s4 z1_=>?_;obtain⟨z,H3,I4,rz,dx',fs',ea',l',q4⟩:=z1_;exact b4j I4 ea' c n l' rz λs5 I5=>⟨σ,_,I5,q4⟩
def e8r:V->V->Hp->VK->Prop:=λx y H Q=>∃i j,x=.int i/\y=.int j/\Q (.int (i+j)) H
theorem e4l:e8b X .Add e8r:=by
 rintro pins s σ H x y u v Q I rx ry ⟨i,j,rfl,rfl,q⟩;obtain⟨t,rfl⟩:=(show ∃t,u=Value.int i t from rx);obtain⟨t',rfl⟩:=(show ∃t',v=Value.int j t' from ry);exact PyProof.Rows.iadd_int ⟨.int (i+j),H,I.tok _,⟨_,rfl⟩,q⟩
end
section
variable{X:Cx}{pins:List ↑26}{σ:St}{H:Hp}{s:Shared}{A:Around}{E:Value->Shared->Prop}{Q:Value->Shared->Prop}{c:Value}{b:Bool}
inductive d2f(K:↑29)(H:Hp):V->Value->Prop where
 | non:d2f K H .non (.type "NoneType")
 | bl (x:Bool):d2f K H (.bl x) (.type "bool")
 | int (i:Int):d2f K H (.int i) ↑119
 | str (x:Str):d2f K H (.str x) (.type "str")
 | flt (x:UInt64):d2f K H (.flt x) (.type "float")
 | lst {a:Addr} {xs:List V} (e:H a=some (.lst xs)):d2f K H (.ref a) (.type "list")
 | frz {a:Addr} {o:Obj} {xs:List V} (e:H a=some (.frz o (.lst xs))):d2f K H (.ref a) (.type "list")
 | tup {a:Addr} {xs:List V} (e:H a=some (.tup xs)):d2f K H (.ref a) ↑100
 | dK {a:Addr} {kvs:List (Key×V)} (e:H a=some (.dK kvs)):d2f K H (.ref a) (.type "dict")
 | dT {a:Addr} {kvs:List (List Key×V)} (e:H a=some (.dT kvs)):d2f K H (.ref a) (.type "dict")
 | ins {a C dx:Addr} {fs:List (Str×V)} (e:H a=some ↑66) (cl:Cls K C) (ha:findIn K (.ref C) "__class__" = some (some ↑82))
   (hn:specialIn K ↑82 "__get__" = some (some ↑78)) (htk:PySem.W.takesIn K ↑82=some true)
   (hm:mroIn K C (.type "object")=some true):d2f K H (.ref a) (.ref C)
theorem d4l{x:V}{u t:Value}(I:↑13)(rx:RelV x u)(ty:d2f X.K H x t)(e:kitOne X.K t c=some b)(h:∀tk,Q (.bool b) { s with toks:=tk }):
  wpAny ↑21 A (call (.builtin "isinstance") [u,c]) Q E s:=by
 cases ty with
 | non=>cases (show u=Value.none from rx);exact kia_one PySem.W.kitx_none I.kIn True.intro e (λz=>nomatch z) h
 | bl y=>cases (show u=Value.bool y from rx);exact kia_one PySem.W.kitx_bool I.kIn True.intro e (λz=>nomatch z) h
 | int i=>obtain⟨t,q⟩:=(show ∃t,u=Value.int i t from rx);cases q;exact kia_one PySem.W.kitx_int I.kIn True.intro e (λz=>nomatch z) h
 | str y=>obtain⟨t,q⟩:=(show ∃t,u=Value.str y t from rx);cases q;exact kia_one PySem.W.kitx_str I.kIn True.intro e (λz=>nomatch z) h
 | flt y=>obtain⟨t,q⟩:=(show ∃t,u=Value.float y t from rx);cases q;exact kia_one PySem.W.kitx_float I.kIn True.intro e (λz=>nomatch z) h
 | @lst a xs ea=>
  cases (show u=Value.ref a from rx);obtain⟨_,_,n,_,h1⟩:=(show ObjOk X.prog X.w H s.heap a (.lst xs) from I.hok a _ ea);exact kia_one PySem.W.kitx_list I.kIn ⟨_,h1,rfl⟩ e ↑123 h
 | @frz a ob xs ea=>
  cases (show u=Value.ref a from rx);obtain⟨_,_,_,n,_,h1⟩:=(show ObjOk X.prog X.w H s.heap a (.frz ob (.lst xs)) from I.hok a _ ea);exact kia_one PySem.W.kitx_list I.kIn ⟨_,h1,rfl⟩ e ↑123 h
 | @tup a xs ea=>
  cases (show u=Value.ref a from rx);obtain⟨_,_,_,p⟩:=(show ObjOk X.prog X.w H s.heap a (.tup xs) from I.hok a _ ea);obtain⟨o,h1,h2,_⟩:=p;exact kia_one PySem.W.kitx_tuple I.kIn ⟨o,h1,h2⟩ e ↑123 h
 | @dK a kvs ea=>
  cases (show u=Value.ref a from rx);obtain⟨_,_,vs,_,p⟩:=(show ObjOk X.prog X.w H s.heap a (.dK kvs) from I.hok a _ ea);obtain⟨o,es,ep,h1,h2,_⟩:=p;exact kia_one PySem.W.kitx_dict I.kIn ⟨o,h1,h2.1⟩ e ↑123 h
 | @dT a kvs ea=>
  cases (show u=Value.ref a from rx);obtain⟨_,_,xs,_,o,es,ep,h1,h2,_⟩:=(show ObjOk X.prog X.w H s.heap a (.dT kvs) from I.hok a _ ea);exact kia_one PySem.W.kitx_dict I.kIn ⟨o,h1,h2.1⟩ e ↑123 h
 | @ins a C dx fs ea cl ha hn htk hm=>
  cases (show u=Value.ref a from rx);obtain⟨mA,O,_⟩:=c3m I.hok ea;obtain⟨od,J,_⟩:=O.look;exact kia_one (PySem.W.kitx_own (cl.get _) cl.hd ha hn htk hm) I.kIn J e ↑123 h
end
structure Room(k:Nat)(A:Around):Prop where
 hd:A.handled=none
 dp:A.depth+3*k+5<recursionLimit
 un:A.units+16*k+200<cLine
theorem Room.mono{j k:Nat}{A:Around}(r:Room k A)(h:j<=k):Room j A:=⟨r.hd,by have:=r.dp;lia,by have:=r.un;lia⟩
theorem Room.deeper{k:Nat}{A:Around}(r:Room (k+1) A)(env:Env):Room k (A.deeper env) :=
 ⟨r.hd,by have:=r.dp;show A.depth+1+3*k+5<_;lia,by have:=r.un;show A.units+3+16*k+200<_;lia⟩
theorem d1w{A:Around}{C:Addr}{us:List Value}{kw:List (Str×Value)}:(A.under (.builtin "type.__call__" ⟨.ref C::us,kw⟩)).depth=A.depth+1:=by
 first|rfl|simp[Around.under,Code.weight,Code.isCreation,Code.isGuard,Code.isCaller,Code.frames,Code.isFrame,guardIds]
theorem d1v{A:Around}{C:Addr}{us:List Value}{kw:List (Str×Value)}:(A.under (.builtin "type.__call__" ⟨.ref C::us,kw⟩)).units=A.units+1:=by
 first|rfl|simp[Around.under,Code.cUnits,Code.frames,Code.isFrame]
theorem Room.make{k:Nat}{A:Around}(r:Room (k+1) A)(C:Addr)(us:List Value)(kw:List (Str×Value)):Room k (A.under (.builtin "type.__call__" ⟨.ref C::us,kw⟩)) :=
 ⟨r.hd,by have:=r.dp;rw[d1w];lia,by have:=r.un;rw[d1v];lia⟩
theorem Room.depth{k:Nat}{A:Around}(r:Room k A):A.depth<recursionLimit:=by have:=r.dp;lia
def d8n:TA:=λ_ H Q=>Q [] H
noncomputable def d9z(ta:TE)(tr:TA):TA:=λσ H Q=>ta σ H λx H1=>tr σ H1 λxs H2=>Q (x::xs) H2
section
variable{X:Cx}{e:Expr}{es:List Expr}{te:TE}{t:TA}{pos:Pos}
theorem i9:PA X [] d8n:=λ_ _ _ _ H Q I h=>Calls.spliced_nil ⟨[],H,I,.nil,h⟩
theorem d5(ha:PE X e te)(hr:PA X es t)(hs:autoParam (starEach (e::es) X.env=(false,eval e X.env)::starEach es X.env) q4):PA X (e::es) (d9z te t):=by
 intro pos pins s σ H Q I h;rw[hs];show wpAny _ _ (spliced ((false,eval e X.env)::backTo pos ↑83)) _ _ s;refine Calls.spliced_cons (thn ↑87 λu s1 z0_=>?_);fail "am";exact thn (hr pos pins s1 σ H1 _ I1 q1) λus s2 z0_=>by obtain⟨xs,H2,I2,r2,q2⟩:=z0_;exact⟨x::xs,H2,I2,.cons r1 r2,q2⟩
noncomputable def e8e(t:TA):TE:=λσ H Q=>t σ H λxs H1=>xs.length<=sizeLine/\∀p,H1 p=none->Q (.ref p) (upd H1 p (.tup xs))
noncomputable def e8i(t:TA):TE:=λσ H Q=>t σ H λxs H1=>xs.length<=sizeLine/\∀p,H1 p=none->Q (.ref p) (upd H1 p (.lst xs))
theorem a2x{x1}(h:PA X es t):PE X (.Tuple es x1 pos) (e8e t):=by
 intro pins s σ H Q I hq;refine wpAny_Tuple_spliced (thn (h pos pins s σ H _ I hq) λus s1 ⟨xs,H1,I1,r,z,q⟩=>⟨by rw[<- r.length];exact z,?_⟩)
 have hf:H1 s1.heap.objs.size=none:=I1.hok.fresh ↑31;refine⟨.ref s1.heap.objs.size,upd H1 s1.heap.objs.size (.tup xs),I1.laid (t':=s1.toks) (λb u e=>Heap.get?_push_of_some _ e) ↑31 ?_,rfl,q _ hf⟩;exact⟨z,us,r,⟨_,Heap.get?_push_size _ rfl,rfl,_,rfl⟩⟩
theorem v5(h:PA X es t):PE X (.List es pos) (e8i t):=by
 intro pins s σ H Q I hq;refine wpAny_List_spliced (thn (h pos pins s σ H _ I hq) λus s1 ⟨xs,H1,I1,r,z,q⟩=>⟨by rw[<- r.length];exact z,?_⟩)
 have hf:H1 s1.heap.objs.size=none:=I1.hok.fresh ↑31;refine⟨.ref s1.heap.objs.size,upd H1 s1.heap.objs.size (.lst xs),I1.laid (t':=s1.toks) (λb u e=>Heap.get?_push_of_some _ e) ↑31 ?_,rfl,q _ hf⟩;exact⟨z,us,0,r,Heap.get?_push_size _ rfl⟩
end
abbrev Sp:=List V->Hp->VK->XK->Prop
abbrev CXT:=List Env->Hp->Shared->XK->Value->Shared->Prop
structure Env0(P:Program)(w:World)(K:↑29)(mg:↑67)(base:Heap)(A:Around)(outer:List Env)(s:Shared)(H:Hp):Prop where
 frames:A.frames=some outer
 mod:Mod K mg base
 bs:∀b o,base.get? b=some o->s.heap.get? b=some o/\H b=none
 bsz:base.objs.size<=s.heap.objs.size
 funs:s.heap.FunFrames base outer
 frf:∀b∈frs outer,H b=none
 hok:HOk P w H s.heap
 bare:AllBare s.gens
noncomputable def CE(outer:List Env)(P:Program)(w:World)(H:Hp)(s:Shared)(Q:VK)(u:Value)(s':Shared):Prop :=
 ∃v H',s'.os=s.os/\AllBare s'.gens/\Un (frs outer) [] H H' s.heap s'.heap/\HOk P w H' s'.heap/\RelV v u/\Q v H'
noncomputable def CR(CX:CXT)(outer:List Env)(P:Program)(w:World)(H:Hp)(s:Shared)(Q:VK)(E:XK)(r:Result)(s':Shared):Prop :=
 match r with
 | .ok (.ret u)=>CE outer P w H s Q u s'
 | .ok _=>False
 | .error e=>CX outer H s E e s'
structure FnOk(P:Program)(w:World)(K:↑29)(mg:↑67)(base:Heap)(CX:CXT)(k:Nat)(f:Addr)(fd:FuncData)(ps:List Str)(sp:Sp):Prop where
 len:∀vs H Q E,sp vs H Q E->vs.length=ps.length
 run:∀(A:Around)(outer:List Env)(s:Shared)(H:Hp)(args:Args)(us:List Value)(vs:List V)(Q:VK)(E:XK),Room k A->Env0 P w K mg base A outer s H->BindsTo s fd args (ps.zip us)->Vals vs us->sp vs H Q E ->
  codeAny (model P w) A (.call (.ref f) args) (CR CX outer P w H s Q E) s
theorem FnOk.mono{P:Program}{w:World}{K:Frag}{mg:Str->Option Value}{base:Heap}{CX:CXT}{j k:Nat}{f:Addr}{fd:FuncData}{ps:List Str}{sp:Sp}(F:FnOk P w K mg base CX j f fd ps sp)(h:j<=k):
  FnOk P w K mg base CX k f fd ps sp:=⟨F.len,λA outer s H args us vs Q E hr=>F.run A outer s H args us vs Q E (hr.mono h)⟩
theorem Env0.make{P:Program}{w:World}{K:Frag}{mg:Str->Option Value}{base:Heap}{A:Around}{outer:List Env}{s:Shared}{H:Hp}(e:Env0 P w K mg base A outer s H)(C:Addr)(us:List Value)(kw:List (Str×Value)):
  Env0 P w K mg base (A.under (.builtin "type.__call__" ⟨.ref C::us,kw⟩)) outer s H:=⟨by first|exact e.frames|(simpa[Around.under,Code.envs,Code.isFrame,pushEnvs] using e.frames),e.mod,e.bs,e.bsz,e.funs,e.frf,e.hok,e.bare⟩
section
variable{X:Cx}{pins:List ↑26}{σ:St}{H:Hp}{s s':Shared}
theorem Inv.env0(I:↑13):Env0 X.prog X.w X.K X.mg X.base X.A X.stack s H :=
 ⟨I.ok.frames,I.ok.mod,I.bs,Nat.le_trans I.ok.bsz I.sz,I.stack,I.stkFree,I.hok,I.bare⟩
theorem Inv.after{Q:VK}{u:Value}(I:↑13)(h:CE X.stack X.prog X.w H s Q u s'):EP X pins σ Q u s':=by
 obtain⟨v,H',os,bare,un,hok,r,q⟩:=h;obtain⟨hh,g,d,t,os'⟩:=s';obtain rfl:os'=s.os:=os;exact⟨v,H',I.call (h':=hh) (g':=g) (d':=d) (t':=t) (ch:=[]) un hok bare (λb z=>absurd z (by simp)),r,q⟩
end
noncomputable def e2z(sp:Sp)(dvs:List V)(E:XK)(t:TA):TE:=λσ H Q=>t σ H λvs H1=>sp (vs++dvs) H1 Q E
noncomputable def e2u(C:Addr)(m:Str)(sp:Sp)(dvs:List V)(E:XK)(ta:TE)(t:TA):TE:=λσ H Q=>ta σ H λx H1=>∃a dx fs,x=.ref a/\H1 a=some ↑66/\fs.lookup m=none /\
 t σ H1 λvs H2=>sp (x::(vs++dvs)) H2 Q E
noncomputable def e6n(C:Addr)(sp:Sp)(dvs:List V)(E:XK)(t:TA):TE:=λσ H Q=>t σ H λvs H1=>∀x dx,H1 x=none->H1 dx=none->dx≠x ->
 sp (.ref x::(vs++dvs)) (upd (upd H1 dx (.own x)) x (.ins C dx [])) (λv H2=>v=.non/\Q (.ref x) H2) E
noncomputable def Binds(K:↑29)(fd:FuncData)(ps:List Str)(ds:List Value):Prop :=
 ∀(s:Shared)(us:List Value),K.In s.heap->(us++ds).length=ps.length->BindsTo s fd ⟨us,[]⟩ (ps.zip (us++ds))
theorem Binds.all{K:Frag}{fd:FuncData}{ps:List Str}(h:∀us:List Value,us.length=ps.length->bindArgs fd ⟨us,[]⟩=pure (ps.zip us)):Binds K fd ps []:=λs us _ hl=>by
 rw[List.append_nil] at hl ⊢;exact .of_eq (h us hl)
def b0u(CX:CXT)(X:Cx)(E:XK):Prop:=∀(pins:List ↑26)(σ:St)(H:Hp)(s:Shared)(e:Value)(s':Shared),Inv X pins σ H s->CX X.stack H s E e s'->X.xe e s'
section
variable{X:Cx}{CX:CXT}{k:Nat}{f C:Addr}{fd:FuncData}{ps:List Str}{sp:Sp}{dvs:List V}{ds:List Value}{E:XK}{x m:Str}{p pos apos:Pos}{e o:Expr}{es:List Expr}{ta:TE}{t:TA}
theorem b6j{pins:List ↑26}{σ:St}{H:Hp}{s:Shared}{Q:VK}{us:List Value}{vs:List V}(F:↑59)(hr:Room k X.A)(hb:Binds X.K fd ps ds)(hd:Vals dvs ds)(hx:b0u CX X E)(I:↑13)(r:Vals vs us)(h:sp (vs++dvs) H Q E):wpAny ↑21 X.A (call (.ref f) us) ↑115 X.xe s:=by
 have r2:Vals (vs++dvs) (us++ds):=r.append hd;have hl:(us++ds).length=ps.length:=by rw[<- r2.length];exact F.len _ _ _ _ h
 refine wpAny_call (codeAny_mono (F.run X.A X.stack s H ⟨us,[]⟩ (us++ds) (vs++dvs) Q E hr I.env0 (hb s us I.kIn hl) r2 h) λr s' hq=>?_);cases r with
 | error e=>exact hx pins σ H s e s' I hq
 | ok fl=>
  cases fl with
  | ret u=>exact I.after hq
  | next=>exact False.elim hq
  | brk=>exact False.elim hq
  | cont=>exact False.elim hq
theorem e0r(F:↑59)(hr:Room k X.A)(hg:Gl X x)(hm:X.mg x=some (.ref f))(hk:keepIn X.K (.ref f)=true)(hb:Binds X.K fd ps ds)(hd:Vals dvs ds)(hx:b0u CX X E)(ha:↑121)(hdb:autoParam (↑33=false) q2)(he:autoParam (starEach (e::es) X.env=(false,eval e X.env)::starEach es X.env) q4)(hpl:autoParam ((backTo pos ↑83).any (·.1)=false) q4):
  PE X ↑84 (e2z sp dvs E t):=by
 fail "x";refine wpAny_Call_Name_kw (c3i I hg hm ?_ hdb);refine callWith_K (h₀:=X.base) I.ok.mod.kin hk (thn (ha pos pins s σ H _ I h) λus s1 z0_=>?_) he hpl;obtain⟨vs,H1,I1,r,q⟩:=z0_;refine⟨I1.kIn,?_⟩;exact b6j F hr hb hd hx I1 r q
theorem d6y(F:↑59)(hr:Room k X.A)(hg:Gl X x)(hm:X.mg x=some (.ref f))(hk:keepIn X.K (.ref f)=true)(hb:Binds X.K fd ps ds)(hd:Vals dvs ds)(hx:b0u CX X E)(hdb:autoParam (↑33=false) q2):PE X (.Call (.Name x p) [] [] pos) (e2z sp dvs E d8n):=by
 fail "x";refine wpAny_Call_Name_kw (c3i I hg hm ?_ hdb);exact PySem.W.callWith_K0 I.kIn hk (b6j (us:=[]) F hr hb hd hx I .nil h)
theorem e0p{pl:Sem Bool}(he:PE X o ta)(c:Cls X.K C)(hm:e5t X.K C m f)(F:↑59)(hr:Room k X.A)(hb:Binds X.K fd ps ds)(hd:Vals dvs ds)(hx:b0u CX X E)(ha:↑121)(hst:autoParam (starEach (e::es) X.env=(false,eval e X.env)::starEach es X.env) q4)(hpl:autoParam ((backTo pos ↑83).any (·.1)=false) q4)(ht:eval ↑76 X.env=(do
   let ov <- eval o X.env
   standAt apos.atName
   let (f,first) <- holding [ov] (getMethod ov m pl)
   callWith pos f first (backTo pos (starEach (e::es) X.env)) ↑80):=by rfl):
  PE X ↑76 (e2u C m sp dvs E ta t):=by
 fail "x";refine PySem.W.methodCall_KW (pl:=pl) (thn ↑97 λu s1 z0_=>?_) ht;obtain⟨x,H1,I1,rx,a,dx,fs,ex,ea,l,q⟩:=z0_;fail "ap";refine b0a I1 ea c hm l ?_;refine callWith_K (first:=[.ref a]) (h₀:=X.base) I.ok.mod.kin hm.kp (thn (ha pos pins s1 σ H1 _ I1 q) λus s2 z0_=>?_) hst hpl
 obtain⟨vs,H2,I2,r,q2⟩:=z0_;refine⟨I2.kIn,?_⟩;exact b6j (us:=.ref a::us) (vs:=.ref a::vs) F hr hb hd hx I2 (.cons rfl r) q2
theorem d6w{pl:Sem Bool}(he:PE X o ta)(c:Cls X.K C)(hm:e5t X.K C m f)(F:↑59)(hr:Room k X.A)(hb:Binds X.K fd ps ds)(hd:Vals dvs ds)(hx:b0u CX X E)(ht:eval ↑96 X.env=(do
   let ov <- eval o X.env
   standAt apos.atName
   let (f,first) <- holding [ov] (getMethod ov m pl)
   callWith pos f first (backTo pos (starEach [] X.env)) ↑80):=by rfl):
  PE X ↑96 (e2u C m sp dvs E ta d8n):=by
 fail "x";refine PySem.W.methodCall_KW (pl:=pl) (thn ↑97 λu s1 z0_=>?_) ht;obtain⟨x,H1,I1,rx,a,dx,fs,ex,ea,l,q⟩:=z0_;fail "ap";refine b0a I1 ea c hm l ?_;exact PySem.W.callWith_K0 (first:=[.ref a]) I1.kIn hm.kp (b6j (us:=[.ref a]) (vs:=[.ref a]) F hr hb hd hx I1 (.cons rfl .nil) q)
structure Mk(K:↑29)(C f:Addr):Prop where
 makes:makesIn K C=true
 init:findIn K (.ref C) "__init__" = some ↑116
 fn:isFn K (.ref f)=true
 kp:keepIn K (.ref C)=true
theorem d6p{pins:List ↑26}{σ:St}{H:Hp}{s:Shared}{Q:VK}{us:List Value}{vs:List V}(M:Mk X.K C f)(F:↑59)(hr:Room (k+1) X.A)(hb:Binds X.K fd ps ds)(hd:Vals dvs ds)(hx:b0u CX X E)(I:↑13)(r:Vals vs us)(h:∀x dx,H x=none->H dx=none->dx≠x->sp (.ref x::(vs++dvs)) (upd (upd H dx (.own x)) x (.ins C dx [])) (λv H2=>v=.non/\Q (.ref x) H2) E):
  wpAny ↑21 X.A (call (.ref C) us) ↑115 X.xe s:=by
 have hq:=h ↑62 s.heap.objs.size (I.hok.fresh (Nat.le_succ _)) (I.hok.fresh ↑31) (Nat.ne_of_lt (Nat.lt_succ_self _));have I2:=Inv.made (C:=C) I;have r2:Vals (V.ref ↑62::(vs++dvs)) (Value.ref ↑62::(us++ds)):=.cons rfl (r.append hd);have hl:(Value.ref ↑62::us++ds).length=ps.length:=by
  have e:=r2.length;rw[F.len _ _ _ _ hq] at e;exact e.symm
 refine wpAny_call (d7e (f:=f) I.kIn M.makes M.init (beq_iff_eq.mp M.fn) (codeAny_mono (F.run _ X.stack _ _ ⟨Value.ref ↑62::us,[]⟩ (Value.ref ↑62::(us++ds)) _ _ E (hr.make C us [])
  (I2.env0.make C us []) (hb _ (Value.ref ↑62::us) I2.kIn hl) r2 hq) λr s' hq'=>?_))
 cases r with
 | error e=>exact hx pins σ _ _ e s' I2 hq'
 | ok fl=>
  cases fl with
  | ret u=>
   obtain⟨v,H',I3,rv,ev,q3⟩:=I2.after hq';subst ev;exact⟨rv,⟨V.ref ↑62,H',I3,rfl,q3⟩⟩
  | next=>exact False.elim hq'
  | brk=>exact False.elim hq'
  | cont=>exact False.elim hq'
theorem e0q(M:Mk X.K C f)(F:↑59)(hr:Room (k+1) X.A)(hg:Gl X x)(hm:X.mg x=some (.ref C))(hb:Binds X.K fd ps ds)(hd:Vals dvs ds)(hx:b0u CX X E)(ha:↑121)(hdb:autoParam (↑33=false) q2)(he:autoParam (starEach (e::es) X.env=(false,eval e X.env)::starEach es X.env) q4)(hpl:autoParam ((backTo pos ↑83).any (·.1)=false) q4):
  PE X ↑84 (e6n C sp dvs E t):=by
 fail "x";refine wpAny_Call_Name_kw (c3i I hg hm ?_ hdb);refine callWith_K (h₀:=X.base) I.ok.mod.kin M.kp (thn (ha pos pins s σ H _ I h) λus s1 z0_=>?_) he hpl;obtain⟨vs,H1,I1,r,q⟩:=z0_;refine⟨I1.kIn,?_⟩;exact d6p M F hr hb hd hx I1 r q
end
structure i8(N P:List Str)(sc:Scope):Prop where
 kind:sc.kind=.function
 co:sc.isCoroutine=false
 gen:sc.isGenerator=false
 nd:N.Nodup
 pre:N.take P.length=P
 par:∀x∈P,sc.names.lookup x=some .local\/sc.names.lookup x=some .cell
 nofree:∀y∈sc.names,y.2≠.free
theorem c6z{kindOf:Str->Option NameKind}{x:Str}:∀{binds:List (Str×Value)}{m:Str->Option Value},(∀v,(x,v) ∉ binds)->bindL kindOf binds m x=m x
 | [],_,_=>rfl
 | (n,v)::r,m,h=>by
  unfold bindL;rw[c6z λw hw=>h w (List.mem_cons_of_mem _ hw)];split
  ·have:x≠n:=by rintro rfl;exact h v List.mem_cons_self
   simp[this]
  ·rfl
theorem c7b{kindOf:Str->Option NameKind}{x:Str}:∀{binds:List (Str×Value)}{m:Str->Option Value},(∀v,(x,v) ∉ binds)->bindC kindOf binds m x=m x
 | [],_,_=>rfl
 | (n,v)::r,m,h=>by
  unfold bindC;rw[c7b λw hw=>h w (List.mem_cons_of_mem _ hw)];split
  ·rfl
  ·have:x≠n:=by rintro rfl;exact h v List.mem_cons_self
   simp[this]
theorem c7a{kindOf:Str->Option NameKind}{x:Str}{v:Value}:∀{P:List Str}{vs:List Value}{i:Nat}{m:Str->Option Value},P.Nodup->P[i]?=some x->vs[i]?=some v->kindOf x=some .local ->
  bindL kindOf (P.zip vs) m x=some v
 | [],_,_,_,_,h,_,_=>by simp at h
 | _::_,[],_,_,_,_,h,_=>by simp at h
 | p::P,w::vs,0,m,nd,h1,h2,hk=>by
  simp at h1 h2;subst h1;subst h2;show bindL kindOf ((p,w)::P.zip vs) m p=_;unfold bindL;rw[c6z λv hv=>(List.nodup_cons.mp nd).1 (List.of_mem_zip hv).1,if_pos hk];simp
 | p::P,w::vs,i+1,m,nd,h1,h2,hk=>by
  show bindL kindOf ((p,w)::P.zip vs) m x=_;unfold bindL;exact c7a (i:=i) (List.nodup_cons.mp nd).2 (by simpa using h1) (by simpa using h2) hk
theorem c7c{kindOf:Str->Option NameKind}{x:Str}{v:Value}:∀{P:List Str}{vs:List Value}{i:Nat}{m:Str->Option Value},P.Nodup->P[i]?=some x->vs[i]?=some v->kindOf x≠some .local ->
  bindC kindOf (P.zip vs) m x=some v
 | [],_,_,_,_,h,_,_=>by simp at h
 | _::_,[],_,_,_,_,h,_=>by simp at h
 | p::P,w::vs,0,m,nd,h1,h2,hk=>by
  simp at h1 h2;subst h1;subst h2;show bindC kindOf ((p,w)::P.zip vs) m p=_;unfold bindC;rw[c7b λv hv=>(List.nodup_cons.mp nd).1 (List.of_mem_zip hv).1,if_neg hk];simp
 | p::P,w::vs,i+1,m,nd,h1,h2,hk=>by
  show bindC kindOf ((p,w)::P.zip vs) m x=_;unfold bindC;exact c7c (i:=i) (List.nodup_cons.mp nd).2 (by simpa using h1) (by simpa using h2) hk
noncomputable def start(N:List Str)(vs:List V):St:=vs.map some++List.replicate (N.length-vs.length) none
noncomputable def c9d(CX:CXT)(P:Program)(w:World)(K:↑29)(mg:↑67)(base:Heap)(N:List Str)(qual:Str)(scope:Scope)(f:Addr)(cd:Value)(A:Around)(outer:List Env)(s:Shared)(H:Hp)(E:XK):Cx where
 prog:=P
 w:=w
 K:=K
 mg:=mg
 base:=base
 A:=A.deeper (envOfC qual scope s.heap.objs.size f cd)
 N:=N
 s₀:=s
 H₀:=H
 env:=envOfC qual scope s.heap.objs.size f cd
 outer:=outer
 stack:=envOfC qual scope s.heap.objs.size f cd::outer
 ex:=[]
 calm:=true
 fn:=λ_=>true
 pn:=[]
 xe:=λe s'=>wpAny (model P w) (A.deeper (envOfC qual scope s.heap.objs.size f cd)) (leaving (envOfC qual scope s.heap.objs.size f cd) e) (λ_ s''=>CX outer H s E e s'') (λe' s''=>CX outer H s E e' s'') s'
theorem d0n{sc:Scope}{n:Nat}{x:Str}(h:sc.names.lookup x=some .cell):∃c,(cellsFrom n sc.names []).lookup x=some c:=by
 have q:=PySem.W.cellsFrom_some sc.names n [] (.inl h);exact Option.isSome_iff_exists.mp q
theorem d4m{CX:CXT}{P:Program}{w:World}{K:Frag}{mg:Str->Option Value}{base:Heap}{N ps:List Str}{qual:Str}{scope:Scope}{f:Addr}{cd:Value}{A:Around}{outer:List Env}{s s1:Shared}{H:Hp}{E:XK}{us:List Value}{vs:List V}(S:i8 N ps scope)(hd:A.handled=none)(e0:Env0 P w K mg base A outer s H)(hl:vs.length=ps.length)(r:Vals vs us)(x:InCallC s s.heap.objs.size (bindL (envOfC qual scope s.heap.objs.size f cd).kindOf (ps.zip us) λ_=>none) (cellsFrom ↑62 scope.names []) (bindC (envOfC qual scope s.heap.objs.size f cd).kindOf (ps.zip us) λ_=>none) s1):
  Inv (c9d CX P w K mg base N qual scope f cd A outer s H E) [] (start N vs) H s1:=by
 have hpl:ps.length<=N.length:=by have:=congrArg List.length S.pre;rw[List.length_take] at this;lia
 obtain⟨h1,tk,rfl,hk⟩:=x.done;have noA:∀b:Addr,b ∉ (c9d CX P w K mg base N qual scope f cd A outer s H E).ex:=λb z=>absurd (show b∈([]:List Addr) from z) (by simp)
 refine⟨⟨e0.mod,S.kind,rfl,rfl,Nat.le_refl _,λy z c h1 h2=>?_,λy hy=>?_,λy c _ h=>?_,λ_=>hd,Around.frames_deeper e0.frames,.inr ⟨rfl,rfl⟩,λb z=>absurd z (noA b),e0.bs,e0.bsz,λb _ _=>noA b,λb z=>absurd z (noA b),e0.funs,e0.frf⟩,
  rfl,e0.bare,Un.kept hk,⟨_,x.toInCall.ns,λi y v h1 h2 h3=>?_⟩,λy c h=>⟨_,x.cell y c h⟩,e0.hok.fresh ↑31,λy c h=>?_,λp hp=>absurd (show p∈([]:List ↑26) from hp) (by simp),e0.hok.kept hk,?_⟩
 ·exact name_of_addr x.apart (PySem.mem_of_lookup h1) (PySem.mem_of_lookup h2)
 ·have hy:scope.names.lookup y=some .cell\/scope.names.lookup y=some .free:=hy
  rcases hy with hy|hy
  ·exact d0n hy
  ·exact absurd rfl (S.nofree _ (PySem.mem_of_lookup hy))
 ·exact Nat.le_of_lt (x.above y c (PySem.mem_of_lookup h))
 ·have hi:i<vs.length:=by
   unfold start at h2;by_cases hi:i<vs.length
   ·exact hi
   ·rw[List.getElem?_append_right (by simpa using hi)] at h2
    rw[List.getElem?_replicate] at h2;split at h2 <;> cases h2
  have ha:vs[i]?=some v:=by
   unfold start at h2;rw[List.getElem?_append_left (by simpa using hi),List.getElem?_map] at h2
   cases e:vs[i]? with
   | none=>rw[e] at h2;cases h2
   | some a=>rw[e] at h2;cases h2;rfl
  obtain⟨u,hu,rv⟩:=r.get ha;have hp:ps[i]?=some y:=by
   rw[<- S.pre,List.getElem?_take_of_lt ↑2];exact h1
  have ndP:ps.Nodup:=by rw[<- S.pre];exact S.nd.sublist (List.take_sublist _ _)
  refine⟨u,rv,?_⟩;rcases S.par y (List.mem_of_getElem? hp) with k|k
  ·exact .inl ⟨k,c7a ndP hp hu k⟩
  ·obtain⟨c,e⟩:=d0n (n:=s.heap.objs.size+1) k
   refine .inr ⟨.inl k,c,e,?_⟩;have q:=x.cell y c e;rw[c7c ndP hp hu (by show scope.names.lookup y≠_;rw[k];decide)] at q
   exact q
 ·exact e0.hok.fresh (Nat.le_of_lt (x.above y c (PySem.mem_of_lookup h)))
 ·unfold start
  show _=N.length;rw[List.length_append,List.length_map,List.length_replicate];lia
theorem e7x{CX:CXT}{P:Program}{w:World}{K:Frag}{mg:Str->Option Value}{base:Heap}{k:Nat}{f:Addr}{name qual:Str}{params:Arguments}{body:List Stmt}{scope:Scope}{dV kV doc pm cdv ct oc:Value}{an od:Option Addr}{osl:Array (Option Value)}{N ps:List Str}{sp:Sp}(lk:K.lookup f=some ⟨oc,od,.func (PySem.W.fnOf name qual params body scope dV kV doc pm an cdv ct),osl⟩)(hcd:codeIn K cdv qual=true)(S:i8 N ps scope)(len:∀vs H Q E,sp vs H Q E->vs.length=ps.length)(hbody:∀(A:Around) (outer:List Env) (s:Shared) (H:Hp) (vs:List V) (Q:VK) (E:XK),Room k (A.deeper (envOfC qual scope s.heap.objs.size f cdv))->sp vs H Q E ->
   ∃t,PSs (c9d CX P w K mg base N qual scope f cdv A outer s H E) body t/\t { nx:=λ_ H'=>Q .non H',rt:=Q } (start N vs) H):
  FnOk P w K mg base CX (k+1) f (PySem.W.fnOf name qual params body scope dV kV doc pm an cdv ct) ps sp:=by
 refine⟨len,λA outer s H args us vs Q E hr e0 hb r hsp=>?_⟩;have hl:=len _ _ _ _ hsp;have KX:K.In s.heap:=e0.mod.kin.keeps λb o e=>(e0.bs b o e).1;have lim:s.heap.NoLimit:=e0.mod.nolimit.keeps λb o e=>(e0.bs b o e).1;have hkind:∀y∈ps.zip us,scope.names.lookup y.1=some .local\/(scope.names.lookup y.1=some .cell/\((cellsFrom ↑62 scope.names []).lookup y.1).isSome=true):=λ⟨n,v⟩ hy=>by
  rcases S.par n (List.of_mem_zip hy).1 with q|q
  ·exact .inl q
  ·exact .inr ⟨q,PySem.W.cellsFrom_some _ _ _ (.inl q)⟩
 refine codeAny_call_function hr.depth (KX _ _ lk) rfl S.co S.gen rfl (PySem.W.codeRec_of KX hcd) (hb _ _ _ _ ?_);refine wpAny_newFunctionEnv_cells S.kind hkind λenv he s1 x=>?_;subst he;refine⟨lim.keeps x.toInCall.keep,codeAny_func ?_⟩;obtain⟨t,ht,hq⟩:=hbody A outer s H vs Q E (hr.deeper _) hsp;have I:Inv (c9d CX P w K mg base N qual scope f cdv A outer s H E) [] (start N vs) H s1:=d4m S hr.hd e0 hl r x;refine wpAny_mono (ht [] s1 (start N vs) H _ I hq) (λfl s' hs=>?_) λe s' hs=>hs;have fin:∀{σ':St}{H':Hp}{v:V}{u:Value},Inv (c9d CX P w K mg base N qual scope f cdv A outer s H E) [] σ' H' s'->RelV v u->Q v H'->CE outer P w H s Q u s' :=
  λ{σ' H' v u} J rv q=>⟨v,H',J.os,J.bare,J.base,J.hok,rv,q⟩
 cases fl with
 | ret u=>
  obtain⟨v,σ',H',J,rv,q⟩:=hs;exact fin J rv q
 | next=>
  obtain⟨σ',H',J,q⟩:=hs;exact fin (v:=V.non) (u:=Value.none) J rfl q
 | brk=>
  obtain⟨_,_,_,q⟩:=hs;exact False.elim q
 | cont=>
  obtain⟨_,_,_,q⟩:=hs;exact False.elim q
section
variable{X:Cx}{x:Str}{p pos:Pos}{e:Expr}{es:List Expr}{t:TA}{id T:String}{r:List V->Hp->VK->Prop}
noncomputable def tCB(r:List V->Hp->VK->Prop)(t:TA):TE:=λσ H Q=>t σ H λvs H1=>r vs H1 Q
theorem v7(hc:b2r X (.builtin id) r)(hg:Gl X x)(hm:X.mg x=none)(hv:bootBuiltins x=some (.builtin id))(ha:↑121)(hn:autoParam (x≠"__name__") q2)(hdb:autoParam (↑33=false) q2)(he:autoParam (starEach (e::es) X.env=(false,eval e X.env)::starEach es X.env) q4)(hpl:autoParam ((backTo pos ↑83).any (·.1)=false) q4):PE X ↑84 (tCB r t):=by
 fail "x";refine wpAny_Call_Name_kw (c0t I hg hm hv ?_ hn hdb);exact PyProof.Rows.callWith_builtin1 (thn (ha pos pins s σ H _ I h) λus s1 z0_=>by obtain⟨vs,H1,I1,r1,q1⟩:=z0_;exact hc pins s1 σ H1 vs us Q I1 r1 q1) he hpl
theorem v2(hc:b2r X (.type T) r)(hg:Gl X x)(hm:X.mg x=none)(hv:bootBuiltins x=some (.type T))(ha:↑121)(hn:autoParam (x≠"__name__") q2)(hdb:autoParam (↑33=false) q2)(he:autoParam (starEach (e::es) X.env=(false,eval e X.env)::starEach es X.env) q4)(hpl:autoParam ((backTo pos ↑83).any (·.1)=false) q4):PE X ↑84 (tCB r t):=by
 fail "x";refine wpAny_Call_Name_kw (c0t I hg hm hv ?_ hn hdb);exact PyProof.Rows.callWith_type1 (thn (ha pos pins s σ H _ I h) λus s1 z0_=>by obtain⟨vs,H1,I1,r1,q1⟩:=z0_;exact hc pins s1 σ H1 vs us Q I1 r1 q1) he hpl
end
end L2
namespace HT
open PySem PyProof.Rows
section
variable{prog:Program}{w:World}{A:Around}{E:Value->Shared->Prop}{s:Shared}
theorem cat_tup{t b:Addr}{vs ws:List Value}{Q:Value->Shared->Prop}(ht:IsTup s.heap t vs.toArray)(hb:IsTup s.heap b ws.toArray)(hv:vs≠[])(h1:ws=[]->Q (.ref t) s)(h2:ws≠[]->Q (.ref s.heap.objs.size) { s with heap:=s.heap.push { cls:=.type "tuple",data:=.seq (vs++ws).toArray } })(hsz:vs.length+ws.length<=sizeLine):wpAny ↑56 A (binaryOp .Add (.ref t) (.ref b)) Q E s:=by
 obtain⟨⟨cls,dd,data,sl⟩,ho,hc,n,hd⟩:=id ht;obtain⟨⟨cls2,dd2,data2,sl2⟩,ho2,hc2,n2,hd2⟩:=id hb;simp only at hc hd hc2 hd2;subst hc hd hc2 hd2;have e:vs.toArray++ws.toArray=(vs++ws).toArray:=by simp
 by_cases hw:ws=[]
 ·exact concat_meets ⟨_,ho,rfl⟩ ⟨_,ho2,rfl⟩ noFill_tuple_add seq_tuple_add PySem.F.slot_tuple_add PySem.F.entry_tuple_add (PySem.F.args_tuple_add_2 _ _)
   (tuple_addW1 t b vs.toArray ws.toArray n n2 dd dd2 sl sl2 (by simpa using hv) (by simp[hw])) ⟨ho,ho2,h1 hw⟩
 ·refine concat_meets ⟨_,ho,rfl⟩ ⟨_,ho2,rfl⟩ noFill_tuple_add seq_tuple_add PySem.F.slot_tuple_add PySem.F.entry_tuple_add (PySem.F.args_tuple_add_2 _ _)
   (tuple_addW2 t b vs.toArray ws.toArray n n2 dd dd2 sl sl2 (by simpa using hv) (by simpa using hw) (by rw[List.size_toArray,List.size_toArray];exact hsz)) ⟨ho,ho2,?_⟩
  rw[e];exact h2 hw
noncomputable def sIx(n d:Nat):Option Int->Nat
 | none=>d
 | some v=>if v<0 then (v+(n:Int)).toNat else min v.toNat n
theorem sIx_none(n d:Nat):sIx n d none=d:=rfl
theorem sIx_nat(n d k:Nat):sIx n d (some (k:Int))=min k n:=by
 show(if (k:Int)<0 then ((k:Int)+(n:Int)).toNat else min (k:Int).toNat n)=min k n;rw[if_neg ↑2,Int.toNat_natCast]
end
end HT
namespace L2
open PySem PySem.Spec PyProof.Rows
abbrev TO:=St->Hp->(Option Int->Hp->Prop)->Prop
noncomputable def PO(X:Cx)(e:Option Expr)(t:TO):Prop :=
 ∀(pins:List ↑26)(s:Shared)(σ:St)(H:Hp)(Q:Option Int->Hp->Prop),Inv X pins σ H s->t σ H Q ->
  wpAny ↑21 X.A (evalPart e X.env) (λu s'=>∃o H',Inv X pins σ H' s'/\IsPart u o/\Q o H') X.xe s
def d9x:TO:=λ_ H Q=>Q none H
noncomputable def e6l(t:TE):TO:=λσ H Q=>t σ H λx H1=>∃i,x=.int i/\Q (some i) H1
section
variable{X:Cx}{e:Expr}{te:TE}{lo hi:Option Expr}{tl th:TO}{pos p2:Pos}
theorem e0j:PO X none d9x:=by
 fail "x";rw[evalPart_none];exact wpAny_pure ⟨none,H,I,.none,h⟩
theorem e0i(h:PE X e te):PO X (some e) (e6l te):=by
 intro pins s σ H Q I hw;rw[evalPart_some];refine thn (h pins s σ H _ I hw) λu s1 z0_=>?_;fail "am";obtain⟨i,rfl,q⟩:=q1;obtain⟨t,rfl⟩:=r1;exact⟨some i,H1,I1,.int i t,q⟩
noncomputable def SlR(X:Cx)(r:V->Option Int->Option Int->Hp->VK->Prop):Prop :=
 ∀(pins:List ↑26)(s:Shared)(σ:St)(H:Hp)(x:V)(v vl vu:Value)(lo hi:Option Int)(sl:Addr)(Q:VK),Inv X pins σ H s->RelV x v->s.heap.IsSliceOf sl vl vu .none->IsPart vl lo->IsPart vu hi->r x lo hi H Q ->
  ∃T id,typeLookup (.type T) "__getitem__" = pure (some (.builtin id))/\s.TypeIs v T/\wpAny ↑21 X.A (getItem v (.ref sl)) ↑115 X.xe s
noncomputable def tSl(r:V->Option Int->Option Int->Hp->VK->Prop)(te:TE)(tl th:TO):TE:=λσ H Q=>te σ H λx H1=>tl σ H1 λl H2=>th σ H2 λu H3=>r x l u H3 Q
theorem d6u{r:V->Option Int->Option Int->Hp->VK->Prop}(hr:SlR X r)(he:PE X e te)(hl:PO X lo tl)(hu:PO X hi th):PE X (.Subscript e (.Slice lo hi none p2) pos) (tSl r te tl th):=by
 fail "x";refine Subscript_ (thn ↑97 λv s1 z0_=>?_);fail "am";refine wpAny_Slice (thn (hl pins s1 σ H1 _ I1 q1) λvl s2 z0_=>?_);obtain⟨l,H2,I2,pl,q2⟩:=z0_;refine thn (hu pins s2 σ H2 _ I2 q2) λvu s3 z1_=>?_;obtain⟨u,H3,I3,pu,q3⟩:=z1_;rw[evalPart_none];refine wpAny_pure ?_;have I4:Inv X pins σ H3 { s3 with heap:=s3.heap.push { cls:=.type "slice",data:=.fields #[vl,vu,.none] } }:=I3.kept (t':=s3.toks) λb ob q=>Heap.get?_push_of_some _ q
 obtain⟨T,id,hT,ht,hg⟩:=hr pins { s3 with heap:=s3.heap.push { cls:=.type "slice",data:=.fields #[vl,vu,.none] } } σ H3 x v vl vu l u s3.heap.objs.size Q I4 r1 (Heap.IsSliceOf.new ..) pl pu q3
 show wpAny ↑21 X.A (subscriptTail e (.Slice lo hi none p2) v (.ref s3.heap.objs.size)) ↑115 X.xe { s3 with heap:=s3.heap.push { cls:=.type "slice",data:=.fields #[vl,vu,.none] } }
 exact tail_any (ops:=[.ref s3.heap.objs.size,v]) ht hT hg ↑58
noncomputable def e2i(xs:List V)(lo hi:Option Int):List V:=(xs.drop (HT.sIx xs.length 0 lo)).take (HT.sIx xs.length xs.length hi-HT.sIx xs.length 0 lo)
theorem c9e(xs:List V)(lo hi:Option Int):(e2i xs lo hi).length<=xs.length:=by
 unfold e2i;rw[List.length_take,List.length_drop];lia
noncomputable def e3l(K:↑29):R2:=λx y H Q=>∃a b xs ys,x=.ref a/\y=.ref b/\SqT K H a xs/\SqT K H b ys/\xs≠[]/\xs.length+ys.length<=sizeLine /\
 (ys=[]->Q (.ref a) H)/\(ys≠[]->∀p,H p=none->Q (.ref p) (upd H p (.tup (xs++ys))))
theorem Vals.nil_iff{xs:List V}{us:List Value}(r:Vals xs us):us=[] ↔ xs=[]:=by
 cases r with
 | nil=>simp
 | cons _ _=>simp
theorem e0v:OpR X (binaryOp .Add) (e3l X.K):=by
 fail "ac";obtain⟨a,b,xs,ys,rfl,rfl,ha,hb,hx,hz,q1,q2⟩:=h;cases rx;cases ry;obtain⟨its,r1,p1,_⟩:=I.tuple ha;obtain⟨its2,r2,p2,_⟩:=I.tuple hb;refine HT.cat_tup p1 p2 (λz=>hx (r1.nil_iff.mp z)) (λz=>⟨.ref a,H,I,rfl,q1 (r2.nil_iff.mp z)⟩) (λz=>?_) (by rw[<- r1.length,<- r2.length];exact hz)
 refine⟨.ref s.heap.objs.size,_,I.laid (t':=s.toks) (o:=.tup (xs++ys)) (λb ob q=>Heap.get?_push_of_some _ q) ↑31 ?_,rfl,q2 (λw=>z (r2.nil_iff.mpr w)) _ (I.hok.fresh ↑31)⟩;exact⟨by rw[List.length_append];exact hz,_,r1.append r2,IsTup.new _ _⟩
end
noncomputable def ixN(n:Nat)(i:Int):Option Nat:=if 0<=i then (if i<n then some i.toNat else none) else if -(n:Int)<=i then some (i+n).toNat else none
noncomputable def atI{α:Type}(xs:List α)(i:Int):Option α:=(ixN xs.length i).bind λj=>xs[j]?
theorem d4k{n:Nat}{i:Int}{j:Nat}(h:ixN n i=some j):seqIndex? i n=some j/\j<n/\-(n:Int)<=i/\i<n:=by
 unfold ixN at h;by_cases h0:0<=i
 ·rw[if_pos h0] at h
  by_cases h1:i<n
  ·rw[if_pos h1] at h
   have e:i.toNat=j:=Option.some.inj h;exact⟨by rw[seqIndex_of h0 h1,e],by lia,by lia,h1⟩
  ·rw[if_neg h1] at h;cases h
 ·rw[if_neg h0] at h
  by_cases h1:-(n:Int)<=i
  ·rw[if_pos h1] at h
   have e:(i+n).toNat=j:=Option.some.inj h;exact⟨by rw[seqIndex_neg ↑2 h1,e],by lia,h1,by lia⟩
  ·rw[if_neg h1] at h;cases h
theorem e2b{α:Type}{xs:List α}{i:Int}{v:α}(h:atI xs i=some v):∃j,seqIndex? i xs.length=some j/\xs[j]?=some v/\j<xs.length/\-(xs.length:Int)<=i/\i<xs.length:=by
 unfold atI at h;cases e:ixN xs.length i with
 | none=>rw[e] at h;cases h
 | some j=>
  rw[e] at h;obtain⟨h1,h2,h3,h4⟩:=d4k e;exact⟨j,h1,h,h2,h3,h4⟩
def e2e(b:Expr):Prop:=∀o i,subscripted b false o i=operate [o,i] (getItem o i)
noncomputable def IxR(X:Cx)(r:R2):Prop :=
 ∀(value slice:Expr)(pins:List ↑26)(s:Shared)(σ:St)(H:Hp)(x y:V)(v u:Value)(Q:VK),Inv X pins σ H s->RelV x v->RelV y u->r x y H Q ->
  subscripted slice false v u=operate [v,u] (getItem v u)->wpAny ↑21 X.A (subscriptTail value slice v u) ↑115 X.xe s
noncomputable def MtR(X:Cx)(id:String)(r:V->List V->Hp->VK->Prop):Prop :=
 ∀(pins:List ↑26)(s:Shared)(σ:St)(H:Hp)(x:V)(xs:List V)(v:Value)(us:List Value)(Q:VK),Inv X pins σ H s->RelV x v->Vals xs us->r x xs H Q ->
  wpAny ↑21 X.A (call (.builtin id) (v::us)) ↑115 X.xe s
section
variable{X:Cx}{a b:Expr}{ta tb:TE}{pos:Pos}
theorem a0c{r:R2}(hr:IxR X r)(ha:PE X a ta)(hb:PE X b tb)(hs:e2e b):PE X (.Subscript a b pos) (tOp r ta tb):=by
 fail "x";exact Subscript_ (e7z ha hb I h λv u s2 x y H2 I2 rx ry q=>hr a b pins s2 σ H2 x y v u Q I2 rx ry q (hs _ _))
noncomputable def e6u(K:↑29):R2:=λx y H Q=>∃p xs i v,x=.ref p/\y=.int i/\SqL K H p xs/\atI xs i=some v/\Q v H
theorem e1d:IxR X (e6u X.K):=by
 intro value slice pins s σ H x y v u Q I rx ry h hs;obtain⟨p,xs,i,z,rfl,rfl,hq,he,q⟩:=h;cases rx;obtain⟨t,rfl⟩:=ry;obtain⟨its,r,pl,hz⟩:=I.list hq;obtain⟨j,h1,h2,h3,h4,h5⟩:=e2b he;obtain⟨w,ew,rw'⟩:=r.get h2;have hl:=r.length;have hn:=d4f;have fin:EP X pins σ Q w s:=⟨z,H,I,rw',q⟩;by_cases h0:0<=i
 ·have hj:i.toNat=j:=by
   rw[seqIndex_of h0 h5] at h1;exact Option.some.inj h1
  exact item_listR pl.isList h0 ↑2 (by rw[hj];simpa using ew) fin hs
 ·have hj:(i+(its.toArray.size:Int)).toNat=j:=by
   rw[seqIndex_neg ↑2 h4] at h1;rw[List.size_toArray,<- hl];exact Option.some.inj h1
  exact subscriptTail_builtinR (x:=w) pl.isList.typeIs slot_list_getitem.lookup
   (wpAny_getItem_list_neg (Q:=λr s'=>r=w/\EP X pins σ Q r s') pl.isList ↑2 (by rw[List.size_toArray] <;> lia) ↑2 (by rw[hj];simpa using ew) ⟨rfl,fin⟩) hs
theorem d1u(its:List Value)(n j:Nat)(u:Value):Obj.mapSeq (·.setIfInBounds j u) { cls:=.type "list",data:=.seq its.toArray n }={ cls:=.type "list",data:=.seq (its.set j u).toArray n }:=by
 simp[Obj.mapSeq]
theorem Inv.lst{pins:List ↑26}{σ:St}{H:Hp}{s:Shared}{p:Addr}{xs:List V}(I:↑13)(h:↑92):
  ∃(its:List Value)(n:Nat),Vals xs its/\s.heap.get? p=some { cls:=.type "list",data:=.seq its.toArray n }/\xs.length<=sizeLine:=by
 obtain⟨z,its,n,r,e⟩:=I.hok p _ h;exact⟨its,n,r,e,z⟩
theorem Inv.lstUpd{pins:List ↑26}{σ:St}{H:Hp}{s:Shared}{p:Addr}{xs ys:List V}{its its':List Value}{n n':Nat}{f:Obj->Obj}(I:↑13)(h:↑92)(ho:s.heap.get? p=some { cls:=.type "list",data:=.seq its.toArray n })(hf:f { cls:=.type "list",data:=.seq its.toArray n }={ cls:=.type "list",data:=.seq its'.toArray n' })(r:Vals ys its')(hz:ys.length<=sizeLine)(t:Nat):
  Inv X pins σ (upd H p (.lst ys)) { s with heap:=s.heap.update p f,toks:=t }:=by
 have e:(s.heap.update p f).get? p=some { cls:=.type "list",data:=.seq its'.toArray n' }:=by
  rw[Heap.get?_update_self f ho (by rw[hf] <;> rfl),hf]
 refine I.write (x:=p) (e:=p) (by rw[h];trivial) ↑22 (λb u hb q=>(Heap.get?_update_other _ _ (Ne.symm hb)).trans q) ⟨_,e⟩ ?_
 exact⟨hz,its',n',r,e⟩
def e3k:V->V->V->Hp->(Hp->Prop)->Prop:=λo i v H Q=>∃p xs k j,o=.ref p/\i=.int k/\H p=some (.lst xs)/\ixN xs.length k=some j/\Q (upd H p (.lst (xs.set j v)))
theorem b3f:e8y X e3k:=by
 intro pins s σ H o i v ov iv u Q I ro ri rv h;obtain⟨p,xs,k,j,rfl,rfl,hp,hj,q⟩:=h;cases ro;obtain⟨t,rfl⟩:=ri;obtain⟨its,n,r,ho,hz⟩:=I.lst hp;obtain⟨h1,h2,h3,h4⟩:=d4k hj;have hl:=r.length;have hn:=d4f;have I':Inv X pins σ (upd H p (.lst (xs.set j v))) { s with heap:=s.heap.update p (Obj.mapSeq (·.setIfInBounds j u)) } :=
  I.lstUpd hp ho (d1u its n j u) (r.set rv j) (by rw[List.length_set];exact hz) s.toks
 by_cases h0:0<=k
 ·have hk:k.toNat=j:=by
   rw[seqIndex_of h0 h4] at h1;exact Option.some.inj h1
  exact PySem.W.ki_setAt ho h0 ↑2 (by rw[List.size_toArray,<- hl];exact h4) (by rw[hk];exact⟨_,I',q⟩)
 ·have hk:(k+(its.toArray.size:Int)).toNat=j:=by
   rw[seqIndex_neg ↑2 h3] at h1;rw[List.size_toArray,<- hl];exact Option.some.inj h1
  exact PySem.W.ki_setBack ho ↑2 (by rw[List.size_toArray,<- hl];exact h3) ↑2 (by rw[hk];exact⟨_,I',q⟩)
theorem c4c(lo hi:Option Int)(n:Nat):(sliceBounds lo hi none n).1=((HT.sIx n 0 lo:Nat):Int)/\(sliceBounds lo hi none n).2.1=((HT.sIx n n hi:Nat):Int)/\(sliceBounds lo hi none n).2.2=1:=by
 refine⟨?_,?_,rfl⟩
 ·cases lo with
  | none=>simp[sliceBounds,HT.sIx]
  | some i=>
   simp only[sliceBounds,HT.sIx,Option.getD_none,show(1:Int) > 0 by decide,if_true]
   by_cases h:i<0
   ·simp only[h,if_true] <;> lia
   ·simp only[h,if_false] <;> lia
 ·cases hi with
  | none=>simp[sliceBounds,HT.sIx]
  | some i=>
   simp only[sliceBounds,HT.sIx,Option.getD_none,show(1:Int) > 0 by decide,if_true]
   by_cases h:i<0
   ·simp only[h,if_true] <;> lia
   ·simp only[h,if_false] <;> lia
theorem c1h(its:List Value)(lo hi:Option Int):slicePick its.toArray lo hi none=((its.drop (HT.sIx its.length 0 lo)).take (HT.sIx its.length its.length hi-HT.sIx its.length 0 lo)).toArray:=by
 obtain⟨h1,h2,h3⟩:=c4c lo hi its.toArray.size;unfold slicePick;rw[h1,h2,h3];simp only[sliceRange_one,pick_run,List.size_toArray] <;> rfl
def e8l(K:↑29):V->Option Int->Option Int->Hp->VK->Prop:=λx lo hi H Q=>∃a xs,x=.ref a/\SqL K H a xs/\∀p,H p=none->Q (.ref p) (upd H p (.lst (e2i xs lo hi)))
theorem e0c:SlR X (e8l X.K):=by
 intro pins s σ H x v vl vu lo hi sl Q I rx hs pl pu h;obtain⟨a,xs,rfl,hx,q⟩:=h;cases rx;obtain⟨its,r,ht,hz⟩:=I.list hx;have hlen:=r.length;refine⟨"list",_,slot_list_getitem.lookup,ht.isList.typeIs,?_⟩;refine wpAny_getItem_list_slice ht.isList hs pl pu .none (by simp) ?_ (by rw[List.size_toArray] <;> lia)
 rw[c1h,<- hlen];refine⟨.ref s.heap.objs.size,_,I.laid (t':=s.toks) (o:=.lst (e2i xs lo hi)) (λb ob q=>Heap.get?_push_of_some _ q) ↑31 ?_,rfl,q _ (I.hok.fresh ↑31)⟩;exact⟨Nat.le_trans (c9e xs lo hi) hz,_,0,(r.drop (HT.sIx xs.length 0 lo)).take (HT.sIx xs.length xs.length hi-HT.sIx xs.length 0 lo),Heap.get?_push_size _ rfl⟩
noncomputable def a5b:V->Bool
 | .non=>true
 | .bl _=>true
 | .int _=>true
 | .str _=>true
 | _=>false
noncomputable def eqV:V->V->Bool
 | .non,.non=>true
 | .bl a,.bl b=>a == b
 | .bl a,.int b=>(if a then 1 else 0) == b
 | .int a,.bl b=>a == (if b then 1 else 0)
 | .int a,.int b=>a == b
 | .str a,.str b=>a == b
 | _,_=>false
theorem d9d{A:Around}{s:Shared}{y x:V}{u v:Value}(ry:RelV y u)(rx:RelV x v)(fy:a5b y=true)(fx:a5b x=true):SeqAt.EqAt A s u v (eqV y x):=by
 cases y with
 | non=>
  cases ry;cases x with
  | non=>cases rx;exact SeqAt.EqAt.same _
  | bl b=>cases rx;exact SeqAt.EqAt.none_bool b
  | int b=>obtain⟨t,rfl⟩:=rx;exact SeqAt.EqAt.none_int b t
  | str b=>obtain⟨t,rfl⟩:=rx;exact SeqAt.EqAt.none_str b t
  | _=>exact absurd (show false=true from fx) Bool.false_ne_true
 | bl a=>
  cases ry;cases x with
  | non=>cases rx;exact SeqAt.EqAt.bool_none a
  | bl b=>cases rx;exact SeqAt.EqAt.bool_bool a b
  | int b=>obtain⟨t,rfl⟩:=rx;exact SeqAt.EqAt.bool_int a b t
  | str b=>obtain⟨t,rfl⟩:=rx;exact SeqAt.EqAt.bool_str a b t
  | _=>exact absurd (show false=true from fx) Bool.false_ne_true
 | int a=>
  obtain⟨t',rfl⟩:=ry;cases x with
  | non=>cases rx;exact SeqAt.EqAt.int_none a t'
  | bl b=>cases rx;exact SeqAt.EqAt.int_bool a t' b
  | int b=>obtain⟨t,rfl⟩:=rx;exact SeqAt.EqAt.int_int a t' b t
  | str b=>obtain⟨t,rfl⟩:=rx;exact SeqAt.EqAt.int_str a t' b t
  | _=>exact absurd (show false=true from fx) Bool.false_ne_true
 | str a=>
  obtain⟨t',rfl⟩:=ry;cases x with
  | non=>cases rx;exact SeqAt.EqAt.str_none a t'
  | bl b=>cases rx;exact SeqAt.EqAt.str_bool a t' b
  | int b=>obtain⟨t,rfl⟩:=rx;exact SeqAt.EqAt.str_int a t' b t
  | str b=>obtain⟨t,rfl⟩:=rx;exact SeqAt.EqAt.str_str a t' b t
  | _=>exact absurd (show false=true from fx) Bool.false_ne_true
 | _=>exact absurd (show false=true from fy) Bool.false_ne_true
noncomputable def eqU(x:V)(u:Value):Bool:=match u with
 | .none=>eqV .non x
 | .bool b=>eqV (.bl b) x
 | .int i _=>eqV (.int i) x
 | .str z _=>eqV (.str z) x
 | _=>false
theorem d0l{x y:V}{u:Value}(r:RelV y u)(f:a5b y=true):eqU x u=eqV y x:=by
 cases y with
 | non=>cases r;rfl
 | bl b=>cases r;rfl
 | int i=>obtain⟨t,rfl⟩:=r;rfl
 | str z=>obtain⟨t,rfl⟩:=r;rfl
 | _=>exact absurd (show false=true from f) Bool.false_ne_true
theorem b9g{x:V}:∀{xs:List V}{us:List Value},Vals xs us->xs.all a5b=true->us.any (eqU x)=xs.any λy=>eqV y x
 | _,_,.nil,_=>rfl
 | y::xs,u::us,.cons r t,f=>by
  rw[List.all_cons,Bool.and_eq_true] at f;rw[List.any_cons,List.any_cons,d0l r f.1,b9g t f.2]
theorem a9z{A:Around}{s:Shared}{x:V}{v:Value}(rx:RelV x v)(fx:a5b x=true):∀{xs:List V}{us:List Value},Vals xs us->xs.all a5b=true->∀u∈us,SeqAt.EqAt A s u v (eqU x u)
 | _,_,.nil,_=>λu hu=>by cases hu
 | y::xs,u::us,.cons r t,f=>λu' hu=>by
  rw[List.all_cons,Bool.and_eq_true] at f;rcases List.mem_cons.mp hu with rfl|hu
  ·rw[d0l r f.1];exact d9d r rx f.1 fx
  ·exact a9z rx fx t f.2 u' hu
noncomputable def inV(x:V)(xs:List V):Bool:=xs.any λy=>eqV y x
noncomputable def rIn(K:↑29)(neg:Bool):R2:=λx y H Q=>∃p xs,y=.ref p/\(SqL K H p xs\/SqT K H p xs)/\a5b x=true/\xs.all a5b=true/\Q (.bl (if neg then !inV x xs else inV x xs)) H
theorem d3q:OpR X (compareOp .In) (rIn X.K false):=by
 fail "ac";obtain⟨p,xs,rfl,hq,fx,fs,q⟩:=h;cases ry;rcases hq with hq|hq
 ·obtain⟨its,r,pl,hz⟩:=I.list hq
  refine SeqAt.in_listAt (eqU x) pl.isList (λw hw=>a9z rx fx r fs w (by simpa using hw)) ⟨.bl _,H,I,rfl,?_⟩
  rw[show its.toArray.any (eqU x)=its.any (eqU x) by simp,b9g r fs]
  exact q
 ·obtain⟨its,r,pl,hz⟩:=I.tuple hq
  refine SeqAt.in_tupleAt (eqU x) pl (λw hw=>a9z rx fx r fs w (by simpa using hw)) ⟨.bl _,H,I,rfl,?_⟩
  rw[show its.toArray.any (eqU x)=its.any (eqU x) by simp,b9g r fs]
  exact q
theorem c5b:OpR X (compareOp .NotIn) (rIn X.K true):=by
 fail "ac";obtain⟨p,xs,rfl,hq,fx,fs,q⟩:=h;cases ry;rcases hq with hq|hq
 ·obtain⟨its,r,pl,hz⟩:=I.list hq
  refine SeqAt.notIn_listAt (eqU x) pl.isList (λw hw=>a9z rx fx r fs w (by simpa using hw)) ⟨.bl _,H,I,rfl,?_⟩
  rw[show its.toArray.any (eqU x)=its.any (eqU x) by simp,b9g r fs]
  exact q
 ·obtain⟨its,r,pl,hz⟩:=I.tuple hq
  refine SeqAt.notIn_tupleAt (eqU x) pl (λw hw=>a9z rx fx r fs w (by simpa using hw)) ⟨.bl _,H,I,rfl,?_⟩
  rw[show its.toArray.any (eqU x)=its.any (eqU x) by simp,b9g r fs]
  exact q
theorem c6w:b2r X (.builtin "len") (λxs H Q=>∃p ys,xs=[.ref p]/\(SqL X.K H p ys\/SqT X.K H p ys)/\Q (.int ys.length) H):=by
 intro pins s σ H xs us Q I r h;obtain⟨p,ys,rfl,hq,q⟩:=h;obtain⟨u,rfl,rx⟩:=d2g r;cases rx;have hn:=d4f;rcases hq with hq|hq
 ·obtain⟨its,r',pl,hz⟩:=I.list hq
  have hlen:=r'.length;exact Calls.call_len_list pl.isList (by simp only[List.size_toArray] <;> lia) ⟨.int ys.length,H,I.tok _,⟨s.toks+1,by rw[List.size_toArray,hlen]⟩,q⟩
 ·obtain⟨its,r',pl,hz⟩:=I.tuple hq
  have hlen:=r'.length;exact len_tuple pl (by simp only[List.size_toArray] <;> lia) ⟨.int ys.length,H,I.tok _,⟨s.toks+1,by rw[List.size_toArray,hlen]⟩,q⟩
theorem c6v:b2r X (.type "list") (λxs H Q=>∃p ys,xs=[.ref p]/\(SqL X.K H p ys\/SqT X.K H p ys)/\∀l,H l=none->Q (.ref l) (upd H l (.lst ys))):=by
 intro pins s σ H xs us Q I r h;obtain⟨p,ys,rfl,hq,q⟩:=h;obtain⟨u,rfl,rx⟩:=d2g r;cases rx;have fin:∀(its:List Value),Vals ys its->ys.length<=sizeLine->∀(h':Heap)(c':Nat),(∀b o',s.heap.get? b=some o'->h'.get? b=some o') ->
   h'.get? s.heap.objs.size=some { cls:=.type "list",dict:=none,data:=.seq its.toArray c',slots:=#[] }->EP X pins σ Q (.ref s.heap.objs.size) { s with heap:=h' }:=λits r' hz h' c' kp e=>
  ⟨.ref s.heap.objs.size,_,I.laid (t':=s.toks) kp ↑31 (show ObjOk X.prog X.w _ h' _ (.lst ys) from⟨hz,its,c',r',e⟩),rfl,q _ (I.hok.fresh ↑31)⟩
 rcases hq with hq|hq
 ·obtain⟨its,r',pl,hz⟩:=I.list hq
  have hlen:=r'.length;obtain⟨o,ho,hc,n,hd⟩:=pl.isList;exact call_list_seq p ↑22 ho hc hd (λh' c' kp e=>fin its r' hz h' c' kp e) (by simp only[List.size_toArray] <;> lia)
 ·obtain⟨its,r',pl,hz⟩:=I.tuple hq
  have hlen:=r'.length;obtain⟨o,ho,hc,n,hd⟩:=pl;exact call_list_seq p (.inr rfl) ho hc hd (λh' c' kp e=>fin its r' hz h' c' kp e) (by simp only[List.size_toArray] <;> lia)
theorem c3q:b2r X ↑100 (λxs H Q=>∃p ys,xs=[.ref p]/\((SqL X.K H p ys/\∀l,H l=none->Q (.ref l) (upd H l (.tup ys)))\/(SqT X.K H p ys/\Q (.ref p) H))):=by
 intro pins s σ H xs us Q I r h;obtain⟨p,ys,rfl,h⟩:=h;obtain⟨u,rfl,rx⟩:=d2g r;cases rx;rcases h with ⟨hq,q⟩|⟨hq,q⟩
 ·obtain⟨its,r',pl,hz⟩:=I.list hq
  have hlen:=r'.length;refine call_tuple_list pl.isList (λh' kp=>?_) (by simp only[List.size_toArray] <;> lia)
  have I1:Inv X pins σ H { s with heap:=h' }:=I.kept (t':=s.toks) kp
  have I2:Inv X pins σ (upd H h'.objs.size (.tup ys)) { s with heap:=h'.push { cls:=.type "tuple",data:=.seq its.toArray } } :=
   I1.laid (t':=s.toks) (λb o e=>Heap.get?_push_of_some _ e) ↑31 (show ObjOk X.prog X.w _ _ _ (.tup ys) from⟨hz,its,r',IsTup.new _ _⟩)
  exact⟨.ref h'.objs.size,_,I2,rfl,q _ (I1.hok.fresh ↑31)⟩
 ·obtain⟨its,r',pl,hz⟩:=I.tuple hq
  exact call_tuple_same pl ⟨.ref p,H,I,rfl,q⟩
def tyV(K:↑29)(T:String)(x:V)(H:Hp):Prop:=match x with
 | .str _=>T="str"
 | .int _=>T="int"
 | .ref p=>(T="list"/\∃xs,SqL K H p xs)\/(T="tuple"/\∃o,K.lookup p=some o/\o.cls=.type "tuple"/\o.dict=none) \/
   (T="dict"/\((∃kvs,H p=some (.dK kvs)) \/ ∃kvs,H p=some (.dT kvs)))\/(T="set"/\∃S n,H p=some (.set S n))
 | _=>False
theorem e2o{pins:List ↑26}{σ:St}{H:Hp}{s:Shared}{T:String}{x:V}{v:Value}(I:↑13)(r:RelV x v)(ty:tyV X.K T x H):
  s.TypeIs v T/\∀a,v=.ref a->∃ob,s.heap.get? a=some ob/\ob.dict=none:=by
 cases x with
 | str z=>
  obtain⟨t,rfl⟩:=r;cases (show T="str" from ty);exact⟨typeIs_str s z t,λ_ e=>nomatch e⟩
 | int i=>
  obtain⟨t,rfl⟩:=r;cases (show T="int" from ty);exact⟨typeIs_int s i t,λ_ e=>nomatch e⟩
 | ref p=>
  cases r;rcases ty with ⟨rfl,xs,hq⟩|⟨rfl,o,hk,hc,hd⟩|⟨rfl,hk⟩|⟨rfl,S,n,hk⟩
  ·obtain⟨its,_,pl,_⟩:=I.list hq
   refine⟨pl.isList.typeIs,λa e=>?_⟩;cases e;obtain⟨o,n,e,c,hd,_⟩:=pl;exact⟨o,e,hd⟩
  ·refine⟨⟨o,I.kIn p o hk,hc⟩,λa e=>?_⟩
   cases e;exact⟨o,I.kIn _ o hk,hd⟩
  ·have z:∃o,s.heap.get? p=some o/\o.ExactDict:=by
    rcases hk with ⟨kvs,hk⟩|⟨kvs,hk⟩
    ·obtain⟨_,_,_,_,o,_,_,e,ex,_⟩:=I.hok p _ hk
     exact⟨o,e,ex⟩
    ·obtain⟨_,_,_,_,o,_,_,e,ex,_⟩:=I.hok p _ hk
     exact⟨o,e,ex⟩
   obtain⟨o,e,ex⟩:=z;refine⟨⟨o,e,ex.1⟩,λa e2=>?_⟩;cases e2;exact⟨o,e,ex.2.1⟩
  ·obtain⟨o,_,_,_,e,ex,_⟩:=I.hok p _ hk
   refine⟨⟨o,e,ex.1⟩,λa e2=>?_⟩;cases e2;exact⟨o,e,ex.2.1⟩
 | _=>exact False.elim ty
noncomputable def tBM(K:↑29)(T:String)(r:V->List V->Hp->VK->Prop)(to:TE)(t:TA):TE:=λσ H Q=>to σ H λx H1=>tyV K T x H1/\t σ H1 λxs H2=>r x xs H2 Q
variable{o e:Expr}{es:List Expr}{to:TE}{t:TA}{name:Str}{apos cpos:Pos}{T id:String}{r:V->List V->Hp->VK->Prop}
theorem e3s(pa:PlainAttrs T)(slot:Slot T name id)(hty:typeOf (.builtin id)=pure (.type "method_descriptor"))(hm:MtR X id r)(ho:PE X o to)(ha:↑121)(hbase:autoParam (attributeBase o name X.env (eval o X.env)=eval o X.env) q4)(hfew:((backTo cpos (starEach (e::es) X.env)).all (λx=>!x.1) && (backToKw cpos (keywordEach [] X.env)).all (λx=>x.1.isSome)
   && decide ((e::es).length+([]:List Keyword).length+(if ([]:List Keyword).isEmpty then 0 else 1)<30))=true:=by rfl)(hline:autoParam ((apos.endLine == cpos.line)=true) q4)(hs:autoParam (starEach (e::es) X.env=(false,eval e X.env)::starEach es X.env) q4)(hplain:autoParam ((backTo cpos ↑83).any (·.1)=false) q4):
  PE X (.Call (.Attribute o name apos) (e::es) [] cpos) (tBM X.K T r to t):=by
 fail "x";refine wpAny_Call_method_late hbase hfew hline rfl (thn (ho pins s σ H _ I h) λv s1 z0_=>?_);obtain⟨x,H1,I1,r1,ty,q1⟩:=z0_;obtain⟨h1,h2⟩:=e2o I1 r1 ty;refine⟨T,id,pa,slot,hty,h1,h2,?_⟩;have hA:=ha cpos pins s1 σ H1 _ I1 q1;rw[hs] at hA ⊢;refine Calls.callWith_builtin (by show(false || (backTo cpos ↑83).any (·.1))=false;rw[hplain] <;> rfl) (Calls.evalArgs_plain ?_)
 exact thn hA λus s2 z0_=>by obtain⟨vs,H2,I2,r2,q2⟩:=z0_;exact hm pins s2 σ H2 x vs v us Q I2 r1 r2 q2
end
noncomputable def MtM(X:Cx)(id:String)(r:V->List V->Hp->VK->Prop):Prop :=
 ∀(pins:List ↑26)(s:Shared)(σ:St)(H:Hp)(x:V)(xs:List V)(v:Value)(us:List Value)(Q:VK),Inv X pins σ H s->RelV x v->Vals xs us->r x xs H Q ->
  wpAny ↑21 X.A (call (.builtin id) (v::us)) ↑115 X.xe s
theorem Vals.one{x:V}{us:List Value}(h:Vals [x] us):∃u,us=[u]/\RelV x u:=by
 cases h with|cons r t=>cases t;exact⟨_,rfl,r⟩
theorem Vals.two{x y:V}{us:List Value}(h:Vals [x,y] us):∃u v,us=[u,v]/\RelV x u/\RelV y v:=by
 cases h with|cons r t=>cases t with|cons q t=>cases t;exact⟨_,_,rfl,r,q⟩
theorem Vals.rep{xs:List V}{us:List Value}(h:Vals xs us):∀k:Nat,Vals (List.replicate k xs).flatten (List.replicate k us).flatten
 | 0=>.nil
 | k+1=>by
  rw[List.replicate_succ,List.replicate_succ,List.flatten_cons,List.flatten_cons];exact Vals.append h (Vals.rep h k)
theorem c6p(its:List Value):∀(k:Nat)(acc:List Value),
  List.foldl (λx1 x2=>x1++x2) acc.toArray (List.replicate k its.toArray)=(acc++(List.replicate k its).flatten).toArray
 | 0,acc=>by simp
 | k+1,acc=>by
  have e:acc.toArray++its.toArray=(acc++its).toArray:=by simp
  have e2:(acc++its)++(List.replicate k its).flatten=acc++(List.replicate (k+1) its).flatten:=by
   rw[List.replicate_succ,List.flatten_cons,List.append_assoc]
  rw[<- e2,<- c6p its k (acc++its),<- e,List.replicate_succ,List.foldl_cons]
section
variable{X:Cx}{pins:List ↑26}{σ:St}{H:Hp}{s:Shared}{l b:Addr}{xs ys zs:List V}
theorem Inv.lset{its its':List Value}{n:Nat}{f:Array Value->Array Value}{t':Nat}(I:↑13)(hH:H l=some (.lst xs))(e:s.heap.get? l=some { cls:=.type "list",data:=.seq its.toArray n })(hf:f its.toArray=its'.toArray)(hv:Vals ys its')(hz:ys.length<=sizeLine):
  Inv X pins σ (upd H l (.lst ys)) { s with heap:=s.heap.update l (Obj.mapSeq f),toks:=t' }:=by
 have q:=PySem.IsL.update e f;rw[hf] at q;refine I.write (x:=l) (e:=l) (by rw[hH];exact trivial) ↑22 (λb' u hb hu=>(Heap.get?_update_other s.heap (Obj.mapSeq f) (Ne.symm hb)).trans hu) ⟨_,q⟩ ?_
 exact⟨hz,its',_,hv,q⟩
theorem Inv.lnew{its:List Value}{t':Nat}(I:↑13)(hv:Vals ys its)(hz:ys.length<=sizeLine):
  Inv X pins σ (upd H s.heap.objs.size (.lst ys)) { s with heap:=s.heap.push { cls:=.type "list",data:=.seq its.toArray },toks:=t' } :=
 I.laid (λ_ _ q=>Heap.get?_push_of_some _ q) ↑31 ⟨hz,its,0,hv,Heap.get?_push_size _ rfl⟩
theorem Inv.fresh(I:↑13):H s.heap.objs.size=none:=I.hok.fresh ↑31
theorem Inv.lstM(I:↑13)(hH:H l=some (.lst xs)):xs.length<=sizeLine/\∃(its:List Value)(n:Nat),Vals xs its/\xs.length=its.length/\s.heap.get? l=some { cls:=.type "list",data:=.seq its.toArray n }:=by
 obtain⟨z,its,n,r,e⟩:=I.hok l _ hH;exact⟨z,its,n,r,r.length,e⟩
theorem d7b{n:Nat}(h:n<=sizeLine):Builtin.List.listTooLong n=false:=by
 unfold Builtin.List.listTooLong;exact decide_eq_false ↑2
end
section
variable{X:Cx}
def c2g:V->List V->Hp->VK->Prop:=λx vs H Q=>∃l xs y,x=.ref l/\vs=[y]/\H l=some (.lst xs)/\xs.length<sizeLine/\Q .non (upd H l (.lst (xs++[y])))
theorem c6g:MtM X "list.append" c2g:=by
 intro pins s σ H x vs v us Q I rx rv h;obtain⟨l,xs,y,rfl,rfl,hH,hz,q⟩:=h;cases rx;obtain⟨u,rfl,ru⟩:=rv.one;obtain⟨z,its,n,r,hl,e⟩:=I.lstM hH;refine call_meets F.slot_list_append ⟨_,e,rfl⟩ F.entry_list_append (F.args_list_append_2 _ _) (PySem.list_append l its.toArray n u (by rw[List.size_toArray];lia)) ⟨e,?_⟩
 refine⟨.non,_,I.lset (its':=its++[u]) hH e (by simp) (r.append (.cons ru .nil)) ?_,rfl,q⟩
 rw[List.length_append,List.length_singleton];lia
noncomputable def e8q:R2:=λx y H Q=>∃l b xs zs,x=.ref l/\y=.ref b/\H l=some (.lst xs)/\H b=some (.lst zs)/\xs.length+zs.length<=sizeLine/\∀p,H p=none->Q (.ref p) (upd H p (.lst (xs++zs)))
theorem c5e:OpR X (binaryOp .Add) e8q:=by
 fail "ac";obtain⟨l,b,xs,zs,rfl,rfl,hH,hB,hz,q⟩:=h;cases rx;cases ry;obtain⟨z,its,n,r,hl,e⟩:=I.lstM hH;obtain⟨z2,its2,n2,r2,hl2,e2⟩:=I.lstM hB;refine PySem.P.add_list e e2 ?_ (by rw[List.size_toArray,List.size_toArray];lia)
 have ea:its.toArray++its2.toArray=(its++its2).toArray:=by simp
 rw[ea];exact⟨.ref _,_,I.lnew (t':=s.toks) (r.append r2) (by rw[List.length_append];lia),rfl,q _ I.fresh⟩
noncomputable def e9e:R2:=λx y H Q=>∃l k xs,x=.ref l/\y=.int k/\H l=some (.lst xs)/\-(2 ^ 63)<=k/\k<2 ^ 63/\xs.length*k.toNat<=sizeLine /\
 ∀p,H p=none->Q (.ref p) (upd H p (.lst (List.replicate k.toNat xs).flatten))
theorem c8v{α:Type}(xs:List α)(k:Nat):(List.replicate k xs).flatten.length=k*xs.length:=by
 induction k with
 | zero=>simp
 | succ k ih=>rw[List.replicate_succ,List.flatten_cons,List.length_append,ih,Nat.succ_mul,Nat.add_comm]
theorem c0o:OpR X (binaryOp .Mult) e9e:=by
 fail "ac";obtain⟨l,k,xs,rfl,rfl,hH,h1,h2,hz,q⟩:=h;cases rx;obtain⟨t,rfl⟩:=ry;obtain⟨z,its,n,r,hl,e⟩:=I.lstM hH;have hlen:its.toArray.size*k.toNat<=sizeLine:=by rw[List.size_toArray,<- hl];exact hz
 have hcap:¬ its.toArray.size*k.toNat > (2 ^ 63-1) / 8:=by
  have:(sizeLine:Nat)<=(2 ^ 63-1) / 8:=by decide
  lia
 have hfit:¬ (!Builtin.List.listFitsIndex k)=true:=by
  rw[fitsIndex_both h1 h2];exact Bool.false_ne_true
 have hlong:¬ Builtin.List.listTooLong (its.toArray.size*k.toNat)=true:=by
  rw[d7b hlen];exact Bool.false_ne_true
 have hnew:List.foldl (λx1 x2=>x1++x2) #[] (List.replicate (if its.toArray.isEmpty=true then 0 else k.toNat) its.toArray)=(List.replicate k.toNat its).flatten.toArray:=by
  have f0:∀m:Nat,List.foldl (λx1 x2=>x1++x2) #[] (List.replicate m its.toArray)=(List.replicate m its).flatten.toArray:=λm=>by
   have:=c6p its m [];rw[List.nil_append] at this;exact this
  rw[f0];cases its with
  | nil=>simp
  | cons a r'=>rw[if_neg (by simp)]
 refine wpAny_binaryOp_repeat_ref (T:="list") (U:="int") ↑4 ⟨_,e,rfl⟩ (λs'=>typeIs_int s' k t) noFill_list_mul F.fills_int_mul F.slot_int_rmul repeat_list F.slot_int_index.lookup
  (call_meets F.slot_int_rmul (typeIs_int s k t) F.entry_int_rmul (F.args_int_rmul_2 _ _) (int___rmul___int_list k t l its.toArray n)
   ⟨e,rfl,⟨_,e,rfl⟩,call_meets F.slot_list_mul ⟨_,e,rfl⟩ F.entry_list_mul (F.args_list_mul_2 _ _) (AutoListH.list___mul___list_int_3 l its.toArray n k t hfit hcap hlong) ⟨e,?_⟩⟩)
 rw[hnew];exact⟨.ref _,_,I.lnew (t':=s.toks) (r.rep k.toNat) (by rw[c8v,Nat.mul_comm];exact hz),rfl,q _ I.fresh⟩
end
end L2
namespace Att
open PySem PySem.W PySem.Calls PyProof.Rows
theorem b8w{P:Params}{h:Heap}:∀(ns:List Int)(vs:List Value),WellAll P h vs (ns.map WData.int)->IntsAre vs ns:=by
 intro ns
 induction ns with
 | nil=>
  intro vs w;rw[List.map_nil] at w;cases w;exact .nil
 | cons n ns ih=>
  intro vs w;rw[List.map_cons] at w;cases w with
  | cons a b=>
   cases a;exact .cons _ _ (ih _ b)
theorem d2n{l:OpenLaw}{n:Nat}(hn:l.most=some n){P:Params}{h:Heap}{args:List WData}{vals:List Value}(hpre:l.row.toRowW.claim.pre args=true)(hwl:WellAll P h vals args):
  ∃a vs ns,vals=[Value.ref a]/\args=[WData.list (ns.map WData.int)]/\h.get? a=some { cls:=.type "list",data:=.seq vs.toArray }/\IntsAre vs ns/\ns.length<=n:=by
 have hsh:WShape.hasAll [] args [.list .int]=true:=(pre_splitW hpre).1;have hc:l.pre.holds [] { args:=args }=true:=(pre_splitW hpre).2;obtain⟨d,r,rfl,h1,h2⟩:=hasAllW_cons hsh;obtain rfl:=hasAllW_nil h2;obtain⟨xs,rfl,h3⟩:=hasW_list h1;obtain⟨ns,rfl⟩:=items_int h3;have hlen:ns.length<=n:=by
  unfold OpenLaw.pre at hc;have h4:(WTm.not (.lt (.lit (.int (n:Int))) (.len (.arg 0)))).holds [] { args:=[.list (ns.map .int)] }=true:=by
   have h4:=(holds_andW hc).1;rw[hn] at h4;exact h4
  have h5:=condW_of h4 (w_not (w_lt w_lit (w_len_list (w_arg rfl))));rw[List.length_map] at h5;refine Nat.le_of_not_lt λq=>?_;have q':(n:Int)<((ns.length:Nat):Int):=by lia
  first
   | (rw[decide_eq_true q'] at h5;exact absurd h5 ↑4)
   | (simp at h5;lia)
 cases hwl with
 | cons w1 w2=>
  cases w2;cases w1 with
  | list ho hall=>exact⟨_,_,ns,rfl,rfl,ho,b8w ns _ hall,hlen⟩
theorem d3d(l:OpenLaw)(args:List WData):l.row.toRowW.claim.post args (.bool true) args=true :=
 postW_of (r:=l.row.toRowW) (X:=(true == true))
  (show WShape.has [] (.bool true) .bool=true by first|rfl|decide|simp[WShape.has,WShape.arms,WShape.armsAll])
  (show(WTm.eq .res (.lit (.bool true))).value [] { args:=args,res:=some (.bool true),after:=args }=some (.bool (true == true)) from w_eq_bool (w_res rfl) w_lit) rfl
theorem attach_call{l:OpenLaw}{n:Nat}{q:Program}{loose:List Str}{XP:(Str->Option Value)->Heap->Prop}{YP:World->Heap->Prop}{d:DefRec}(hn:l.most=some n)(hdf:d.params.defaults=[])(call:∀(w:World) (s₀ s₁:Shared) (mg mb:↑67) (fa:Addr) (o:Obj) (pm cd doc:Value) (a:Addr) (vs:List Value) (ns:List Int),
   Ground q loose [] XP w s₀ mg mb s₁.heap->YP w s₁.heap ->
   s₁.heap.get? fa=some o->o.data=.func (docDef d.name d.params d.body d.scope pm cd doc)->s₁.heap.CodeRec cd d.name->mg d.name=some (.ref fa) ->
   s₁.heap.get? a=some { cls:=.type "list",data:=.seq vs.toArray }->IntsAre vs ns->ns.length<=n->s₁.gens=#[] ->
   codeAny (model l.prog w) callerA (.call (.ref fa) ⟨[.ref a],[]⟩) (λr s'=>r=.ok (.ret (.bool true))/\OldK s₁.heap s'.heap/\s'.os=s₁.os/\AllBare s'.gens) s₁):
  WalkO q loose XP YP l.row.toRowW d [] (λf vs=>PySem.call f vs):=by
 intro w s₀ s₁ mg mb G Y fa o pm cd doc dV kV ho hd hcd hD hmg hg args vals as hpre hlay hrd hwl hlo;obtain rfl:dV=.none:=Dflts.none hD hdf;obtain rfl:kV=.none:=Dflts.noKw hD;obtain⟨a,vs,ns,rfl,rfl,hobj,hints,hlen⟩:=d2n hn hpre hwl;refine enter_call (codeAny_mono (call w s₀ s₁ mg mb fa o pm cd doc a vs ns G Y ho (fd_plain hd) hcd hmg hobj hints hlen hg) λr s' hq=>?_);obtain⟨rfl,h2,h3,h4⟩:=hq;exact⟨.inl ⟨.bool true,.bool true,[],rfl,λ_=>rfl,.bool true,d3d l _,λ_=>⟨List.Pairwise.nil,λ_ hm=>(nomatch hm)⟩⟩,h2,h3,h4⟩
end Att
namespace L2
open PySem PySem.Spec PyProof.Rows
theorem c3t:∀{vs:List Value}{ns:List Int},IntsAre vs ns->Vals ↑81 vs
 | _,_,.nil=>.nil
 | _,_,.cons n t h=>.cons ⟨t,rfl⟩ (c3t h)
def e8a(H:Hp):Prop:=∀b,H b=none \/ ∃o xs,H b=some (.frz o (.lst xs))
theorem d7h{P:Program}{w:World}{K:Frag}{mg mb:Str->Option Value}{CX:CXT}{k:Nat}{fa a:Addr}{fd:FuncData}{x:Str}{sp:Sp}{s₁:Shared}{vs:List Value}{ns:List Int}(KX:K.In s₁.heap)(hns:s₁.heap.Ns mainGlobals mg)(hb:s₁.heap.Ns builtinsNs mb)(hbb:∀x:Str,x≠"__name__"->mb x=bootBuiltins x)(hlim:s₁.heap.NoLimit)(hg:s₁.gens=#[])(ha:s₁.heap.get? a=some { cls:=.type "list",data:=.seq vs.toArray })(hi:IntsAre vs ns)(hl:ns.length<=sizeLine)(hr:Room k callerA)(F:∀base:Heap,K.In base->base.Ns mainGlobals mg->FnOk P w K mg base CX k fa fd [x] sp)(hbind:∀(s:Shared) (u:Value),BindsTo s fd ⟨[u],[]⟩ [(x,u)])(hsp:∀H:Hp,e8a H->SqL K H a ↑81->sp [.ref a] H (λv _=>v=.bl true) λ_ _ _=>False)(hCX:∀H e s',CX [] H s₁ (λ_ _ _=>False) e s'->False):
  codeAny (model P w) callerA (.call (.ref fa) ⟨[.ref a],[]⟩) (λr s'=>r=.ok (.ret (.bool true))/\OldK s₁.heap s'.heap/\s'.os=s₁.os/\AllBare s'.gens) s₁:=by
 have rv:=c3t hi;have lenV:=hi.length;have core:∀H:Hp,e8a H->SqL K H a ↑81->HOk P w H s₁.heap->(∀b,H b≠none->b=a)->(H a≠none->K.lookup a=none) ->
   codeAny (model P w) callerA (.call (.ref fa) ⟨[.ref a],[]⟩) (λr s'=>r=.ok (.ret (.bool true))/\OldK s₁.heap s'.heap/\s'.os=s₁.os/\AllBare s'.gens) s₁:=by
  intro H hO hS hok hA hK;have base_of:∀{b:Addr}{o:Obj},s₁.heap.get? b=some o->H b=none->(d7p s₁.heap H).get? b=some o:=λe n=>d7o e n;have noA:∀{b:Addr}{o:Obj}{es:Array DictEntry}{ep:Nat},s₁.heap.get? b=some o->o.data=.dict es ep->H b=none:=λ{b o es ep} e d=>by
   cases q:H b with
   | none=>rfl
   | some u=>
    have e':b=a:=hA b (by rw[q];simp)
    subst e';rw[ha] at e;cases e;have d':Data.seq vs.toArray _=Data.dict es ep:=d;cases d'
  have nsK:∀{b:Addr}{m:Str->Option Value},s₁.heap.Ns b m->(d7p s₁.heap H).Ns b m:=λ{b m} ⟨o,es,ep,e,d,r⟩=>⟨o,es,ep,base_of e (noA e d),d,r⟩;have hKb:K.In (d7p s₁.heap H):=λb o e=>base_of (KX b o e) (by
   cases q:H b with
   | none=>rfl
   | some u=>
    have e':b=a:=hA b (by rw[q];simp)
    subst e';rw[hK (by rw[q];simp)] at e;cases e)
  have hM:Mod K mg (d7p s₁.heap H):=⟨hKb,nsK hns,⟨mb,nsK hb,hbb⟩,let ⟨mc,h1,h2⟩:=hlim;⟨mc,nsK h1,h2⟩⟩
  have e0:Env0 P w K mg (d7p s₁.heap H) callerA [] s₁ H:=⟨rfl,hM,λb o e=>e0w e,Nat.le_of_eq (d4o _ _),trivial,λb hb=>absurd (show b∈([]:List Addr) from hb) (by simp),hok,.of_eq hg⟩
  refine codeAny_mono ((F _ hKb (nsK hns)).run callerA [] s₁ H ⟨[.ref a],[]⟩ [.ref a] [.ref a] _ _ hr e0 (hbind s₁ (.ref a)) (.cons rfl .nil) (hsp H hO hS)) λr s' h=>?_;cases r with
  | error e=>exact(hCX H e s' h).elim
  | ok fl=>
   cases fl with
   | next=>exact False.elim h
   | brk=>exact False.elim h
   | cont=>exact False.elim h
   | ret u=>
    obtain⟨v,H',os,bare,un,hok',r',q⟩:=h;have q':v=.bl true:=q;subst q';obtain rfl:u=Value.bool true:=r';refine⟨rfl,OldK.of_keep λb o e=>?_,os,bare⟩;cases q:H b with
    | none=>exact un.keep b o e q (by intro z;exact absurd (show b∈([]:List Addr) from z) (by simp)) (by simp)
    | some u=>
     rcases hO b with z|⟨ob,xs,z⟩
     ·rw[q] at z;cases z
     ·have z2:=un.frzs b ob _ z
      obtain⟨e1,_⟩:=hok b _ z;obtain⟨e2,_⟩:=hok' b _ z2;rw[e] at e1;cases e1;exact e2
 cases hk:K.lookup a with
 | some o=>
  have e:=KX a o hk;rw[ha] at e;cases e;refine core (λ_=>none) (λ_=>.inl rfl) (.inr ⟨_,vs.toArray,_,hk,rfl,rfl,rfl,by rw[List.size_toArray,lenV];exact hl,by simpa using rv⟩) (λb u z=>by have z':(none:Option HO)=some u:=z;cases z') (λb z=>absurd rfl z) λz=>absurd rfl z
 | none=>
  refine core (λb=>if b=a then some (.frz { cls:=.type "list",data:=.seq vs.toArray } (.lst ↑81)) else none) (λb=>?_) (.inl (.inr ⟨{ cls:=.type "list",data:=.seq vs.toArray },if_pos rfl⟩)) (λb u z=>?_) (λb z=>?_) λ_=>hk
  ·by_cases hb:b=a
   ·exact .inr ⟨_,_,if_pos hb⟩
   ·exact .inl (if_neg hb)
  ·by_cases hb:b=a
   ·have z':=(if_pos hb).symm.trans z
    cases z';subst hb;exact⟨ha,by rw[List.length_map];exact hl,vs,_,rv,ha⟩
   ·have z':=(if_neg hb).symm.trans z
    cases z'
  ·by_cases hb:b=a
   ·exact hb
   ·exact absurd (if_neg hb) z
theorem walk_of{l:PySem.W.OpenLaw}{n k:Nat}{q:Program}{loose:List Str}{XP:(Str->Option Value)->Heap->Prop}{YP:World->Heap->Prop}{d:DefRec}{K:Params->Frag}{CX:World->CXT}{sp:World->Sp}{x:Str}(hn:l.most=some n)(hn2:n<=sizeLine)(hdf:d.params.defaults=[])(hr:Room k callerA)(hY:∀(w:World) (h:Heap),YP w h->(K w.params).In h)(F:∀(w:World) (mg:↑67) (fa:Addr) (h:Heap),(K w.params).In h->h.Ns mainGlobals mg->mg d.name=some (.ref fa) ->
   ∃fd:FuncData,(∀(s:Shared) (u:Value),BindsTo s fd ⟨[u],[]⟩ [(x,u)]) /\
    ∀base:Heap,(K w.params).In base->base.Ns mainGlobals mg->FnOk l.prog w (K w.params) mg base (CX w) k fa fd [x] (sp w))(hsp:∀(w:World) (H:Hp) (a:Addr) (ns:List Int),ns.length<=n->e8a H->SqL (K w.params) H a ↑81->sp w [.ref a] H (λv _=>v=.bl true) λ_ _ _=>False)(hCX:∀(w:World) (H:Hp) (s:Shared) (e:Value) (s':Shared),CX w [] H s (λ_ _ _=>False) e s'->False):
  PySem.W.WalkO q loose XP YP l.row.toRowW d [] (λf vs=>PySem.call f vs):=by
 refine Att.attach_call hn hdf λw s₀ s₁ mg mb fa o pm cd doc a vs ns G Y ho hd hcd hmg hobj hints hlen hg=>?_;have KX:=hY w _ Y;obtain⟨fd,hb,hF⟩:=F w mg fa _ KX G.T.g hmg;exact d7h KX G.T.g G.T.b G.T.builtins G.T.nolimit hg hobj hints (Nat.le_trans hlen hn2) hr hF hb (λH hO hS=>hsp w H a ns hlen hO hS) λH e s'=>hCX w H s₁ e s'
noncomputable def a1o(s:Stmt):Arguments:=match s with
 | .FunctionDef _ a _ _ _ _ _ _ _ _=>a
 | _=>{ posonlyargs:=[],args:=[],vararg:=none,kwonlyargs:=[],kw_defaults:=[],kwarg:=none,defaults:=[] }
noncomputable def c9b(s:Stmt):List Stmt:=match s with
 | .FunctionDef _ _ b _ _ _ _ _ _ _=>b
 | _=>[]
noncomputable def g9(s:Stmt):Scope:=match s with
 | .FunctionDef _ _ _ _ _ _ sc _ _ _=>sc
 | _=>{ kind:=.function,names:=[],isGenerator:=false,isCoroutine:=false }
abbrev E0:XK:=λ_ _ _=>False
structure Fun(K:↑29)(x qual:Str)(st:Stmt)(f:Addr)(fd:FuncData):Prop where
 ex:∃(oc:Value)(od:Option Addr)(kV doc pm:Value)(an:Option Addr)(cdv ct:Value)(osl:Array (Option Value)),
  fd=PySem.W.fnOf x qual (a1o st) ↑125 ↑89 .none kV doc pm an cdv ct/\K.lookup f=some ⟨oc,od,.func fd,osl⟩/\codeIn K cdv qual=true
 kp:keepIn K (.ref f)=true
section
variable{P:Program}{w:World}{K:Frag}{mg:Str->Option Value}{base:Heap}
theorem Fun.binds{x qual:Str}{st:Stmt}{f:Addr}{fd:FuncData}{ps:List Str}(F:Fun K x qual st f fd)(h:∀(kV doc pm:Value) (an:Option Addr) (cdv ct:Value) (us:List Value),us.length=ps.length->bindArgs (PySem.W.fnOf x qual (a1o st) ↑125 ↑89 .none kV doc pm an cdv ct) ⟨us,[]⟩=pure (ps.zip us)):Binds K fd ps []:=by
 obtain⟨oc,od,kV,doc,pm,an,cdv,ct,osl,rfl,lk,hcd⟩:=F.ex;exact .all (h kV doc pm an cdv ct)
theorem d0g{x qual:Str}{st:Stmt}{f:Addr}{oc:Value}{od an:Option Addr}{osl:Array (Option Value)}{kV doc pm cdv ct:Value}(l:K.lookup f=some ⟨oc,od,.func (PySem.W.fnOf x qual (a1o st) ↑125 ↑89 .none kV doc pm an cdv ct),osl⟩)(c:codeIn K cdv qual=true)(k:↑98):Fun K x qual st f (PySem.W.fnOf x qual (a1o st) ↑125 ↑89 .none kV doc pm an cdv ct):=⟨⟨oc,od,kV,doc,pm,an,cdv,ct,osl,rfl,l,c⟩,k⟩
end
section
variable{X:Cx}
theorem pv(i:Nat){x:Str}{pos:Pos}(hN:autoParam (X.N[i]?=some x) q4)(hv:autoParam (Vis X.env.scope x) q5)(hd:autoParam (↑33=false) q2)(hcd:autoParam ((x == ("__classdict__":Str))=false) q2):PE X (.Name x pos) (e5u i):=d8r hN hv hd hcd
end
theorem e4j{A B:Prop}(h:B):if false=true then A else B:=by
 rw[if_neg Bool.false_ne_true];exact h
theorem e6c{A B:Prop}(h:A):if true=true then A else B:=by
 rw[if_pos rfl];exact h
theorem b2p{c A B:Prop}[Decidable c](h1:c->A)(h2:¬ c->B):if c then A else B:=by
 by_cases h:c
 ·rw[if_pos h]
  exact h1 h
 ·rw[if_neg h]
  exact h2 h
def Same(H H':Hp):Prop:=∀b o,H b=some o->H' b=some o
theorem Same.refl(H:Hp):Same H H:=λ_ _ h=>h
theorem Same.trans{H H1 H2:Hp}(a:Same H H1)(b:Same H1 H2):Same H H2:=λc o h=>b c o (a c o h)
theorem Same.free{H H':Hp}(e:Same H H'){l:Addr}(h:H' l=Option.none):H l=Option.none:=by
 cases q:H l with
 | none=>rfl
 | some o=>
  rw[e l o q] at h;cases h
theorem Same.seq{K:Frag}{H H':Hp}{a:Addr}{xs:List V}(e:Same H H')(h:SqL K H a xs):SqL K H' a xs:=by
 rcases h with (h|⟨o,h⟩)|h
 ·exact .inl (.inl (e _ _ h))
 ·exact .inl (.inr ⟨o,e _ _ h⟩)
 ·exact .inr h
theorem b8x{P:Program}{w:World}{H:Hp}{h h':Heap}(x:HOk P w H h)(k:∀b o u,H b=some o->h.get? b=some u->h'.get? b=some u):HOk P w H h' :=
 λb u e=>(x b u e).stay (λc v hc q=>by
  rcases hc with z|z
  ·subst z;exact k _ _ _ e q
  ·exact k _ _ _ z q) (λ_ q=>q) λ_ _ q=>q
structure d5v(B:Heap)(l:List Env)(H H':Hp)(h:Heap):Prop where
 tr:∀b o,H' b=some o->∃ob,B.get? b=some ob
 un:∀b o,h.get? b=some o->H b=none->b ∉ frs l->B.get? b=some o
 th:∀b o,h.get? b=some o->b ∉ frs l->∃ob,B.get? b=some ob
structure Fly(P:Program)(w:World)(l:List Env)(H H':Hp)(s s':Shared)(a:Addr)(C:Value):Prop where
 os:s'.os=s.os
 bare:AllBare s'.gens
 un:Un (frs l) [] H H' s.heap s'.heap
 hok:HOk P w H' s'.heap
 fl:∃(B:Heap)(a0:Value),Heap.FlyingW B l a C a0 s'.heap/\d5v B l H H' s.heap
noncomputable def CXK(P:Program)(w:World):CXT:=λouter H s E e s'=>∃(a:Addr)(C:Value)(H':Hp),e=.ref a/\Fly P w outer H H' s s' a C/\E C none H'
theorem e6j{l:List Env}{H H':Hp}{h h' h'' B:Heap}{a:Addr}{C a0:Value}(u:Un (frs l) [] H H' h h')(fl:Heap.FlyingW B l a C a0 h')(k:d5v B l H H' h)(st:B.StaysIn h'')(up:h'.UpToSlots h''):Un (frs l) [] H H' h h'' where
 keep:=λb o q n hb _=>st b o (k.un b o q n hb)
 slot:=λb o q n hb hx=>by
  obtain⟨sl,e1⟩:=u.slot b o q n hb hx;obtain⟨_,o',ho',hd⟩:=fl.2.2.1.mem hb;rw[e1] at ho';cases ho';obtain⟨sl',e2⟩:=up b _ e1 hd;exact⟨sl',e2⟩
 free:=u.free
 there:=λb o q hx=>by
  by_cases hb:b∈frs l
  ·obtain⟨_,o',ho',hd⟩:=fl.2.2.1.mem hb
   obtain⟨sl',e2⟩:=up b _ ho' hd;exact⟨_,e2⟩
  ·obtain⟨ob,e⟩:=k.th b o q hb
   exact⟨ob,st b ob e⟩
 tups:=u.tups
 frzs:=u.frzs
 tbls:=u.tbls
theorem e4o{P:Program}{w:World}{l:List Env}{H H':Hp}{h h' h'' B:Heap}{a:Addr}{C a0:Value}(x:HOk P w H' h')(fl:Heap.FlyingW B l a C a0 h')(k:d5v B l H H' h)(st:B.StaysIn h''):HOk P w H' h'' :=
 b8x x λb o u e q=>by
  obtain⟨ob,e1⟩:=k.tr b o e;have e2:=fl.1 b ob e1;rw[q] at e2;cases e2;exact st b _ e1
section
variable{X:Cx}{pins:List ↑26}{σ:St}{H H':Hp}{s:Shared}{h' h'' B:Heap}{a:Addr}{C a0:Value}
theorem Inv.left(I:↑13)(hex:X.ex=[])(hst:X.stack=X.env::X.outer)(u:Un (frs X.stack) [] H H' s.heap h')(fl:Heap.FlyingW B X.stack a C a0 h')(k:d5v B X.stack H H' s.heap)(st:B.StaysIn h'')(up:h'.UpToSlots h''):Un X.fs [] X.H₀ H' X.s₀.heap h''/\d5v B X.outer X.H₀ H' X.s₀.heap:=by
 have u2:=e6j u fl k st up;have nx:∀b:Addr,b ∉ X.ex:=λb z=>by rw[hex] at z;cases z
 have sub:∀b o,X.s₀.heap.get? b=some o->b ∉ X.fs->b ∉ frs X.stack:=λb o e hb z=>by
  rcases List.mem_cons.mp (I.stkSub b z) with y|y
  ·exact absurd (Nat.lt_of_lt_of_le ↑122 I.ok.above) (by rw[y];exact Nat.lt_irrefl _)
  ·exact hb y
 have infs:∀b,b∈X.fs->b∈frs X.stack:=λb hb=>by
  rw[hst];obtain⟨env,he,hf⟩:=List.mem_filterMap.mp hb;exact List.mem_filterMap.mpr ⟨env,List.mem_cons_of_mem _ he,hf⟩
 refine⟨⟨λb o q n hb _=>?_,λb o q n hb _=>?_,λb o q n _=>?_,λb o q _=>?_,λb xs q=>u2.tups b xs (I.base.tups b xs q),λb o xs q=>u2.frzs b o xs (I.base.frzs b o xs q),λb ps q=>?_⟩,⟨k.tr,λb o q n hb=>?_,λb o q hb=>?_⟩⟩
 ·exact u2.keep b o (I.base.keep b o q n hb (nx b)) (I.base.free b o q n (nx b)) (sub b o q hb) (by simp)
 ·obtain⟨sl,e1⟩:=I.base.slot b o q n hb (nx b)
  obtain⟨sl',e2⟩:=u2.slot b _ e1 (I.base.free b o q n (nx b)) (infs b hb) (by simp)
  exact⟨sl',e2⟩
 ·obtain⟨o',e1⟩:=I.base.there b o q (nx b)
  exact u2.free b o' e1 (I.base.free b o q n (nx b)) (by simp)
 ·obtain⟨o',e1⟩:=I.base.there b o q (nx b)
  exact u2.there b o' e1 (by simp)
 ·obtain⟨m1,e1⟩:=I.base.tbls b ps q
  obtain⟨m2,e2⟩:=u2.tbls b _ e1;exact⟨m1++m2,by rw[e2,Array.append_assoc]⟩
 ·exact k.un b o (I.base.keep b o q n hb (nx b)) (I.base.free b o q n (nx b)) (sub b o q hb)
 ·obtain⟨o',e1⟩:=I.base.there b o q (nx b)
  exact k.th b o' e1 (sub b o q hb)
end
section
variable{P:Program}{w:World}{K:Frag}{mg:Str->Option Value}{base:Heap}{N:List Str}{qual:Str}{scope:Scope}{f:Addr}{cd:Value}{A:Around}{outer:List Env}{s₀:Shared}{H₀:Hp}{E₀:XK}
theorem j4:b0u (CXK P w) (c9d (CXK P w) P w K mg base N qual scope f cd A outer s₀ H₀ E₀) E₀:=by
 intro pins σ H s e s' I h;obtain⟨a,C,H',rfl,F,q⟩:=h;obtain⟨B,a0,fl,k⟩:=F.fl;refine wpAny_leaves_onW (base:=B) I.ok.frames rfl fl λh'' x1 x2=>?_;obtain⟨u,k'⟩:=I.left rfl rfl F.un fl k x1.1 x2;exact⟨a,C,H',rfl,⟨F.os.trans I.os,F.bare,u,e4o F.hok fl k x1.1,⟨B,a0,x1,k'⟩⟩,q⟩
theorem a5o:PassesOwn (model (c9d (CXK P w) P w K mg base N qual scope f cd A outer s₀ H₀ E₀).prog (c9d (CXK P w) P w K mg base N qual scope f cd A outer s₀ H₀ E₀).w) (c9d (CXK P w) P w K mg base N qual scope f cd A outer s₀ H₀ E₀).A (c9d (CXK P w) P w K mg base N qual scope f cd A outer s₀ H₀ E₀).env (c9d (CXK P w) P w K mg base N qual scope f cd A outer s₀ H₀ E₀).xe:=PassesOwn.leaving
end
noncomputable abbrev e9b:List Value:=[.type "ValueError",.type "Exception",.type "BaseException",.type "object"]
def f0a(K:↑29)(C:Addr):Prop:=excIn K C e9b "ValueError.__new__" = true
noncomputable def e8x(a:Addr)(C:Value):HO:=.ext λh=>∃o,h.get? a=some o/\o.cls=C
open Builtin Builtin.ObjectAttr Builtin.Getset_descriptor
structure ExK(K:↑29)(C:Addr):Prop where
 ex:f0a K C
 ga:findIn K (.ref C) "__getattribute__" = some (some (.builtin "BaseException.__getattribute__"))
 gn:findIn K (.ref C) "__getattr__" = some none
 cl:findIn K (.ref C) "__class__" = some (some ↑82)
 mb:mroIn K C (.type "BaseException")=some true
 mo:mroIn K C (.type "object")=some true
 ic:(clsIn K C).isSome=true
 sg:specialIn K ↑82 "__get__" = some (some ↑78)
 tk:PySem.W.takesIn K ↑82=some true
section
variable{prog:Program}{w:World}{A:Around}{E:Value->Shared->Prop}{R:Result->Shared->Prop}{K:Frag}{C x:Addr}{s:Shared}
theorem e2j(X:K.In s.heap)(L0:↑137)(hm:mroIn K C (.type "object")=some true)(h:R (.ok (.ret (.ref C))) s):
  codeAny ↑56 A (.call ↑78 ⟨[.builtin "object.__class__",.ref x,.ref C],[]⟩) R s:=by
 obtain⟨hh,g,dr,t,os⟩:=s;have L1:=PySem.W.looks_mroIn (M:=model prog w) X hm;have pl:=PySem.W.KF.slot_gs.plain;refine codeAny_call_builtin pl PySem.W.KF.entry_gs (PySem.W.KF.slot_gs.check _ _ _ _ _ _ _ _ PySem.W.KF.type_class (PySem.W.KF.args_gs _ _ _) ?_);unfold Builtin.«getset_descriptor.__get__» descrGet;rw[PySem.W.dga_obj];refine wpAny_bind (wpAny_pure ?_);unfold descrGetter descrCheckInstance descrNameAndClass isInstance;simp only[PySem.W.KF.owner_class]
 repeat lk
 refine⟨Code.quiet_builtin _ (by decide +kernel),codeAny_builtin PySem.W.KF.entry_class ?_⟩
 unfold Builtin.«object.__class__» shownTypeOf
 repeat lk
 exact h
theorem d9i(X:K.In s.heap)(k:ExK K C):PySem.W.Looks ↑56 s.heap (find (.ref x) (.ref C) "__class__") (.bind ↑78 ↑82):=by
 have L1:=PySem.W.looks_findIn (M:=model prog w) X k.cl;have L2:PySem.W.Looks ↑56 s.heap (getOf (some ↑82)) (some ↑78):=PySem.W.looks_specialIn X k.sg;have L3:=PySem.W.looks_takesIn (M:=model prog w) X k.tk;refine L1.andThen (L2.andThen ?_);have L4:PySem.W.Looks ↑56 s.heap (dataDescriptor? (some ↑82) (some ↑78)) (some (.builtin "getset_descriptor.__get__",.builtin "object.__class__")):=L3.andThen .now;exact L4.andThen (PySem.W.Looks.tag .now)
theorem d5z{tk:Tok}{Q:Fin->Shared->Prop}(X:K.In s.heap)(k:ExK K C)(L0:↑137)(h:Q (.done (.ret (.ref C))) s):
  wpAny ↑56 A (Builtin.«object.__getattribute__» ⟨[.ref x,.str "__class__" tk],[]⟩) Q E s:=by
 obtain⟨hh,g,dr,t,os⟩:=s;have L1:=d9i (prog:=prog) (w:=w) (x:=x) X k;unfold Builtin.«object.__getattribute__» slotArgs attrName
 repeat lk
 show wpAny _ _ (run (.call ↑78 ⟨[.builtin "object.__class__",.ref x,.ref C],[]⟩) none) _ _ _;refine wpAny_run (A:=A) (e2j X L0 k.mo ?_);show wpAny _ _ (pure (Value.ref C)) _ _ _;exact wpAny_pure (wpAny_pure h)
theorem d6a{nameV:Value}{Q:Unit->Shared->Prop}(X:K.In s.heap)(k:ExK K C)(L0:↑137)(h:Q () s):
  wpAny ↑56 A (checkBuiltinCall "BaseException.__getattribute__" ⟨[.ref x,nameV],[]⟩) Q E s:=by
 obtain⟨hh,g,dr,t,os⟩:=s;have e1:builtinKind "BaseException.__getattribute__" = some .slot:=by decide +kernel
 have e2:splitId "BaseException.__getattribute__" = some ("BaseException","__getattribute__"):=by decide +kernel
 have L1:=PySem.W.looks_mroIn (M:=model prog w) X k.mb;have hz:=F.args_bexc_ga (.ref x) nameV;have L2:PySem.W.Looks ↑56 hh (isInstance (.ref x) (.type "BaseException")) true:=L0.andThen L1;simp only[checkBuiltinCall,e1,e2];refine wpAny_bind (L2.at ?_)
 repeat (first|assumption|wp_step)
 all_goals exact h
theorem e6i{tk:Tok}{fill:Bool}{Q:Value->Shared->Prop}(X:K.In s.heap)(k:ExK K C)(L0:↑137)(h:Q (.ref C) s):
  wpAny ↑56 A (getAttrBy (.ref x) (.str "__class__" tk) fill) Q E s:=by
 obtain⟨hh,g,dr,t,os⟩:=s;have L1:=PySem.W.looks_findIn (M:=model prog w) X k.ga;have L2:=PySem.W.looks_findIn (M:=model prog w) X k.gn;have hb:=F.attr_ValueError.ga.bind (.ref x);unfold getAttrBy;refine wpAny_holding (wpAny_bind (L0.at (wpAny_bind (L1.at ?_))));dsimp only;have ne:(Value.builtin "BaseException.__getattribute__" == Value.builtin "object.__getattribute__")=false:=by decide +kernel
 have oh:onTheHeap (Value.ref C)=true:=rfl;rw[ne,Bool.and_false,if_neg Bool.false_ne_true];unfold getAttrByItsOwn hookBefore;rw[if_pos oh];refine wpAny_bind (L2.at (wpAny_bind (wpAny_attempt (wpAny_holding ?_))));unfold callGetattribute;rw[Bool.false_and,if_neg Bool.false_ne_true];unfold boundAndCalled;rw[hb];refine wpAny_bind (wpAny_pure ?_);refine wpAny_call (codeAny_call_builtin F.attr_ValueError.ga.plain F.entry_bexc_ga (d6a X k L0 (d5z X k L0 ?_)));exact wpAny_pure h
theorem d9j{Q:Option Value->Shared->Prop}(X:K.In s.heap)(k:ExK K C)(L0:↑137)(h:Q (some (.ref C)) { s with toks:=s.toks+1 }):
  wpAny ↑56 A (getAttr? (.ref x) "__class__") Q E s:=by
 obtain⟨hh,g,dr,t,os⟩:=s;unfold getAttr? getAttrBy?;exact wpAny_bind (wpAny_mkText (wpAny_bind (wpAny_attempt (e6i X k L0 (wpAny_pure h)))))
end
def ExAt(a C:Addr)(h:Heap):Prop:=∃o,h.get? a=some o/\o.cls=.ref C
theorem ExAt.ty{a C:Addr}{h:Heap}(M:Model)(p:ExAt a C h):PySem.W.Looks M h (typeOf (.ref a)) (.ref C):=by
 obtain⟨o,h1,h2⟩:=p;exact h2 ▸ (PySem.W.Looks.ld h1).andThen .now
theorem d7j{K:Frag}{a C:Addr}(k:ExK K C):PySem.W.KitX K (.ref a) (.ref C) (ExAt a C) where
 ty:=λM h _ p=>p.ty M
 it:=λM h X _=>by
  obtain⟨cd,hc⟩:=Option.isSome_iff_exists.mp k.ic;unfold clsIn at hc;split at hc
  case h_2=>cases hc
  case h_1 c' d' cd' sl' ho=>
   intro A' Q' E' s' kk q;unfold isType loadHead;exact wpAny_bind (wpAny_loadPart (kk _ _ (X _ _ ho)) (wpAny_pure q))
 ne:=λh tp dd its n sl X htp=>by
  obtain⟨cd,hc⟩:=Option.isSome_iff_exists.mp k.ic;cases hb:(Value.ref C == Value.ref tp) with
  | false=>rfl
  | true=>
   have e:C=tp:=Value.ref.inj (beq_iff_eq.mp hb);subst e;unfold clsIn at hc;split at hc
   case h_2=>cases hc
   case h_1 c' d' cd' sl' ho=>
    have z:=(X _ _ ho).symm.trans htp;cases z
 ca:=λX p h=>d9j X k (p.ty _) h
inductive TyX(K:↑29)(H:Hp):V->Value->Prop where
 | ty {x:V} {t:Value} (h:d2f K H x t):TyX K H x t
 | exc {a C:Addr} (e:H a=some (e8x a (.ref C))) (k:ExK K C):TyX K H (.ref a) (.ref C)
noncomputable def e6d:V->Option Value
 | .ref a=>some (.ref a)
 | .ty n=>some (.type n)
 | _=>none
theorem d8i{c:V}{cv u:Value}(h:e6d c=some cv)(r:RelV c u):u=cv:=by
 cases c with
 | ref a=>cases h;exact r
 | ty n=>cases h;exact r
 | _=>cases h
section
variable{X:Cx}
theorem d8j:b2r X (.builtin "isinstance") (λxs H Q=>∃x c t cv b,xs=[x,c]/\TyX X.K H x t/\e6d c=some cv/\kitOne X.K t cv=some b/\Q (.bl b) H):=by
 intro pins s σ H xs us Q I r h;obtain⟨x,c,t,cv,b,rfl,ty,hc,hk,q⟩:=h;obtain⟨u,us',rfl,rx,r2⟩:∃u us',us=u::us'/\RelV x u/\Vals [c] us':=by cases r with|cons a b=>exact⟨_,_,rfl,a,b⟩
 obtain⟨v,rfl,rc⟩:∃v,us'=[v]/\RelV c v:=by cases r2 with|cons a b=>cases b;exact⟨_,rfl,a⟩
 have e:=d8i hc rc;subst e;cases ty with
 | ty ty=>exact d4l I rx ty hk λtk=>⟨.bl b,H,I.tok tk,rfl,q⟩
 | @exc a C ea k=>
  cases (show u=Value.ref a from rx);obtain⟨p,_⟩:=(show ObjOk X.prog X.w H s.heap a (e8x a (.ref C)) from I.hok a _ ea);exact kia_one (d7j k) I.kIn p hk ↑123 λtk=>⟨.bl b,H,I.tok tk,rfl,q⟩
end
inductive EqD(K:↑29)(H:Hp):Nat->V->V->Bool->Prop where
 | flat {n:Nat} {x y:V} (fx:a5b x=true) (fy:a5b y=true):EqD K H n x y (eqV x y)
 | lst {n:Nat} {p q:Addr} {xs ys:List V} {e:Nat->Bool} (ne:p≠q) (hp:SqL K H p xs) (hq:SqL K H q ys) (hl:xs.length=ys.length)
   (h:∀(j:Nat)(x y:V),xs[j]?=some x->ys[j]?=some y->EqD K H n x y (e j)):EqD K H (n+1) (.ref p) (.ref q) ((List.range xs.length).all e)
 | lstN {n:Nat} {p q:Addr} {xs ys:List V} (ne:p≠q) (hp:SqL K H p xs) (hq:SqL K H q ys) (hl:xs.length≠ys.length):EqD K H (n+1) (.ref p) (.ref q) false
 | tup {n:Nat} {p q:Addr} {xs ys:List V} {e:Nat->Bool} (ne:p≠q) (hp:SqT K H p xs) (hq:SqT K H q ys)
   (h:∀(j:Nat)(x y:V),xs[j]?=some x->ys[j]?=some y->EqD K H n x y (e j)):EqD K H (n+1) (.ref p) (.ref q) ((List.range (min xs.length ys.length)).all e && xs.length == ys.length)
 | self {n:Nat} {p:Addr} {xs:List V} (hp:SqT K H p xs):EqD K H n (.ref p) (.ref p) true
theorem Vals.at{xs:List V}{us:List Value}(r:Vals xs us){j:Nat}(h:j<us.toArray.size):∃x,xs[j]?=some x/\RelV x us.toArray[j]:=by
 have hl:j<xs.length:=by rw[r.length];simpa using h
 obtain⟨u,e,q⟩:=r.get (List.getElem?_eq_getElem hl);refine⟨xs[j],List.getElem?_eq_getElem hl,?_⟩;have:us.toArray[j]=u:=by
  simp only[List.getElem_toArray];have:=List.getElem?_eq_some_iff.mp e;exact this.2
 rw[this];exact q
section
variable{X:Cx}{pins:List ↑26}{σ:St}{H:Hp}{s:Shared}
theorem e5q(I:↑13){n:Nat}{x y:V}{b:Bool}(d:EqD X.K H n x y b):∀{A:Around}{u v:Value},RelV x u->RelV y v->A.units+n<cLine->SeqAt.EqAt A s u v b:=by
 induction d with
 | flat fx fy=>intro A u v rx ry hu;exact d9d rx ry fx fy
 | @lst n p q xs ys e ne hp hq hl h ih=>
  intro A u v rx ry hu;cases rx;cases ry;obtain⟨i1,r1,p1,z1⟩:=I.list hp;obtain⟨i2,r2,p2,z2⟩:=I.list hq;fail "an";rw[show xs.length=i1.toArray.size by simpa using e1]
  refine SeqAt.EqAt.of_refs ne (SeqAt.RcAt.lists p1.isList p2.isList (by simp only[List.size_toArray];lia) ↑2 λj h1 h2=>?_)
  obtain⟨a,ea,ra⟩:=r1.at h1;obtain⟨c,ec,rc⟩:=r2.at h2;exact ih j a c ea ec ra rc (by show A.units+1+n<cLine;lia)
 | @lstN n p q xs ys ne hp hq hl=>
  intro A u v rx ry hu;cases rx;cases ry;obtain⟨i1,r1,p1,z1⟩:=I.list hp;obtain⟨i2,r2,p2,z2⟩:=I.list hq;fail "an";exact SeqAt.EqAt.of_refs ne (SeqAt.RcAt.lists_lengths p1.isList p2.isList (by simp only[List.size_toArray,bne_iff_ne];lia) ↑2)
 | @tup n p q xs ys e ne hp hq h ih=>
  intro A u v rx ry hu;cases rx;cases ry;obtain⟨i1,r1,p1,z1⟩:=I.tuple hp;obtain⟨i2,r2,p2,z2⟩:=I.tuple hq;fail "an";rw[show xs.length=i1.toArray.size by simpa using e1,show ys.length=i2.toArray.size by simpa using e2]
  refine SeqAt.EqAt.of_refs ne (SeqAt.RcAt.tuples p1 p2 ↑2 λj h1 h2=>?_);obtain⟨a,ea,ra⟩:=r1.at h1;obtain⟨c,ec,rc⟩:=r2.at h2;exact ih j a c ea ec ra rc (by show A.units+1+n<cLine;lia)
 | self hp=>
  intro A u v rx ry hu;cases rx;cases ry;exact SeqAt.EqAt.same _
theorem d0s(k:Nat):((List.range (min k k)).all (λ_=>true) && k == k)=true:=by simp
theorem e3w{n:Nat}(hu:X.A.units+(n+1)<cLine):OpR X (compareOp .Eq) (λx y H Q=>∃p q b,x=.ref p/\y=.ref q/\EqD X.K H (n+1) x y b/\Q (.bl b) H):=by
 fail "ac";obtain⟨p,q,b,rfl,rfl,d,hq⟩:=h;cases rx;cases ry;cases d with
 | flat fx fy=>cases fx
 | @lst _ _ _ xs ys e ne h1 h2 hl h=>
  obtain⟨i1,r1,p1,z1⟩:=I.list h1;obtain⟨i2,r2,p2,z2⟩:=I.list h2;fail "an";rw[show xs.length=i1.toArray.size by simpa using e1] at hq
  refine SeqAt.RcAt.lists p1.isList p2.isList (by simp only[List.size_toArray];lia) ↑2 (λj h1 h2=>?_) _ _ _ _ ⟨.bl _,H,I,rfl,hq⟩
  fail "aa"
 | @lstN _ _ _ xs ys ne h1 h2 hl=>
  obtain⟨i1,r1,p1,z1⟩:=I.list h1;obtain⟨i2,r2,p2,z2⟩:=I.list h2;fail "an";exact SeqAt.RcAt.lists_lengths p1.isList p2.isList (by simp only[List.size_toArray,bne_iff_ne];lia) ↑2 _ _ _ _ ⟨.bl _,H,I,rfl,hq⟩
 | @tup _ _ _ xs ys e ne h1 h2 h=>
  obtain⟨i1,r1,p1,z1⟩:=I.tuple h1;obtain⟨i2,r2,p2,z2⟩:=I.tuple h2;fail "an";rw[show xs.length=i1.toArray.size by simpa using e1,show ys.length=i2.toArray.size by simpa using e2] at hq
  refine SeqAt.RcAt.tuples p1 p2 ↑2 (λj h1 h2=>?_) _ _ _ _ ⟨.bl _,H,I,rfl,hq⟩;fail "aa"
 | @self _ _ xs hp=>
  obtain⟨i1,r1,p1,z1⟩:=I.tuple hp;rw[<- d0s i1.toArray.size] at hq;exact SeqAt.RcAt.tuples p1 p1 ↑2 (λj h1 h2=>SeqAt.EqAt.same _) _ _ _ _ ⟨.bl _,H,I,rfl,hq⟩
theorem e3t{n:Nat}(hu:X.A.units+(n+1)<cLine):OpR X (compareOp .NotEq) (λx y H Q=>∃p q b,x=.ref p/\y=.ref q/\EqD X.K H (n+1) x y b/\Q (.bl (!b)) H):=by
 fail "ac";obtain⟨p,q,b,rfl,rfl,d,hq⟩:=h;cases rx;cases ry;cases d with
 | flat fx fy=>cases fx
 | @lst _ _ _ xs ys e ne h1 h2 hl h=>
  obtain⟨i1,r1,p1,z1⟩:=I.list h1;obtain⟨i2,r2,p2,z2⟩:=I.list h2;fail "an";rw[show xs.length=i1.toArray.size by simpa using e1] at hq
  refine SeqAt.RcNeAt.lists p1.isList p2.isList (by simp only[List.size_toArray];lia) ↑2 (λj h1 h2=>?_) _ _ _ _ ⟨.bl _,H,I,rfl,hq⟩
  fail "aa"
 | @lstN _ _ _ xs ys ne h1 h2 hl=>
  obtain⟨i1,r1,p1,z1⟩:=I.list h1;obtain⟨i2,r2,p2,z2⟩:=I.list h2;fail "an";exact SeqAt.RcNeAt.lists_lengths p1.isList p2.isList (by simp only[List.size_toArray,bne_iff_ne];lia) ↑2 _ _ _ _ ⟨.bl _,H,I,rfl,hq⟩
 | @tup _ _ _ xs ys e ne h1 h2 h=>
  obtain⟨i1,r1,p1,z1⟩:=I.tuple h1;obtain⟨i2,r2,p2,z2⟩:=I.tuple h2;fail "an";rw[show xs.length=i1.toArray.size by simpa using e1,show ys.length=i2.toArray.size by simpa using e2] at hq
  refine SeqAt.RcNeAt.tuples p1 p2 ↑2 (λj h1 h2=>?_) _ _ _ _ ⟨.bl _,H,I,rfl,hq⟩;fail "aa"
 | @self _ _ xs hp=>
  obtain⟨i1,r1,p1,z1⟩:=I.tuple hp;rw[<- d0s i1.toArray.size] at hq;exact SeqAt.RcNeAt.tuples p1 p1 ↑2 (λj h1 h2=>SeqAt.EqAt.same _) _ _ _ _ ⟨.bl _,H,I,rfl,hq⟩
end
noncomputable def eqL:List V->List V->Bool
 | [],[]=>true
 | x::xs,y::ys=>eqV x y && eqL xs ys
 | _,_=>false
theorem d5d:∀{xs ys:List V},xs.length≠ys.length->eqL xs ys=false
 | [],[],h=>absurd rfl h
 | [],_::_,_=>rfl
 | _::_,[],_=>rfl
 | x::xs,y::ys,h=>by
  show(eqV x y && eqL xs ys)=false;rw[d5d (λe=>h (by simp[e])),Bool.and_false]
theorem b9o(e:Nat->Bool)(n:Nat):(List.range (n+1)).all e=(e 0 && (List.range n).all λj=>e (j+1)):=by
 rw[List.range_succ_eq_map,List.all_cons,List.all_map]
 rfl
theorem c6s:∀{xs ys:List V},xs.length=ys.length->(List.range xs.length).all (λj=>eqV (xs.getD j .non) (ys.getD j .non))=eqL xs ys
 | [],[],_=>rfl
 | [],_::_,h=>by cases h
 | _::_,[],h=>by cases h
 | x::xs,y::ys,h=>by
  have h':xs.length=ys.length:=by simpa using h
  rw[List.length_cons,b9o];have e:=c6s h';simp only[List.getD_cons_zero,List.getD_cons_succ];rw[e]
  rfl
theorem d8d{K:Frag}{H:Hp}{p q:Addr}{xs ys:List V}(ne:p≠q)(hp:SqL K H p xs)(hq:SqL K H q ys)(fx:xs.all a5b=true)(fy:ys.all a5b=true):EqD K H 1 (.ref p) (.ref q) (eqL xs ys):=by
 by_cases h:xs.length=ys.length
 ·rw[<- c6s h]
  refine EqD.lst ne hp hq h λj x y hx hy=>?_;have e1:xs.getD j .non=x:=by rw[List.getD_eq_getElem?_getD,hx];rfl
  have e2:ys.getD j .non=y:=by rw[List.getD_eq_getElem?_getD,hy];rfl
  show EqD K H 0 x y (eqV (xs.getD j .non) (ys.getD j .non));rw[e1,e2];exact EqD.flat (List.all_eq_true.mp fx x (List.mem_of_getElem? hx)) (List.all_eq_true.mp fy y (List.mem_of_getElem? hy))
 ·rw[d5d h]
  exact EqD.lstN ne hp hq h
theorem d0m:∀(ns ms:List Int),eqL ↑81 (ms.map V.int)=decide (ns=ms)
 | [],[]=>by simp[eqL]
 | [],_::_=>by simp[eqL]
 | _::_,[]=>by simp[eqL]
 | n::ns,m::ms=>by
  show(eqV (.int n) (.int m) && eqL ↑81 (ms.map V.int))=_;rw[d0m ns ms];show((n == m) && decide (ns=ms))=_;by_cases h:n=m
  ·subst h;simp
  ·simp[h]
noncomputable def d5j(X:Cx)(N:List Str)(scope:Scope)(cl:List (Str×Addr))(C:Addr)(s:Shared)(H:Hp)(ex:List Addr)(pn:List ↑26):Cx :=
 { prog:=X.prog,w:=X.w,K:=X.K,mg:=X.mg,base:=X.base,A:=X.A,N:=N,s₀:=s,H₀:=H,env:=compEnvC scope cl C X.env,outer:=X.stack,stack:=X.stack,ex:=ex,fn:=λ_=>false,calm:=X.calm,pn:=pn,xe:=λ_ _=>False }
noncomputable def c0y(nt:Nat)(fr:List Nat)(σ:St):St:=List.replicate nt none++fr.map λj=>(σ[j]?).join
noncomputable def e0a(wi:TI)(nt:Nat)(fr:List Nat)(g:TG)(te:TE):TE:=λσ H Q=>wi σ H λJ H1=>∀D,H1 D=none->∃(n:Nat)(W:↑113),W 0 [] (upd H1 D (.lst [])) /\
 ∀i acc H,W i acc H->H D=some ↑88/\acc.length<sizeLine /\
  ((J.stop i H/\Q (.ref D) H)\/(i<n/\J.go i H/\∀x H',J.yld i H x H'->g x ↑68 H' λσ2 H2=>te σ2 H2 λy H3=>H3 D=some ↑88/\W (i+1) ↑50 (upd H3 D ↑44)))
def c1a(nt:Nat)(g:TG):Prop:=∀(x:V)(σ:St)(H:Hp)(Q:St->Hp->Prop),g x σ H Q->g x σ H λσ2 H2=>(∀j,nt<=j->σ2[j]?=σ[j]?)/\Q σ2 H2
theorem a6d{i nt:Nat}(h:i<nt):c1a nt (d2d i):=λx σ H Q q=>⟨λj hj=>List.getElem?_set_ne ↑2,q⟩
structure CompOk(X:Cx)(N:List Str)(scope:Scope)(cl:List (Str×Addr))(nt:Nat)(fr:List Nat):Prop where
 clos:closureFor scope X.env=pure cl
 kind:scope.kind=.function
 cell:∀y∈scope.names,y.2≠.cell
 names:∀y∈scope.names,y.2=.local->scope.names.lookup y.1=some .local
 sub:∀p∈cl,X.env.cells.lookup p.1=some p.2
 has:((relabel scope X.env).names.all λy=>!(y.2 == .cell || y.2 == .free) || (cl.lookup y.1).isSome)=true
 len:N.length=nt+fr.length
 frn:∀(j i:Nat),fr[j]?=some i->∃x,N[nt+j]?=some x/\X.N[i]?=some x/\(X.env.kindOf x=some .cell\/X.env.kindOf x=some .free)/\((relabel scope X.env).names.lookup x=some .cell\/(relabel scope X.env).names.lookup x=some .free)
section
variable{X:Cx}{pins:List ↑26}{σ:St}{H:Hp}{s:Shared}{N:List Str}{scope:Scope}{cl:List (Str×Addr)}{nt:Nat}{fr:List Nat}
theorem CompOk.cl_at(k:CompOk X N scope cl nt fr){x:Str}{c:Addr}(h:cl.lookup x=some c):X.env.cells.lookup x=some c:=k.sub (x,c) (PySem.mem_of_lookup h)
theorem CompOk.start(k:CompOk X N scope cl nt fr)(I:↑13){C:Addr}{h':Heap}{t':Nat}{ex:List Addr}(hex:∀b∈ex,d5w X pins H b/\b<s.heap.objs.size)(hC:s.heap.objs.size<=C)(hn:h'.Ns C λ_=>none)(hk:∀b o,s.heap.get? b=some o->h'.get? b=some o):
  Inv (d5j X N scope cl C s H ex (X.pn++pins)) [] ↑68 H { s with heap:=h',toks:=t' }:=by
 have ncell:∀x c,cl.lookup x=some c->c<s.heap.objs.size:=λx c e=>by
  obtain⟨v,z⟩:=I.cell x c (k.cl_at e);exact z.lt
 refine⟨⟨I.ok.mod,?_,I.ok.glob,I.ok.blt,hC,λx y c h1 h2=>I.ok.inj x y c (k.cl_at h1) (k.cl_at h2),λx hx=>?_,λx c hf _=>(nomatch hf),I.ok.hd,I.ok.frames,.inl rfl,λb hb=>⟨?_,λx c e=>?_⟩,I.bs,?_,λb o e hb=>?_,λb hb z=>?_,I.stack,I.stkFree⟩,
  rfl,I.bare,Un.kept hk,⟨_,hn,λi x v e1 e2 e3=>?_⟩,λx c e=>?_,I.hok.fresh hC,λx c e=>I.freeC x c (k.cl_at e),λp hp=>?_,I.hok.kept hk,?_⟩
 ·show(relabel scope X.env).kind=.function
  exact k.kind
 ·have hx:(relabel scope X.env).names.lookup x=some .cell\/(relabel scope X.env).names.lookup x=some .free:=hx
  have hall:=List.all_eq_true.mp k.has;rcases hx with hx|hx
  ·have:=hall _ (PySem.mem_of_lookup hx)
   simp only[beq_self_eq_true,Bool.true_or,Bool.not_true,Bool.false_or] at this;exact Option.isSome_iff_exists.mp this
  ·have:=hall _ (PySem.mem_of_lookup hx)
   simp only[beq_self_eq_true,Bool.or_true,Bool.not_true,Bool.false_or] at this;exact Option.isSome_iff_exists.mp this
 ·exact Nat.ne_of_lt (Nat.lt_of_lt_of_le (hex b hb).2 hC)
 ·exact(hex b hb).1.2.2.2.2.1 x c (k.cl_at e)
 ·exact Nat.le_trans I.ok.bsz I.sz
 ·obtain⟨_,_,_,h4,_⟩:=(hex b hb).1
  have hs:=(I.ok.bs b o e).1;rcases h4 with z|z
  ·exact I.ok.noex b o e z
  ·exact absurd (Nat.lt_of_lt_of_le (Heap.lt_size hs) z) (Nat.lt_irrefl _)
 ·rcases List.mem_cons.mp (I.stkSub b z) with y|y
  ·exact(hex b hb).1.2.1 y
  ·exact(hex b hb).1.2.2.1 y
 ·have hi:¬ i<nt:=λhi=>by
   unfold c0y at e2;rw[List.getElem?_append_left (by simpa using hi),List.getElem?_replicate] at e2
   split at e2 <;> cases e2
  obtain⟨j,rfl⟩:∃j,i=nt+j:=⟨i-nt,by lia⟩
  unfold c0y at e2;rw[List.getElem?_append_right (by simp),List.length_replicate,Nat.add_sub_cancel_left,List.getElem?_map] at e2
  cases hj:fr[j]? with
  | none=>rw[hj] at e2;cases e2
  | some i'=>
   rw[hj] at e2;have e2:(σ[i']?).join=some v:=Option.some.inj e2;have e4:σ[i']?=some (some v):=by
    cases z:σ[i']? with
    | none=>rw[z] at e2;cases e2
    | some y=>rw[z] at e2;rw[show y=some v from e2]
   obtain⟨x',n1,n2,n3,n4⟩:=k.frn j i' hj;have e1:N[nt+j]?=some x:=e1;rw[n1] at e1;cases e1;obtain⟨m,hm,hl⟩:=I.loc;obtain⟨u,r,l⟩:=hl i' x v n2 e4 (n3.elim (λz=>.inr (.inl z)) λz=>.inr (.inr z));refine⟨u,r,.inr ⟨n4,?_⟩⟩;rcases l with ⟨z,_⟩|⟨_,c,hc,hcell⟩
   ·rcases n3 with y|y <;> (rw[z] at y;cases y)
   ·have hall:=List.all_eq_true.mp k.has
    have hs:(cl.lookup x).isSome=true:=by
     rcases n4 with y|y
     ·have:=hall _ (PySem.mem_of_lookup y)
      simpa using this
     ·have:=hall _ (PySem.mem_of_lookup y)
      simpa using this
    obtain⟨c',hc'⟩:=Option.isSome_iff_exists.mp hs;have z:=k.cl_at hc';rw[hc] at z;cases z;exact⟨c,hc',hcell.elim λo ho=>⟨o,hk _ _ ho.1,ho.2⟩⟩
 ·obtain⟨v,o,ho,hd⟩:=I.cell x c (k.cl_at e)
  exact⟨v,o,hk _ _ ho,hd⟩
 ·obtain⟨e,n,ne,nf,d⟩:=I.pin p (by have hp:p∈(X.pn++pins)++[]:=hp;rw[List.append_nil] at hp;exact hp)
  refine⟨hk _ _ e,n,Nat.ne_of_lt (Nat.lt_of_lt_of_le ↑122 hC),λz=>?_,d⟩;rcases List.mem_cons.mp (I.stkSub _ z) with y|y
  ·exact ne y
  ·exact nf y
 ·show(c0y nt fr σ).length=N.length
  unfold c0y;rw[List.length_append,List.length_replicate,List.length_map,k.len]
theorem Inv.blockEnd{ex:List Addr}{C:Addr}{σ':St}{H H':Hp}{s':Shared}{h'':Heap}{pn' pins':List ↑26}(I:↑13)(hex:∀b∈ex,d5w X pins H b)(J:Inv ↑35 pins' σ' H' s')(hC:s.heap.objs.size<=C)(hs:Heap.SameBut C s'.heap h''):Inv X pins σ H' { s' with heap:=h'' }:=by
 have ne:∀b o,s.heap.get? b=some o->b≠C:=λb o e=>Nat.ne_of_lt (Nat.lt_of_lt_of_le ↑122 hC);refine I.call' (s':={ s' with heap:=h'' }) (ch:=ex) J.os ⟨λb o e n hb hx=>?_,λb o e n hb hx=>?_,J.base.free,λb o e hx=>?_,J.base.tups,J.base.frzs,J.base.tbls⟩ ?_ J.bare λb hb=>⟨(hex b hb).2.2.2.1,(hex b hb).2.1,(hex b hb).2.2.2.2.1,(hex b hb).2.2.2.2.2⟩
 ·exact(hs.2 b (ne b o e)).trans (J.base.keep b o e n hb hx)
 ·obtain⟨sl,e1⟩:=J.base.slot b o e n hb hx
  exact⟨sl,(hs.2 b (ne b o e)).trans e1⟩
 ·obtain⟨o',e1⟩:=J.base.there b o e hx
  exact⟨o',(hs.2 b (ne b o e)).trans e1⟩
 ·exact b8x J.hok λb o u e q=>(hs.2 b (λz=>by
   have:=J.free;rw[show(d5j X N scope cl C s H ex pn').env.locals=C from rfl,<- z,e] at this;cases this)).trans q
noncomputable def c7k(wi:TI)(nt:Nat)(fr:List Nat)(g:TG)(tt:TT)(te:TE):TE:=λσ H Q=>wi σ H λJ H1=>∀D,H1 D=none->∃(n:Nat)(W:↑113),W 0 [] (upd H1 D (.lst [])) /\
 ∀i acc H,W i acc H->H D=some ↑88/\acc.length<sizeLine /\
  ((J.stop i H/\Q (.ref D) H)\/(i<n/\J.go i H/\∀x H',J.yld i H x H'->g x ↑68 H' λσ2 H2=>tt σ2 H2 λc H3=>if c=true then (te σ2 H3 λy H4=>H4 D=some ↑88/\W (i+1) ↑50 ↑144) else W (i+1) acc H3))
def PTs(X:Cx)(ifs:List Expr)(t:TT):Prop:=∀(pins:List ↑26)(s:Shared)(σ:St)(H:Hp)(Q:Bool->Hp->Prop),Inv X pins σ H s->t σ H Q->wpAny ↑21 X.A (forIn ifs true λc r=>if r=true then do let ok <- isTrue c X.env (eval c X.env);pure (ForInStep.yield ok) else pure (ForInStep.yield r)) (TP X pins σ Q) X.xe s
theorem d2y:PTs X [] (λ_ H Q=>Q true H):=λ_ s σ H Q I q=>wpAny_tests_nil ⟨H,I,q⟩
theorem c6u{elt iter tg:Expr}{ifs:List Expr}{pos pos':Pos}{wi:TI}{g:TG}{te:TE}{tt:TT}{use:Option (Value->Sem Unit)}{PQ:Value->Shared->Prop}{Q:VK}(hc:X.calm=true)(k:CompOk X N scope cl nt fr)(hi:PI X tg iter wi)(gk:c1a nt g)(hg:∀C s H ex pn',PG ↑35 tg g)(ht:∀C s H ex pn',PTs ↑35 ifs tt)(he:∀C s H ex pn',PE ↑35 elt te)(hs:∀x,foldedSetIterable iter X.env x=pure x)(I:↑13)(h:c7k wi nt fr g tt te σ H Q)(fin:∀{H3:Hp} {s3:Shared} {C D:Addr} {fp:List Addr} {H6:Hp} {s7:Shared},Inv X pins σ H3 s3->(∀b∈fp,d5w X pins H3 b)->s3.heap.objs.size<=C->Inv ↑63 [] ↑68 H6 s7->Q (.ref D) H6->compPost ↑21 X.A X.xe use PQ (.ref D) C (.ok .next) s7):
  wpAny ↑21 X.A (comprehension ↑72 scope X.env pos' (newList []) false (eval iter X.env) use) PQ X.xe s:=by
 refine wpAny_comprehension_free rfl hs k.clos k.kind k.names (thn (hi pins s σ H _ I h) λxv s1 h1=>thn h1 λitv s2 h2=>?_);obtain⟨it,fp,tn,J,H2,rfl,I2,T,st2,f2,R2⟩:=h2;obtain⟨n,W,w0,turn⟩:=R2 _ I2.fresh;have I3:Inv X pins σ (upd H2 s2.heap.objs.size (.lst [])) { s2 with heap:=s2.heap.push { cls:=.type "list",data:=.seq ([]:List Value).toArray } }:=I2.lnew (its:=[]) (t':=s2.toks) .nil (Nat.zero_le _)
 have fp2:∀b∈fp,b<s2.heap.objs.size:=λb hb=>by
  obtain⟨o,e,_⟩:=T.obj _ _ st2 b hb;exact Heap.lt_size e
 have f3:∀b∈fp,d5w X pins (upd H2 s2.heap.objs.size (.lst [])) b:=λb hb=>⟨by rw[d8 (Nat.ne_of_lt (fp2 b hb))];exact(f2 b hb).1,(f2 b hb).2⟩
 refine wpAny_newObj_type (hd:=by show(0:Nat)<=_;exact Nat.zero_le _) ?_
 have hsz:({ s2 with heap:=s2.heap.push { cls:=.type "list",data:=.seq ([]:List Value).toArray } }:Shared).heap.objs.size=s2.heap.objs.size+1:=Heap.size_push _ _
 have kp:∀b o,s2.heap.get? b=some o->({ s2 with heap:=s2.heap.push { cls:=.type "list",data:=.seq ([]:List Value).toArray } }:Shared).heap.get? b=some o:=λb o e=>Heap.get?_push_of_some _ e
 generalize ({ s2 with heap:=s2.heap.push { cls:=.type "list",data:=.seq ([]:List Value).toArray } }:Shared)=s3 at *
 have dn:∀b∈fp,b<s3.heap.objs.size:=λb hb=>by rw[hsz];exact Nat.lt_succ_of_lt (fp2 b hb)
 refine wpAny_newFunctionEnv k.cell (by intro y hy;cases hy) (λh4 hns hsb=>?_) k.kind
 have keep4:∀b o,s3.heap.get? b=some o->h4.get? b=some o:=λb o e=>(hsb.2 b (Nat.ne_of_lt ↑122)).trans (Heap.get?_push_of_some _ e);have I4:=k.start I3 (C:=s3.heap.objs.size) (h':=h4) (t':=s3.toks) (ex:=fp) (λb hb=>⟨f3 b hb,dn b hb⟩) ↑31 hns keep4;have st4:tn 0 h4:=T.keep _ _ _ st2 λb hb o e=>keep4 b o (kp b o e);generalize hC:s3.heap.objs.size=C at I4 hns;have hC3:s3.heap.objs.size<=C:=Nat.le_of_eq hC;generalize hH:upd H2 s2.heap.objs.size (.lst [])=H3 at *;generalize s2.heap.objs.size=D at *;have stat:∀{H':Hp},(∀b∈fp,H' b=none)->∀b∈fp,d5w ↑63 [] H' b:=λ{H'} hn b hb=>by
  refine⟨hn b hb,Nat.ne_of_lt (Nat.lt_of_lt_of_le (dn b hb) hC3),λz=>?_,.inl hb,λx c e=>(f2 b hb).2.2.2.2.1 x c (k.cl_at e),λp hp=>(f2 b hb).2.2.2.2.2 p (by have hp:p∈(X.pn++pins)++[]:=hp;rw[List.append_nil] at hp;exact hp)⟩
  rcases List.mem_cons.mp (I2.stkSub b z) with y|y
  ·exact(f2 b hb).2.1 y
  ·exact(f2 b hb).2.2.1 y
 have loop:∀s5:Shared,s5={ s3 with heap:=h4,toks:=s3.toks }->codeAny (model X.prog X.w) X.A (.compLoop (.ListComp elt [⟨tg,iter,ifs,0⟩] scope pos) 0 (.ref it) (.ref D) (compEnvC scope cl C X.env)) (compPost (model X.prog X.w) X.A X.xe use PQ (.ref D) C) s5:=by
  rintro s5 rfl;refine codeAny_loop rfl (λm s'=>∃i acc H',m=n-i/\Inv ↑63 [] ↑68 H' s'/\tn i s'.heap/\(∀b∈fp,H' b=none)/\W i acc H') ?_ n ⟨0,[],_,rfl,I4,st4,λb hb=>(f3 b hb).1,w0⟩;rintro m s6 ⟨i,acc,H6,rfl,I6,st6,fr6,w6⟩;show wpAny _ _ ((compTurn ↑72 0 (.ref it) (.ref D) (compEnvC scope cl C X.env)).onRaise (λx=>do noteFrame x (compEnvC scope cl C X.env);theTreesLotGoes x)) _ _ s6
  refine wpAny_noted ?_;rw[compTurn_list];refine wpAny_bind (wpAny_standAt (wpAny_bind ?_));obtain⟨hD6,hz6,alt⟩:=turn i acc H6 w6;rcases alt with ⟨stop,qn⟩|⟨hin,go,step⟩
  ·refine wpAny_mono (T.done ↑63 rfl rfl rfl hc i [] s6 ↑68 H6 (λ_ _=>False) I6 (stat fr6) st6 stop) (λr s7 z0_=>?_) (λ_ _ z=>z.elim)
   obtain⟨hr,I7⟩:=z0_;subst hr;exact wpAny_pure (fin I3 f3 hC3 I7 qn)
  ·refine wpAny_mono (T.item ↑63 rfl rfl rfl hc i [] s6 ↑68 H6 (λ_ _=>False) I6 (stat fr6) st6 go) (λr s7 z0_=>?_) (λ_ _ z=>z.elim)
   obtain⟨u,hr,h7⟩:=z0_;subst hr;refine wpAny_bind (wpAny_mono h7 (λ_ s8 z0_=>?_) (λ_ _ z=>z.elim));obtain⟨x,H8,I8,r8,y8,st8,fr8⟩:=z0_;refine wpAny_bind (wpAny_mono (hg _ _ _ _ _ _ s8 _ H8 x u _ (I8.pinned (stat fr8) (T.obj _ _ st8)) r8 (gk _ _ _ _ (step x H8 y8))) (λ_ s9 z0_=>?_) (λ_ _ z=>z.elim));obtain⟨σ9,H9,I9,k9,q9⟩:=z0_;refine wpAny_bind (wpAny_mono (ht _ _ _ _ _ _ s9 σ9 H9 _ I9 q9) (λok s12 z0_=>?_) (λ_ _ z=>z.elim));obtain⟨H12,I12,q12⟩:=z0_;have weak:∀{H11:Hp}{s11:Shared},Inv ↑63 ([]++c4z fp s8.heap) σ9 H11 s11->Inv ↑63 [] ↑68 H11 s11/\tn (i+1) s11.heap/\∀b∈fp,H11 b=none:=λ{H11 s11} I11=>by
    refine⟨(I11.unpinned (pins:=[])).weak ?_ λj v' e=>?_,?_,λb hb=>?_⟩
    ·rw[I11.len,<- I4.len]
    ·by_cases hj:nt<=j
     ·rw[k9 j hj];exact e
     ·unfold c0y at e
      rw[List.getElem?_append_left (by rw[List.length_replicate];lia),List.getElem?_replicate] at e
      split at e <;> cases e
    ·exact T.keep _ _ _ st8 λb hb o e=>(I11.pin (b,o) (List.mem_append_right _ (List.mem_append_right _ (a9y hb e)))).1
    ·obtain⟨o,e,d⟩:=T.obj _ _ st8 b hb
     exact(I11.pin (b,o) (List.mem_append_right _ (List.mem_append_right _ (a9y hb e)))).2.1
   cases ok with
   | false=>
    rw[if_neg Bool.false_ne_true] at q12;obtain⟨z1,z2,z3⟩:=weak I12;exact wpAny_pure ⟨rfl,n-(i+1),by lia,i+1,acc,_,rfl,z1,z2,z3,q12⟩
   | true=>
    rw[if_pos rfl] at q12;refine wpAny_bind (wpAny_bind (wpAny_mono (he _ _ _ _ _ _ s12 σ9 H12 _ I12 q12) (λv s10 z0_=>?_) (λ_ _ z=>z.elim)));obtain⟨y,H10,I10,r10,hD10,q10⟩:=z0_;refine wpAny_bind (wpAny_mono (c6g (X:=d5j X N scope cl C s3 H3 fp (X.pn++pins)) _ s10 σ9 H10 (.ref D) [y] (.ref D) [v] (λv' H'=>v'=.non/\H'=upd H10 D ↑44) I10 rfl (.cons r10 .nil) ⟨_,acc,y,rfl,rfl,hD10,hz6,rfl,rfl⟩) (λv' s11 z0_=>?_) (λ_ _ z=>z.elim));obtain⟨_,H11,I11,_,_,e11⟩:=z0_;subst e11;obtain⟨z1,z2,z3⟩:=weak I11;exact wpAny_pure (wpAny_pure ⟨rfl,n-(i+1),by lia,i+1,acc++[y],_,rfl,z1,z2,z3,q10⟩)
 exact codeAny_compStart_list (loop _ rfl) (T.self _ 0 _ _ _ st4 (loop _ rfl))
theorem d6x{elt iter tg:Expr}{ifs:List Expr}{pos:Pos}{wi:TI}{g:TG}{te:TE}{tt:TT}(hc:X.calm=true)(k:CompOk X N scope cl nt fr)(hi:PI X tg iter wi)(gk:c1a nt g)(hg:∀C s H ex pn',PG ↑35 tg g)(ht:∀C s H ex pn',PTs ↑35 ifs tt)(he:∀C s H ex pn',PE ↑35 elt te)(hs:∀x,foldedSetIterable iter X.env x=pure x):
  PE X ↑72 (c7k wi nt fr g tt te):=by
 fail "x";rw[eval_ListComp];refine c6u hc k hi gk hg ht he hs I h λI3 f3 hC3 I7 qn=>?_;obtain⟨m7,hn7,_⟩:=id I7.loc;exact⟨m7,hn7,λh8 hs8=>⟨.ref _,_,I3.blockEnd f3 I7 hC3 hs8,rfl,qn⟩⟩
theorem a9h{elt iter tg:Expr}{pos:Pos}{wi:TI}{g:TG}{te:TE}(hc:X.calm=true)(k:CompOk X N scope cl nt fr)(hi:PI X tg iter wi)(gk:c1a nt g)(hg:∀C s H ex pn',PG ↑35 tg g)(he:∀C s H ex pn',PE ↑35 elt te)(hs:autoParam (∀x,foldedSetIterable iter X.env x=pure x) q3):
  PE X (.ListComp elt [⟨tg,iter,[],0⟩] scope pos) (e0a wi nt fr g te):=d6x hc k hi gk hg (λ_ _ _ _ _=>d2y) he hs
end
structure FnT(P:Program)(w:World)(K:↑29)(mg:↑67)(base:Heap)(x:Str)(k:Nat)(ps:List Str)(sp:Sp):Prop where
 ex:∃(f:Addr)(fd:FuncData),FnOk P w K mg base (CXK P w) k f fd ps sp/\mg x=some (.ref f)/\keepIn K (.ref f)=true/\Binds K fd ps []
theorem Fun.okX{P:Program}{w:World}{K:Frag}{mg:Str->Option Value}{base:Heap}{x qual:Str}{st:Stmt}{f:Addr}{fd:FuncData}{N ps:List Str}{k:Nat}{sp:Sp}(F:Fun K x qual st f fd)(S:i8 N ps ↑89)(len:∀vs H Q E,sp vs H Q E->vs.length=ps.length)(hbody:∀(cdv:Value) (A:Around) (outer:List Env) (s:Shared) (H:Hp) (vs:List V) (Q:VK) (E:XK),Room k (A.deeper (envOfC qual ↑89 s.heap.objs.size f cdv))->sp vs H Q E ->
   ∃t,PSs (c9d (CXK P w) P w K mg base N qual ↑89 f cdv A outer s H E) ↑125 t/\t { nx:=λ_ H'=>Q .non H',rt:=Q } (start N vs) H):FnOk P w K mg base (CXK P w) (k+1) f fd ps sp:=by
 obtain⟨oc,od,kV,doc,pm,an,cdv,ct,osl,rfl,lk,hcd⟩:=F.ex;exact e7x lk hcd S len λA outer s H vs Q E hr hsp=>hbody cdv A outer s H vs Q E hr hsp
structure DefT(K:↑29)(mg:↑67)(x:Str)(st:Stmt)(ps:List Str):Prop where
 ex:∃(f:Addr)(fd:FuncData),Fun K x x st f fd/\mg x=some (.ref f)/\Binds K fd ps []
theorem DefT.fn{P:Program}{w:World}{K:Frag}{mg:Str->Option Value}{base:Heap}{x:Str}{st:Stmt}{N ps:List Str}{k:Nat}{sp:Sp}(D:DefT K mg x st ps)(S:i8 N ps ↑89)(len:∀vs H Q E,sp vs H Q E->vs.length=ps.length)(hbody:∀(f:Addr) (cdv:Value) (A:Around) (outer:List Env) (s:Shared) (H:Hp) (vs:List V) (Q:VK) (E:XK),Room k (A.deeper (envOfC x ↑89 s.heap.objs.size f cdv))->sp vs H Q E ->
   ∃t,PSs (c9d (CXK P w) P w K mg base N x ↑89 f cdv A outer s H E) ↑125 t/\t { nx:=λ_ H'=>Q .non H',rt:=Q } (start N vs) H):↑901 x (k+1) ps sp:=by
 obtain⟨f,fd,F,hm,hb⟩:=D.ex;exact⟨f,fd,F.okX S len (hbody f),hm,F.kp,hb⟩
theorem DefT.mk'{K:Frag}{h:Heap}{mg:Str->Option Value}{x:Str}{st:Stmt}{ps:List Str}{f:Addr}{oc:Value}{od an:Option Addr}{osl:Array (Option Value)}{kV doc pm cdv ct:Value}(X:K.In h)(G:h.Ns mainGlobals mg)(a:nsIn K mainGlobals x=some ↑116)(l:K.lookup f=some ⟨oc,od,.func (PySem.W.fnOf x x (a1o st) ↑125 ↑89 .none kV doc pm an cdv ct),osl⟩)(c:codeIn K cdv x=true)(k:↑98)(hb:∀(kV doc pm:Value) (an:Option Addr) (cdv ct:Value) (us:List Value),us.length=ps.length->bindArgs (PySem.W.fnOf x x (a1o st) ↑125 ↑89 .none kV doc pm an cdv ct) ⟨us,[]⟩=pure (ps.zip us)):DefT K mg x st ps :=
 have F:=d0g (st:=st) (x:=x) (qual:=x) l c k
 ⟨_,_,F,mg_of X G a,F.binds hb⟩
noncomputable def tFn(sp:Sp)(E:XK)(t:TA):TE:=λσ H Q=>t σ H λvs H1=>sp vs H1 Q E
section
variable{X:Cx}{k j:Nat}{ps:List Str}{sp:Sp}{E:XK}{J:St->XK}{x:Str}{p pos:Pos}{e:Expr}{es:List Expr}{t:TA}
theorem m3(G:FnT X.prog X.w X.K X.mg X.base x k ps sp)(hr:Room j X.A)(hj:k<=j)(hg:Gl X x)(hx:↑91)(ha:↑121)(hdb:autoParam (↑33=false) q2)(he:autoParam (starEach (e::es) X.env=(false,eval e X.env)::starEach es X.env) q4)(hpl:autoParam ((backTo pos ↑83).any (·.1)=false) q4):PE X ↑84 (tFn sp E t):=by
 obtain⟨f,fd,F,hm,hk,hb⟩:=G.ex;fail "x";refine e0r F (hr.mono hj) hg hm hk hb .nil hx ha hdb he hpl pins s σ H Q I ?_;show t σ H λvs H1=>sp (vs++[]) H1 Q E;simp only[List.append_nil];exact h
theorem d3n{N:List Str}{scope:Scope}{cl:List (Str×Addr)}{C:Addr}{s:Shared}{H:Hp}{ex:List Addr}{pn':List ↑26}:b0u (CXK X.prog X.w) ↑35 E0:=by
 intro pins σ H' s' e s'' I h;obtain⟨_,_,_,_,_,q⟩:=h;exact q.elim
end
section
variable{X:Cx}
theorem a0k{x:Str}{n:Int}{pos:Pos}(hm:∃t,X.mg x=some (.int n t))(hg:Gl X x)(hd:autoParam (↑33=false) q2):PE X (.Name x pos) (tC (.int n)):=by
 obtain⟨t,h⟩:=hm;exact c7x hg h ⟨t,rfl⟩ hd
theorem c9y{x:Str}{n:String}{pos:Pos}(hm:X.mg x=none)(hv:bootBuiltins x=some (.type n))(hg:Gl X x)(hn:autoParam (x≠"__name__") q2)(hd:autoParam (↑33=false) q2):PE X (.Name x pos) (tC (.ty n)):=e0s hg hm hv rfl hn hd
theorem d3m{o e:Expr}{to:TE}{t:TA}{apos cpos:Pos}(ho:PE X o to)(ha:PA X [e] t)(hbase:autoParam (attributeBase o "append" X.env (eval o X.env)=eval o X.env) q4)(hfew:autoParam (((backTo cpos (starEach [e] X.env)).all (λx=>!x.1) && (backToKw cpos (keywordEach [] X.env)).all (λx=>x.1.isSome) && decide ([e].length+([]:List Keyword).length+(if ([]:List Keyword).isEmpty then 0 else 1)<30))=true) q4)(hline:autoParam ((apos.endLine == cpos.line)=true) q4)(hs:autoParam (starEach [e] X.env=(false,eval e X.env)::starEach [] X.env) q4)(hplain:autoParam ((backTo cpos (starEach [] X.env)).any (·.1)=false) q4):
  PE X (.Call (.Attribute o "append" apos) [e] [] cpos) (tBM X.K "list" c2g to t) :=
 e3s PySem.F.plainAttrs_list PySem.F.slot_list_append PySem.F.type_list_append (λpins s σ H x xs v us Q I rx rs q=>c6g pins s σ H x xs v us Q I rx rs q) ho ha hbase hfew hline hs hplain
theorem d5o(hc:X.calm=true):b2r X (.builtin "all") (λxs H Q=>∃(p:Addr)(bs:List Bool),xs=[.ref p]/\SqL X.K H p (bs.map V.bl)/\Q (.bl (bs.all id)) H):=by
 intro pins s σ H xs us Q I r h;obtain⟨p,bs,rfl,hq,q⟩:=h;obtain⟨u,rfl,rx⟩:=r.one;cases rx;obtain⟨its,ri,pl,hz⟩:=I.list hq;have hl:=pl.isList;have hlt:p<s.heap.objs.size:=by obtain⟨_,e,_⟩:=hl;exact Heap.lt_size e
 have hn:its.toArray.size=bs.length:=by have:=ri.length;simpa using this.symm
 have wl:=Walks.list (prog:=X.prog) (w:=X.w) (A:=X.A.in1) (I.ok.hd hc) s.heap.objs.size p (Nat.ne_of_lt hlt) its.toArray;refine call_all_walk (wpAny_pyIter_list hl ⟨_,_,_,_,_,_,(λi=>(bs[i]?).getD true),rfl,wl,⟨⟨_,Heap.get?_push_size _ rfl,rfl,rfl⟩,hl.push _⟩,?_,?_⟩)
 ·intro i v s' Q' E' hP hQ
  have hP:its.toArray[i]?=some v:=hP;have hP:its[i]?=some v:=by simpa using hP
  have hi:i<(bs.map V.bl).length:=by
   have:=(List.getElem?_eq_some_iff.mp hP).1;rw[ri.length];exact this
  obtain⟨u,e,q'⟩:=ri.get (List.getElem?_eq_getElem hi);rw[hP] at e;cases e;have hi':i<bs.length:=by simpa using hi
  have e2:(bs.map V.bl)[i]=V.bl bs[i]:=List.getElem_map _;rw[e2] at q';cases (show v=Value.bool bs[i] from q');simp only[List.getElem?_eq_getElem hi',Option.getD_some] at hQ;exact wpAny_truthy_bool hQ
 ·intro h' tk hk
  have e:((List.range its.toArray.size).all λi=>(bs[i]?).getD true)=bs.all id:=by rw[hn];exact LSm.range_all bs
  rw[e];exact⟨.bl _,H,I.kept (t':=tk) (LSm.kept_iter hk),rfl,q⟩
def e8d(_ j:Int):Prop:=0<j/\j.natAbs.log2<9000
theorem a2t:OpR X (binaryOp .FloorDiv) (rI e8d λi j=>.int (i / j)):=opI λi j _ _ _ _ _ hc q=>by
 have e:i / j=i.fdiv j:=(Int.fdiv_eq_ediv_of_nonneg i (Int.le_of_lt hc.1)).symm;rw[e] at q;exact floordiv_int (by have:=hc.1;lia) q (.inl (PyProof.noPylong_of_log2 hc.2))
theorem d7l{K:Frag}(h:autoParam (X.K=K) q4):IxR X (e6u K):=h ▸ e1d
theorem d6m{K:Frag}(h:autoParam (X.K=K) q4):SlR X (e8l K):=h ▸ e0c
theorem b6k{K:Frag}(h:autoParam (X.K=K) q4):OpR X (compareOp .In) (rIn K false):=h ▸ d3q
theorem c5c{K:Frag}(h:autoParam (X.K=K) q4):OpR X (compareOp .NotIn) (rIn K true):=h ▸ c5b
noncomputable def e8p(K:↑29)(n:Nat):R2:=λx y H Q=>∃p q b,x=.ref p/\y=.ref q/\EqD K H (n+1) x y b/\Q (.bl b) H
noncomputable def e8m(K:↑29)(n:Nat):R2:=λx y H Q=>∃p q b,x=.ref p/\y=.ref q/\EqD K H (n+1) x y b/\Q (.bl (!b)) H
theorem d8t{K:Frag}{n:Nat}(hu:X.A.units+(n+1)<cLine)(h:autoParam (X.K=K) q4):OpR X (compareOp .Eq) (e8p K n):=h ▸ e3w hu
theorem d3p{K:Frag}{n:Nat}(hu:X.A.units+(n+1)<cLine)(h:autoParam (X.K=K) q4):OpR X (compareOp .NotEq) (e8m K n):=h ▸ e3t hu
def e8o(K:↑29):List V->Hp->VK->Prop:=λxs H Q=>∃x c t cv b,xs=[x,c]/\TyX K H x t/\e6d c=some cv/\kitOne K t cv=some b/\Q (.bl b) H
def e8n(K:↑29):List V->Hp->VK->Prop:=λxs H Q=>∃p ys,xs=[.ref p]/\(SqL K H p ys\/SqT K H p ys)/\Q (.int ys.length) H
def d2u(K:↑29):List V->Hp->VK->Prop:=λxs H Q=>∃p ys,xs=[.ref p]/\(SqL K H p ys\/SqT K H p ys)/\∀l,H l=none->Q (.ref l) (upd H l (.lst ys))
def e9g(K:↑29):List V->Hp->VK->Prop:=λxs H Q=>∃(p:Addr)(bs:List Bool),xs=[.ref p]/\SqL K H p (bs.map V.bl)/\Q (.bl (bs.all id)) H
theorem b4e{K:Frag}(h:autoParam (X.K=K) q4):b2r X (.builtin "isinstance") (e8o K):=h ▸ d8j
theorem c6x{K:Frag}(h:autoParam (X.K=K) q4):b2r X (.builtin "len") (e8n K):=h ▸ c6w
theorem a4l{K:Frag}(h:autoParam (X.K=K) q4):b2r X (.type "list") (d2u K):=h ▸ c6v
theorem d5n{K:Frag}(hc:X.calm=true)(h:autoParam (X.K=K) q4):b2r X (.builtin "all") (e9g K):=h ▸ d5o hc
theorem a2r{K:Frag}{tg l:Expr}{tl:TE}(hl:PE X l tl)(h:autoParam (X.K=K) q4):PI X tg l (e1e K tl):=h ▸ e0l hl
theorem z9{K:Frag}{o e:Expr}{to:TE}{t:TA}{apos cpos:Pos}(ho:PE X o to)(ha:PA X [e] t)(hK:autoParam (X.K=K) q4)(hbase:autoParam (attributeBase o "append" X.env (eval o X.env)=eval o X.env) q4)(hfew:autoParam (((backTo cpos (starEach [e] X.env)).all (λx=>!x.1) && (backToKw cpos (keywordEach [] X.env)).all (λx=>x.1.isSome) && decide ([e].length+([]:List Keyword).length+(if ([]:List Keyword).isEmpty then 0 else 1)<30))=true) q4)(hline:autoParam ((apos.endLine == cpos.line)=true) q4)(hs:autoParam (starEach [e] X.env=(false,eval e X.env)::starEach [] X.env) q4)(hplain:autoParam ((backTo cpos (starEach [] X.env)).any (·.1)=false) q4):
  PE X (.Call (.Attribute o "append" apos) [e] [] cpos) (tBM K "list" c2g to t):=hK ▸ d3m ho ha hbase hfew hline hs hplain
theorem d8g{N:List Str}{scope:Scope}{nt:Nat}(clos:closureFor scope X.env=pure [])(kind:scope.kind=.function)(cell:∀y∈scope.names,y.2≠.cell)(names:∀y∈scope.names,y.2=.local->scope.names.lookup y.1=some .local)(has:((relabel scope X.env).names.all λy=>!(y.2 == .cell || y.2 == .free) || (([]:List (Str×Addr)).lookup y.1).isSome)=true)(len:N.length=nt):CompOk X N scope [] nt [] :=
 ⟨clos,kind,cell,names,λp hp=>(nomatch hp),has,len,λj i h=>by simp at h⟩
end
theorem huN{k:Nat}{A:Around}(hr:Room k A)(n:Nat)(h:autoParam (n<=100) q2):A.units+n<cLine:=by
 have:=hr.un;lia
theorem c6t{K:Frag}{a:Addr}{xs:List V}{f:V->V}{nt:Nat}{fr:List Nat}{g:TG}{te:TE}{σ:St}{H:Hp}{Q:Addr->Hp->Prop}(hs:SqL K H a xs)(hz:xs.length<sizeLine)(ha:∃o,H a=some o)(he:∀(i:Nat) (x:V) (H':Hp) (k:VK),xs[i]?=some x->Same H H'->k (f x) H'->g x ↑68 H' λσ2 H2=>te σ2 H2 k)(hq:∀D,H D=none->Q D (upd H D (.lst (xs.map f)))):
  ∀D,H D=none->∃(n:Nat)(W:↑113),W 0 [] ↑108/\∀i acc H',W i acc H'->H' D=some ↑88/\acc.length<sizeLine /\
   (((Itl K a).stop i H'/\Q D H')\/(i<n/\(Itl K a).go i H'/\∀x H2,(Itl K a).yld i H' x H2->g x ↑68 H2 λσ2 H3=>te σ2 H3 λy H4=>H4 D=some ↑88/\W (i+1) ↑50 ↑144)):=by
 intro D hD;have sm:∀o,Same H (upd H D o):=λo b u e=>by rw[d8 (k8 e hD)];exact e
 refine⟨xs.length,λi acc H'=>i<=xs.length/\acc=(xs.take i).map f/\H'=upd H D ↑88,⟨Nat.zero_le _,rfl,rfl⟩,?_⟩;rintro i acc H' ⟨hi,rfl,rfl⟩;have hl:((xs.take i).map f).length=i:=by rw[List.length_map,List.length_take];lia
 refine⟨d9,by lia,?_⟩
 by_cases h:i<xs.length
 ·refine .inr ⟨h,⟨xs,xs[i],(sm _).seq hs,List.getElem?_eq_getElem h⟩,?_⟩
  rintro x H2 ⟨rfl,hy⟩;have hx:=hy xs ((sm _).seq hs);refine he i x _ _ hx (sm _) ⟨d9,by lia,?_,by rw[c7j]⟩
  have e:xs.take (i+1)=xs.take i++[x]:=by
   rw[List.take_succ,hx];rfl
  rw[e,List.map_append]
  rfl
 ·have e:i=xs.length:=by lia
  subst e;refine .inl ⟨⟨xs,(sm _).seq hs,Nat.le_refl _⟩,?_⟩;rw[List.take_length];exact hq D hD
section
variable{X:Cx}{pins:List ↑26}{σ:St}{H:Hp}{s:Shared}{N:List Str}{scope:Scope}{cl:List (Str×Addr)}{nt:Nat}{fr:List Nat}
theorem c7w{elt iter tg:Expr}{ifs:List Expr}{pos py spos:Pos}{y:Str}{ix:Nat}{wi:TI}{g:TG}{te:TE}{tt:TT}(hc:X.calm=true)(k:CompOk X N scope cl nt fr)(hi:PI X tg iter wi)(gk:c1a nt g)(hg:∀C s H ex pn',PG ↑35 tg g)(ht:∀C s H ex pn',PTs ↑35 ifs tt)(he:∀C s H ex pn',PE ↑35 elt te)(hN:X.N.Nodup)(hi2:X.N[ix]?=some y)(hy:X.env.scope.names.lookup y=some .local)(hsw:swapsWith ↑72 (some (.Name y py)) spos.line X.env=pure true)(hs:∀x,foldedSetIterable iter X.env x=pure x):
  PS X (.Assign [.Name y py] ↑72 spos) (e3a (c7k wi nt fr g tt te) (d2d ix)):=by
 intro pins s σ H DD I h;rw[exec_Assign_Name_used _ _ _ _ hsw];refine wpAny_bind (wpAny_standAt (wpAny_bind ?_));show wpAny _ X.A (do let _ <- comprehension ↑72 scope X.env _ (newList []) false (eval iter X.env) (some (assign (.Name y py) X.env))) _ _ s
 refine wpAny_bind (wpAny_mono (c6u (PQ:=λ_ s'=>SP X pins DD .next s') hc k hi gk hg ht he hs I h λ{H3 s3 C D fp H6 s7} I3 f3 hC3 I7 qn=>?_) (λ_ s' hq=>wpAny_pure (wpAny_pure hq)) λ_ _ e=>e);obtain⟨m7,hn7,_⟩:=id I7.loc;have I7x:Inv X pins σ H6 s7:=I3.blockEnd (h'':=s7.heap) f3 I7 hC3 (.refl ..);show wpAny _ X.A (assign (.Name y py) X.env (.ref D)) _ _ _;refine wpAny_assign_Name (c3y (v:=.ref D) I7x hN hi2 (Or.inl hy) rfl (λs8 I8 z0_=>?_) (Or.inr hy));obtain⟨a8,sb8,or8⟩:=z0_;have no:∀{a:Addr},a<s3.heap.objs.size->a≠C:=λh z=>absurd (Nat.lt_of_lt_of_le (z ▸ h) hC3) (Nat.lt_irrefl _);have ne8:C≠a8:=λz=>by
  rcases or8 with q|q
  ·exact no I3.lt (q.symm.trans z.symm)
  ·obtain⟨v8,q8⟩:=I3.cell _ _ q
   exact no q8.lt z.symm
 refine⟨m7,hn7.sameBut sb8 ne8,λh9 hs9=>⟨_,H6,?_,qn⟩⟩;refine I8.turned (it:=C) (t':=s8.toks) (λb o hb e=>(hs9.2 b hb).trans e) I7.free (Nat.ne_of_gt (Nat.lt_of_lt_of_le I3.lt hC3)) (.inr (Nat.le_trans I3.sz hC3)) (λx c e z=>?_) (λp hp z=>no (Heap.lt_size (I3.pin p hp).1) z);obtain⟨v8,q8⟩:=I3.cell x c e;exact no q8.lt z
theorem c0k{elt iter tg:Expr}{pos py spos:Pos}{y:Str}{ix:Nat}{wi:TI}{g:TG}{te:TE}(hc:X.calm=true)(k:CompOk X N scope cl nt fr)(hi:PI X tg iter wi)(gk:c1a nt g)(hg:∀C s H ex pn',PG ↑35 tg g)(he:∀C s H ex pn',PE ↑35 elt te)(hN:X.N.Nodup)(hi2:X.N[ix]?=some y)(hy:X.env.scope.names.lookup y=some .local)(hsw:autoParam (swapsWith (.ListComp elt [⟨tg,iter,[],0⟩] scope pos) (some (.Name y py)) spos.line X.env=pure true) q4)(hs:autoParam (∀x,foldedSetIterable iter X.env x=pure x) q3):
  PS X (.Assign [.Name y py] (.ListComp elt [⟨tg,iter,[],0⟩] scope pos) spos) (e3a (e0a wi nt fr g te) (d2d ix)):=c7w hc k hi gk hg (λ_ _ _ _ _=>d2y) he hN hi2 hy hsw hs
end
theorem c3p{X:Cx}{N:List Str}{scope:Scope}{x:Str}{c:Addr}{nt i:Nat}(clos:closureFor scope X.env=pure [(x,c)])(kind:scope.kind=.function)(cell:∀y∈scope.names,y.2≠.cell)(names:∀y∈scope.names,y.2=.local->scope.names.lookup y.1=some .local)(sub:X.env.cells.lookup x=some c)(has:((relabel scope X.env).names.all λy=>!(y.2 == .cell || y.2 == .free) || ([(x,c)].lookup y.1).isSome)=true)(len:N.length=nt+1)(hN:N[nt]?=some x)(hX:X.N[i]?=some x)(hk:X.env.kindOf x=some .cell)(hr:(relabel scope X.env).names.lookup x=some .cell):CompOk X N scope [(x,c)] nt [i] :=
 ⟨clos,kind,cell,names,λp hp=>(by
  rw[List.mem_singleton] at hp;subst hp;exact sub),has,len,λj i' h=>(by
  cases j with
  | zero=>cases h;exact⟨x,hN,hX,.inl hk,.inl hr⟩
  | succ j=>cases h)⟩
section
variable{X:Cx}
theorem e0n{K:Frag}{es:List Expr}{k:Nat}{t:TGs}{n:Nat}{pos:Pos}(hc:X.calm=true)(h:PGs X es t)(hK:autoParam (X.K=K) q4)(hn:autoParam ((assignEach es X.env).length=n) q4)(hst:autoParam ((assignEach es X.env).findIdx? (·.1)=none) q4):PG X (.Tuple es k pos) (e8u K n t):=hK ▸ e3q hc h hn hst
end
structure ExM(mg:↑67)(x:Str)(C:Addr):Prop where
 m:mg x=some (.ref C)
open SeqAt
noncomputable def e1x(s:Stmt):List Stmt:=match s with
 | .ClassDef _ _ _ b ..=>b
 | _=>[]
noncomputable def o9(s:Stmt)(j:Nat):Stmt:=(e1x s).getD j (.Pass ⟨0,0,0,0⟩)
structure MethT(P:Program)(w:World)(K:↑29)(mg:↑67)(base:Heap)(C:Addr)(m:Str)(k:Nat)(ps:List Str)(sp:Sp):Prop where
 ex:∃(f:Addr)(fd:FuncData),FnOk P w K mg base (CXK P w) k f fd ps sp/\e5t K C m f/\Binds K fd ps []
structure DefM(K:↑29)(C:Addr)(m qual:Str)(st:Stmt)(ps:List Str):Prop where
 ex:∃(f:Addr)(fd:FuncData),Fun K m qual st f fd/\e5t K C m f/\Binds K fd ps []
theorem DefM.fn{P:Program}{w:World}{K:Frag}{mg:Str->Option Value}{base:Heap}{C:Addr}{m qual:Str}{st:Stmt}{N ps:List Str}{k:Nat}{sp:Sp}(D:DefM K C m qual st ps)(S:i8 N ps ↑89)(len:∀vs H Q E,sp vs H Q E->vs.length=ps.length)(hbody:∀(f:Addr) (cdv:Value) (A:Around) (outer:List Env) (s:Shared) (H:Hp) (vs:List V) (Q:VK) (E:XK),Room k (A.deeper (envOfC qual ↑89 s.heap.objs.size f cdv))->sp vs H Q E ->
   ∃t,PSs (c9d (CXK P w) P w K mg base N qual ↑89 f cdv A outer s H E) ↑125 t/\t { nx:=λ_ H'=>Q .non H',rt:=Q } (start N vs) H):↑904 C m (k+1) ps sp:=by
 obtain⟨f,fd,F,hm,hb⟩:=D.ex;exact⟨f,fd,F.okX S len (hbody f),hm,hb⟩
theorem DefM.mk'{K:Frag}{C:Addr}{m qual:Str}{st:Stmt}{ps:List Str}{f:Addr}{oc:Value}{od an:Option Addr}{osl:Array (Option Value)}{kV doc pm cdv ct:Value}(a:findIn K (.ref C) m=some ↑116)(i:isFn K (.ref f)=true)(l:K.lookup f=some ⟨oc,od,.func (PySem.W.fnOf m qual (a1o st) ↑125 ↑89 .none kV doc pm an cdv ct),osl⟩)(c:codeIn K cdv qual=true)(k:↑98)(hb:∀(kV doc pm:Value) (an:Option Addr) (cdv ct:Value) (us:List Value),us.length=ps.length->bindArgs (PySem.W.fnOf m qual (a1o st) ↑125 ↑89 .none kV doc pm an cdv ct) ⟨us,[]⟩=pure (ps.zip us)):DefM K C m qual st ps :=
 have F:=d0g (st:=st) (x:=m) (qual:=qual) l c k
 ⟨_,_,F,⟨a,i,k⟩,F.binds hb⟩
structure MakeT(P:Program)(w:World)(K:↑29)(mg:↑67)(base:Heap)(x:Str)(C:Addr)(k:Nat)(ps:List Str)(sp:Sp):Prop where
 ex:∃(f:Addr)(fd:FuncData),FnOk P w K mg base (CXK P w) k f fd ps sp/\Mk K C f/\mg x=some (.ref C)/\Binds K fd ps []
theorem MethT.make{P:Program}{w:World}{K:Frag}{mg:Str->Option Value}{base:Heap}{x:Str}{C:Addr}{k:Nat}{ps:List Str}{sp:Sp}(M:↑904 C "__init__" k ps sp)(mk:makesIn K C=true)(kp:keepIn K (.ref C)=true)(hm:mg x=some (.ref C)):
  MakeT P w K mg base x C k ps sp:=by
 obtain⟨f,fd,F,hM,hb⟩:=M.ex;exact⟨f,fd,F,⟨mk,hM.at_,hM.fn,kp⟩,hm,hb⟩
noncomputable def tMt(C:Addr)(m:Str)(sp:Sp)(E:XK)(ta:TE)(t:TA):TE:=λσ H Q=>ta σ H λx H1=>∃a dx fs,x=.ref a/\H1 a=some ↑66/\fs.lookup m=none/\t σ H1 λvs H2=>sp (x::vs) H2 Q E
noncomputable def tMk(C:Addr)(sp:Sp)(E:XK)(t:TA):TE:=λσ H Q=>t σ H λvs H1=>∀x dx,H1 x=none->H1 dx=none->dx≠x ->
 sp (.ref x::vs) (upd (upd H1 dx (.own x)) x (.ins C dx [])) (λv H2=>v=.non/\Q (.ref x) H2) E
section
variable{X:Cx}{k j:Nat}{C:Addr}{ps:List Str}{sp:Sp}{E:XK}{J:St->XK}{x m:Str}{p pos apos:Pos}{e o:Expr}{es:List Expr}{ta:TE}{t:TA}{pl:Sem Bool}
theorem a2s(he:PE X o ta)(c:Cls X.K C)(G:MethT X.prog X.w X.K X.mg X.base C m k ps sp)(hr:Room j X.A)(hj:k<=j)(hx:↑91)(ha:↑121)(hst:autoParam (starEach (e::es) X.env=(false,eval e X.env)::starEach es X.env) q4)(hpl:autoParam ((backTo pos ↑83).any (·.1)=false) q4)(ht:eval ↑76 X.env=(do
   let ov <- eval o X.env
   standAt apos.atName
   let (f,first) <- holding [ov] (getMethod ov m pl)
   callWith pos f first (backTo pos (starEach (e::es) X.env)) ↑80):=by rfl):
  PE X ↑76 (tMt C m sp E ta t):=by
 obtain⟨f,fd,F,hm,hb⟩:=G.ex;fail "x";refine e0p (ds:=[]) (dvs:=[]) he c hm F (hr.mono hj) hb .nil hx ha hst hpl ht pins s σ H Q I ?_;show ta σ H λx H1=>∃a dx fs,x=.ref a/\H1 a=some ↑66/\fs.lookup m=none/\t σ H1 λvs H2=>sp (x::(vs++[])) H2 Q E;simp only[List.append_nil];exact h
theorem c0n(he:PE X o ta)(c:Cls X.K C)(G:MethT X.prog X.w X.K X.mg X.base C m k ps sp)(hr:Room j X.A)(hj:k<=j)(hx:↑91)(ht:eval ↑96 X.env=(do
   let ov <- eval o X.env
   standAt apos.atName
   let (f,first) <- holding [ov] (getMethod ov m pl)
   callWith pos f first (backTo pos (starEach [] X.env)) ↑80):=by rfl):
  PE X ↑96 (tMt C m sp E ta d8n):=by
 obtain⟨f,fd,F,hm,hb⟩:=G.ex;exact d6w (ds:=[]) (dvs:=[]) he c hm F (hr.mono hj) hb .nil hx ht
theorem d6v(G:MakeT X.prog X.w X.K X.mg X.base x C k ps sp)(hr:Room j X.A)(hj:k+1<=j)(hg:Gl X x)(hx:↑91)(ha:↑121)(hdb:autoParam (↑33=false) q2)(he:autoParam (starEach (e::es) X.env=(false,eval e X.env)::starEach es X.env) q4)(hpl:autoParam ((backTo pos ↑83).any (·.1)=false) q4):PE X ↑84 (tMk C sp E t):=by
 obtain⟨f,fd,F,M,hm,hb⟩:=G.ex;fail "x";refine e0q (ds:=[]) (dvs:=[]) M F (hr.mono hj) hg hm hb .nil hx ha hdb he hpl pins s σ H Q I ?_;show t σ H λvs H1=>∀x dx,H1 x=none->H1 dx=none->dx≠x->sp (.ref x::(vs++[])) (upd (upd H1 dx (.own x)) x (.ins C dx [])) (λv H2=>v=.non/\Q (.ref x) H2) E;simp only[List.append_nil];exact h
end
section
variable{X:Cx}{o e value:Expr}{f:Str}{pos pos' tpos:Pos}{ta tv:TE}
theorem a4x{K:Frag}(he:PE X e ta)(hK:autoParam (X.K=K) q4)(hb:autoParam (attributeBase e f X.env (eval e X.env)=eval e X.env) q4):PE X (.Attribute e f pos) (e6p K ta f):=hK ▸ e3r he hb
theorem o8{K:Frag}(ha:PE X o ta)(hv:PE X value tv)(hK:autoParam (X.K=K) q4)(hs:autoParam (swapsWith value (some (.Attribute o f pos')) pos.line X.env=pure false) q4):PS X (.Assign [.Attribute o f pos'] value pos) (e6r K ta tv f):=hK ▸ e3m ha hv hs
theorem d1f{K:Frag}{op:Operator}{rd:V->V->Hp->VK->Prop}(ha:PE X o ta)(hv:PE X value tv)(hop:e8b X op rd)(hK:autoParam (X.K=K) q4):PS X (.AugAssign (.Attribute o f tpos) op value pos) (c7u K ta tv rd f):=hK ▸ d3a ha hv hop
end
def KTup(K:↑29)(p:Addr)(xs:List V):Prop:=∃(its:Array Value)(n:Nat)(sl:Array (Option Value)),K.lookup p=some ⟨.type "tuple",none,.seq its n,sl⟩/\its.size<=sizeLine/\Vals xs its.toList
theorem KTup.sq{K:Frag}{p:Addr}{xs:List V}{H:Hp}(h:KTup K p xs):SqT K H p xs:=by obtain⟨its,n,sl,a,b,c⟩:=h;exact .inr ⟨_,its,n,a,rfl,rfl,b,c⟩
theorem KTup.ty{K:Frag}{p:Addr}{xs:List V}{H:Hp}(h:KTup K p xs):tyV K "tuple" (.ref p) H:=by obtain⟨_,_,_,a,_,_⟩:=h;exact .inr (.inl ⟨rfl,_,a,rfl,rfl⟩)
theorem a7q{X:Cx}{x:Str}{a:Addr}{pos:Pos}(hm:X.mg x=some (.ref a))(hg:Gl X x)(hd:autoParam (↑33=false) q2):PE X (.Name x pos) (tC (.ref a)):=c7x hg hm rfl hd
theorem c3v(l:Addr)(a b:Value)(n:Nat)(dd:Option Addr)(sl:Array (Option Value))(x:Value)(e:Value->Bool)(j:Nat)(hj:j=if e a then 0 else 1)(hit:e a=true\/e b=true):
  Meets (Builtin.«tuple.index» ⟨[.ref l,x],[]⟩)
   (λA R s=>s.heap.get? l=some { cls:=.type "tuple",dict:=dd,data:=.seq #[a,b] n,slots:=sl }/\(∀y,y ∈ #[a,b]->EqAt A.in1 s y x (e y))/\R (.ok (.ret (.int j s.toks))) { s with toks:=s.toks+1 }):=by
 intro prog w A R s h;obtain⟨hp,g,d,tk,os⟩:=s;obtain⟨hl,he,h⟩:=h;unfold Builtin.«tuple.index»;simp only[Std.Legacy.Range.forIn_eq_forIn_range']
 wp_walk using wpAny_loadPart' hl
 have e0:[:min #[a,b].size #[a,b].size].size=2:=by simp[Std.Legacy.Range.size]
 generalize hL:[:min #[a,b].size #[a,b].size].size=N at e0 ⊢;subst e0;change wpAny ↑56 A.in1 (List.forIn'.loop [0,1] _ [0,1] (none,()) _) _ _ _;change wpAny ↑56 A.in1 ((eqBool a x >>= _) >>= _) _ _ _;refine wpAny_bind ?_;refine wpAny_bind (he a (by simp) prog w _ _ ?_)
 cases ea:e a with
 | true=>
  rw[ea] at hj;subst hj
  wp_walk
  exact h
 | false=>
  rw[ea] at hj;subst hj;refine wpAny_pure ?_;change wpAny ↑56 A.in1 ((eqBool b x >>= _) >>= _) _ _ _;refine wpAny_bind ?_;refine wpAny_bind (he b (by simp) prog w _ _ ?_)
  rw[hit.resolve_left (by rw[ea];exact Bool.false_ne_true)]
  wp_walk
  exact h
def d2v(K:↑29):V->List V->Hp->VK->Prop:=λx vs H Q=>∃p y z1 z2,x=.ref p/\vs=[y]/\KTup K p [z1,z2]/\a5b z1=true/\a5b z2=true/\a5b y=true/\(eqV z1 y=true\/eqV z2 y=true)/\Q (.int (if eqV z1 y then 0 else 1)) H
section
variable{X:Cx}
theorem d4b:MtM X "tuple.index" (d2v X.K):=by
 intro pins s σ H x vs v us Q I rx rv h;obtain⟨p,y,z1,z2,rfl,rfl,⟨its,n,sl,lk,hz,r⟩,f1,f2,fy,hit,q⟩:=h;cases rx;obtain⟨u,rfl,ru⟩:=rv.one;obtain⟨u1,u2,eu,r1,r2⟩:=r.two;have hi:its=#[u1,u2]:=by apply Array.toList_inj.mp;rw[eu]
 subst hi;have e:=I.kIn _ _ lk;have fx:([z1,z2]:List V).all a5b=true:=by simp[f1,f2]
 have h1:eqU y u1=eqV z1 y:=d0l r1 f1;have h2:eqU y u2=eqV z2 y:=d0l r2 f2;refine call_meets F.slot_tuple_index ⟨_,e,rfl⟩ F.entry_tuple_index (F.args_tuple_index_2 _ _) (c3v p u1 u2 n none sl u (eqU y) (if eqU y u1 then 0 else 1) rfl (by rw[h1,h2];exact hit)) ⟨e,λw hw=>a9z ru fy r fx w (by simpa using hw),?_⟩
 rw[h1];refine⟨.int (if eqV z1 y then 0 else 1),H,I.tok _,?_,q⟩;by_cases c:eqV z1 y=true
 ·rw[if_pos c,if_pos c];exact⟨_,rfl⟩
 ·rw[if_neg c,if_neg c];exact⟨_,rfl⟩
theorem d1h{K:Frag}{o e:Expr}{to:TE}{t:TA}{apos cpos:Pos}(ho:PE X o to)(ha:PA X [e] t)(hK:autoParam (X.K=K) q4)(hbase:autoParam (attributeBase o "index" X.env (eval o X.env)=eval o X.env) q4)(hfew:autoParam (((backTo cpos (starEach [e] X.env)).all (λx=>!x.1) && (backToKw cpos (keywordEach [] X.env)).all (λx=>x.1.isSome) && decide ([e].length+([]:List Keyword).length+(if ([]:List Keyword).isEmpty then 0 else 1)<30))=true) q4)(hline:autoParam ((apos.endLine == cpos.line)=true) q4)(hs:autoParam (starEach [e] X.env=(false,eval e X.env)::starEach [] X.env) q4)(hplain:autoParam ((backTo cpos (starEach [] X.env)).any (·.1)=false) q4):
  PE X (.Call (.Attribute o "index" apos) [e] [] cpos) (tBM K "tuple" (d2v K) to t) :=
 hK ▸ e3s PySem.F.plainAttrs_tuple PySem.F.slot_tuple_index PySem.F.type_tuple_index (λpins s σ H x xs v us Q I rx rs q=>d4b pins s σ H x xs v us Q I rx rs q) ho ha hbase hfew hline hs hplain
end
section
variable{K:Frag}{σ:St}{H:Hp}{Q:VK}{i:Nat}{v x y:V}{r:R2}{ta tb:TE}{nx bk ct:St->Hp->Prop}{rt:VK}{E:XK}{C:Addr}{m:Str}{sp:Sp}{t:TA}{J:St->XK}
theorem e7e(h:σ[i]?=some (some v))(q:Q v H):e5u i σ H Q:=⟨v,h,q⟩
noncomputable def tVm(i:Nat):TE:=λσ H Q=>match σ[i]? with
 | some (some v)=>Q v H
 | _=>False
theorem pu(i:Nat){X:Cx}{x:Str}{pos:Pos}(hN:autoParam (X.N[i]?=some x) q4)(hv:autoParam (Vis X.env.scope x) q5)(hd:autoParam (↑33=false) q2)(hcd:autoParam ((x == ("__classdict__":Str))=false) q2):PE X (.Name x pos) (tVm i):=λpins s σ H Q I h=>pv i hN hv hd hcd pins s σ H Q I (by
 unfold tVm at h;split at h
 ·exact⟨_,by assumption,h⟩
 ·exact h.elim)
theorem e9j(h:σ[i]?=some (some v))(q:Q v H):tVm i σ H Q:=by unfold tVm;rw[h];exact q
theorem g_c(q:Q v H):tC v σ H Q:=q
theorem e9n(q:ta σ H λx H1=>tb σ H1 λy H2=>r x y H2 Q):tOp r ta tb σ H Q:=q
theorem e9k{r:V->Hp->VK->Prop}(q:ta σ H λx H1=>r x H1 Q):tUn r ta σ H Q:=q
theorem e9w{g:Int->Int->V}{a b:Int}(q:Q (g a b) H):rI0 g (.int a) (.int b) H Q:=⟨a,b,rfl,rfl,q⟩
theorem g_I{c:Int->Int->Prop}{g:Int->Int->V}{a b:Int}(h:c a b)(q:Q (g a b) H):rI c g (.int a) (.int b) H Q:=⟨a,b,rfl,rfl,h,q⟩
theorem g_U{g:Int->V}{a:Int}(q:Q (g a) H):rU g (.int a) H Q:=⟨a,rfl,q⟩
theorem e8t(h:e5x x y=true)(q:Q (.bl (decide (x=y))) H):rEq x y H Q:=⟨h,q⟩
theorem e9o(h:e5x x y=true)(q:Q (.bl (!decide (x=y))) H):rNe x y H Q:=⟨h,q⟩
theorem e5h{n:Nat}{p q:Addr}{b:Bool}(h:EqD K H (n+1) (.ref p) (.ref q) b)(z:Q (.bl b) H):e8p K n (.ref p) (.ref q) H Q:=⟨p,q,b,rfl,rfl,h,z⟩
theorem e1r{n:Nat}{p q:Addr}{b:Bool}(h:EqD K H (n+1) (.ref p) (.ref q) b)(z:Q (.bl (!b)) H):e8m K n (.ref p) (.ref q) H Q:=⟨p,q,b,rfl,rfl,h,z⟩
theorem a1c{p:Addr}{xs:List V}{j:Int}(h:↑92)(e:atI xs j=some v)(q:Q v H):e6u K (.ref p) (.int j) H Q:=⟨p,xs,j,v,rfl,rfl,SqL.of h,e,q⟩
theorem e5e{p:Addr}{xs:List V}(h:↑92)(q:Q (.int xs.length) H):e8n K [.ref p] H Q:=⟨p,xs,rfl,.inl (SqL.of h),q⟩
theorem e5d{p:Addr}{xs:List V}(h:↑92)(q:∀l,H l=none->Q (.ref l) (upd H l (.lst xs))):d2u K [.ref p] H Q:=⟨p,xs,rfl,.inl (SqL.of h),q⟩
theorem e9t{r:List V->Hp->VK->Prop}(q:t σ H λvs H1=>r vs H1 Q):tCB r t σ H Q:=q
theorem e7n{Q:List V->Hp->Prop}(q:Q [] H):d8n σ H Q:=q
theorem e5k{Q:List V->Hp->Prop}(q:ta σ H λx H1=>t σ H1 λxs H2=>Q (x::xs) H2):d9z ta t σ H Q:=q
theorem e7g(q:t σ H λxs H1=>xs.length<=sizeLine/\∀p,H1 p=none->Q (.ref p) (upd H1 p (.tup xs))):e8e t σ H Q:=q
theorem e7p(q:t σ H λxs H1=>xs.length<=sizeLine/\∀p,H1 p=none->Q (.ref p) (upd H1 p (.lst xs))):e8i t σ H Q:=q
theorem e9s(q:t σ H λvs H1=>sp vs H1 Q E):tFn sp E t σ H Q:=q
theorem e7s{f:Str}(q:ta σ H λx H1=>∃a C dx fs v,x=.ref a/\H1 a=some ↑66/\Cls K C/\NoAttr K C f/\fs.lookup f=some v/\Q v H1):e6p K ta f σ H Q:=q
theorem e5g{f:Str}{a dx:Addr}{fs:List (Str×V)}{R:V->Prop}(h:H a=some ↑66)(c:Cls K C)(n:NoAttr K C f)(l:fs.lookup f=some v)(q:R v):
  ∃a' C dx fs v,V.ref a=.ref a'/\H a'=some ↑66/\Cls K C/\NoAttr K C f/\fs.lookup f=some v/\R v:=⟨a,C,dx,fs,v,rfl,h,c,n,l,q⟩
theorem e9p(q:ta σ H λx H1=>∃a dx fs,x=.ref a/\H1 a=some ↑66/\fs.lookup m=none/\t σ H1 λvs H2=>sp (x::vs) H2 Q E):tMt C m sp E ta t σ H Q:=q
theorem e7o{a dx:Addr}{fs:List (Str×V)}{R:Prop}(h:H a=some ↑66)(l:fs.lookup m=none)(q:R):∃a' dx fs,V.ref a=.ref a'/\H a'=some ↑66/\fs.lookup m=none/\R:=⟨a,dx,fs,rfl,h,l,q⟩
theorem e9q(q:t σ H λvs H1=>∀x dx,H1 x=none->H1 dx=none->dx≠x->sp (.ref x::vs) (upd (upd H1 dx (.own x)) x (.ins C dx [])) (λv H2=>v=.non/\Q (.ref x) H2) E):tMk C sp E t σ H Q:=q
theorem e4t{Q:Bool->Hp->Prop}(q:ta σ H λx H'=>∃k,x=.bl k/\Q k H'):d9w ta σ H Q:=q
theorem e9l{Q:Bool->Hp->Prop}(q:ta σ H λx H'=>∃k,x=.bl k/\Q k H'):tB ta σ H Q:=q
theorem e9v{Q:Bool->Prop}{b:Bool}(q:Q b):∃k,V.bl b=.bl k/\Q k:=⟨b,rfl,q⟩
theorem e7v{u w:TT}{Q:Bool->Hp->Prop}(q:u σ H λc H1=>if c=true then w σ H1 Q else Q false H1):e8k u w σ H Q:=q
theorem e9m{u w:TT}{Q:Bool->Hp->Prop}(q:u σ H λc H1=>if c=true then Q true H1 else w σ H1 Q):tOr u w σ H Q:=q
theorem e7m{u:TT}{Q:Bool->Hp->Prop}(q:u σ H λc H1=>Q (!c) H1):e8h u σ H Q:=q
theorem e5o(q:ta σ H λx H1=>∃c,x=.bl c/\if c=true then tb σ H1 Q else Q (.bl false) H1):e3b ta tb σ H Q:=q
theorem e7l(q:ta σ H λx H1=>∃c,x=.bl c/\if c=true then Q (.bl true) H1 else tb σ H1 Q):e8g ta tb σ H Q:=q
theorem e4z(q:ta σ H λx H1=>∃c,x=.bl c/\Q (.bl (!c)) H1):e2s ta σ H Q:=q
theorem e7q{u:TT}(q:u σ H λc H1=>if c=true then ta σ H1 Q else tb σ H1 Q):tIf u ta tb σ H Q:=q
theorem e5a(q:nx σ H):d9y ↑120 σ H:=q
theorem e5i(q:ta σ H λ_ H1=>nx σ H1):e2v ta ↑120 σ H:=q
theorem e7i(q:ta σ H rt):e8f ta ↑120 σ H:=q
theorem e9r{c:TT}{s u:TS}{D:d9h}(q:c σ H λb H1=>if b=true then s D σ H1 else u D σ H1):e6o c s u D σ H:=q
theorem e7u{g:TG}(q:ta σ H λx H1=>g x σ H1 nx):e3a ta g ↑120 σ H:=q
theorem d4v{k:St->Hp->Prop}(q:k (σ.set i (some v)) H):d2d i v σ H k:=q
theorem e7h{ts:e6f}{k:St->Hp->Prop}(q:ta σ H λo H1=>tb σ H1 λj H2=>ts o j v H2 λH3=>k σ H3):e8v ta tb ts v σ H k:=q
theorem d4t{p:Addr}{xs:List V}{z:Int}{j:Nat}{k:Hp->Prop}(h:↑92)(e:ixN xs.length z=some j)(q:k (upd H p (.lst (xs.set j v)))):e3k (.ref p) (.int z) v H k:=⟨p,xs,z,j,rfl,rfl,h,e,q⟩
theorem e4u{f:Str}(q:tb σ H λy H1=>ta σ H1 λx H2=>∃a C dx fs,x=.ref a/\H2 a=some ↑66/\Cls K C/\NoAttr K C f/\fs.length<1000/\nx σ (upd H2 a (.ins C dx (b9q f y fs)))):e6r K ta tb f ↑120 σ H:=q
theorem e1q{f:Str}{a dx:Addr}{fs:List (Str×V)}{R:Addr->Addr->Addr->List (Str×V)->Prop}(h:H a=some ↑66)(c:Cls K C)(n:NoAttr K C f)(l:fs.length<1000)(q:R a C dx fs):
  ∃a' C dx fs,V.ref a=.ref a'/\H a'=some ↑66/\Cls K C/\NoAttr K C f/\fs.length<1000/\R a' C dx fs:=⟨a,C,dx,fs,rfl,h,c,n,l,q⟩
theorem e7t{f:Str}{rd:V->V->Hp->VK->Prop}(q:ta σ H λx H1=>∃a C dx fs v,x=.ref a/\H1 a=some ↑66/\Cls K C/\NoAttr K C f/\fs.lookup f=some v /\
  tb σ H1 λy H2=>rd v y H2 λz H3=>∃dx' fs',H3 a=some (.ins C dx' fs')/\fs'.length<1000/\nx σ (upd H3 a (.ins C dx' (b9q f z fs')))):c7u K ta tb rd f ↑120 σ H:=q
theorem e5n{f:Str}{a dx:Addr}{fs:List (Str×V)}{R:Addr->Addr->V->Prop}(h:H a=some ↑66)(c:Cls K C)(n:NoAttr K C f)(l:fs.lookup f=some v)(q:R a C v):
  ∃a' C dx fs v,V.ref a=.ref a'/\H a'=some ↑66/\Cls K C/\NoAttr K C f/\fs.lookup f=some v/\R a' C v:=⟨a,C,dx,fs,v,rfl,h,c,n,l,q⟩
theorem e5m{a dx:Addr}{fs:List (Str×V)}{R:Addr->List (Str×V)->Prop}(h:H a=some ↑66)(l:fs.length<1000)(q:R dx fs):
  ∃dx' fs',H a=some (.ins C dx' fs')/\fs'.length<1000/\R dx' fs':=⟨dx,fs,h,l,q⟩
theorem e4y{a b:Int}(q:Q (.int (a+b)) H):e8r (.int a) (.int b) H Q:=⟨a,b,rfl,rfl,q⟩
theorem c6m{t cv:Value}{c:V}{b:Bool}(ty:TyX K H x t)(hc:e6d c=some cv)(hk:kitOne K t cv=some b)(q:Q (.bl b) H):e8o K [x,c] H Q:=⟨x,c,t,cv,b,rfl,ty,hc,hk,q⟩
theorem e9u{T:String}{r:V->List V->Hp->VK->Prop}(q:ta σ H λx H1=>tyV K T x H1/\t σ H1 λxs H2=>r x xs H2 Q):tBM K T r ta t σ H Q:=q
theorem d2c{p:Addr}{xs:List V}(h:↑92)(l:xs.length<sizeLine)(q:Q .non (upd H p (.lst (xs++[y])))):c2g (.ref p) [y] H Q:=⟨p,xs,y,rfl,rfl,h,l,q⟩
theorem e7f{p:Addr}{xs:List V}{R:Prop}(h:↑92)(q:R):tyV K "list" (.ref p) H/\R:=⟨.inl ⟨rfl,xs,SqL.of h⟩,q⟩
theorem d4y{p q:Addr}{xs ys:List V}(h:↑92)(h':H q=some (.lst ys))(l:xs.length+ys.length<=sizeLine)(k:∀z,H z=none->Q (.ref z) (upd H z (.lst (xs++ys)))):e8q (.ref p) (.ref q) H Q:=⟨p,q,xs,ys,rfl,rfl,h,h',l,k⟩
end
theorem a4j{c:Prop}[Decidable c]{A B:Prop}(h1:c->A)(h2:¬ c->B):if decide c=true then A else B:=by
 by_cases h:c
 ·rw[decide_eq_true h];exact e6c (h1 h)
 ·rw[decide_eq_false h];exact e4j (h2 h)
theorem d8y{c:Prop}[Decidable c]{A B:Prop}(h1:¬ c->A)(h2:c->B):if (!decide c)=true then A else B:=by
 by_cases h:c
 ·rw[decide_eq_true h];exact e4j (h2 h)
 ·rw[decide_eq_false h];exact e6c (h1 h)
theorem d4w{b:Bool}{A B:Prop}(h1:b=true->A)(h2:b=false->B):if b=true then A else B:=by
 cases b
 ·exact e4j (h2 rfl)
 ·exact e6c (h1 rfl)
section
variable{K:Frag}{σ:St}{H:Hp}{ta:TE}{t:TA}
theorem e7r{wi:TI}{g:TG}{tb:TS}{D:d9h}(q:wi σ H λJ H1=>∃W:Nat->Nat->St->Hp->Prop,(∃m,W 0 m σ H1)/\∀i m σ H,W i m σ H ->
  (J.stop i H/\D.nx σ H)\/(J.go i H/\∃N:St->Hp->Prop,(∀σ' H',N σ' H'->∃m',m'<m/\W (i+1) m' σ' H')/\∀x H',J.yld i H x H'->g x σ H' λσ2 H2=>tb { D with nx:=N,ct:=N,bk:=D.nx } σ2 H2)):e8j wi g tb D σ H:=q
theorem e4x{R:It->Hp->Prop}(q:t σ H λvs H1=>∃j:Int,vs=[.int j]/\-(2 ^ 62)<=j/\j<2 ^ 62/\R (Itr 0 j.toNat) H1):e4n t σ H R:=q
theorem e4w{R:It->Hp->Prop}(q:t σ H λvs H1=>∃i j:Int,vs=[.int i,.int j]/\(-(2 ^ 62)<=i/\i<2 ^ 62/\-(2 ^ 62)<=j/\j<2 ^ 62)/\R (Itr i (j-i).toNat) H1):e4m t σ H R:=q
theorem d8x{N:Int}{R:Int->Prop}(h1:-(2 ^ 62)<=N)(h2:N<2 ^ 62)(q:R N):∃j,[V.int N]=[.int j]/\-(2 ^ 62)<=j/\j<2 ^ 62/\R j:=⟨N,rfl,h1,h2,q⟩
theorem e5b{R:It->Hp->Prop}(q:ta σ H λx H1=>∃a,x=.ref a/\(∃xs,SqL K H1 a xs)/\R (Itl K a) H1):e1e K ta σ H R:=q
theorem e5c{a:Addr}{xs:List V}{R:Addr->Prop}(h:SqL K H a xs)(q:R a):∃a',V.ref a=.ref a'/\(∃xs,SqL K H a' xs)/\R a':=⟨a,rfl,⟨xs,h⟩,q⟩
theorem e5l{wi:TI}{nt:Nat}{fr:List Nat}{g:TG}{te:TE}{Q:VK}(q:wi σ H λJ H1=>∀D,H1 D=none->∃(n:Nat) (W:↑113),W 0 [] (upd H1 D (.lst [])) /\
 ∀i acc H,W i acc H->H D=some ↑88/\acc.length<sizeLine /\
  ((J.stop i H/\Q (.ref D) H)\/(i<n/\J.go i H/\∀x H',J.yld i H x H'->g x ↑68 H' λσ2 H2=>te σ2 H2 λy H3=>H3 D=some ↑88/\W (i+1) ↑50 (upd H3 D ↑44)))):e0a wi nt fr g te σ H Q:=q
theorem d6n{a b:TS}{nx bk ct:St->Hp->Prop}{rt:VK}(M:St->Hp->Prop)(hb:∀σ' H',M σ' H'->b ↑120 σ' H')(ha:∀R:St->Hp->Prop,(∀σ' H',M σ' H'->R σ' H')->a ⟨R,rt,bk,ct⟩ σ H):e5v a b ↑120 σ H:=ha _ hb
theorem e7b{A B:Prop}(h:B):if (!true)=true then A else B:=h
theorem e7c{A B:Prop}(h:A):if (!false)=true then A else B:=h
theorem b0d{a:Addr}{xs:List V}{nt:Nat}{fr:List Nat}{g:TG}{te:TE}{Q:Addr->Hp->Prop}(hz:xs.length<sizeLine)(Pv:Addr->Nat->List V->Hp->Prop)(h0:∀D,H D=none->Pv D 0 [] ↑108)(hk:∀D i acc H',Pv D i acc H'->H' D=some ↑88/\acc.length=i/\SqL K H' a xs)(hs:∀D i x acc H',H D=none->xs[i]?=some x->Pv D i acc H'->g x ↑68 H' λσ2 H2=>te σ2 H2 λy H3=>H3 D=some ↑88/\Pv D (i+1) ↑50 (upd H3 D ↑44))(hd:∀D acc H',H D=none->Pv D xs.length acc H'->Q D H'):
  ∀D,H D=none->∃(m:Nat)(W:↑113),W 0 [] ↑108/\∀i acc H',W i acc H'->H' D=some ↑88/\acc.length<sizeLine /\
   (((Itl K a).stop i H'/\Q D H')\/(i<m/\(Itl K a).go i H'/\∀x H2,(Itl K a).yld i H' x H2->g x ↑68 H2 λσ2 H3=>te σ2 H3 λy H4=>H4 D=some ↑88/\W (i+1) ↑50 ↑144)):=by
 intro D hD;refine⟨xs.length,λi acc H'=>i<=xs.length/\(i<xs.length->Pv D i acc H')/\(i=xs.length->Pv D i acc H'),⟨Nat.zero_le _,λ_=>h0 D hD,λ_=>h0 D hD⟩,?_⟩;rintro i acc H' ⟨hi,p1,p2⟩;have p:Pv D i acc H':=by
  by_cases h:i<xs.length
  ·exact p1 h
  ·exact p2 ↑2
 obtain⟨k1,k2,k3⟩:=hk D i acc H' p;refine⟨k1,by lia,?_⟩
 by_cases h:i<xs.length
 ·refine .inr ⟨h,⟨xs,xs[i],k3,List.getElem?_eq_getElem h⟩,?_⟩
  rintro x H2 ⟨rfl,hy⟩;have ex:xs[i]?=some x:=hy xs k3;have key:=hs D i x acc _ hD ex p;have e:(λ(σ2:St) (H2:Hp)=>te σ2 H2 λy H3=>H3 D=some ↑88/\Pv D (i+1) ↑50 (upd H3 D ↑44))=(λ(σ2:St) (H3:Hp)=>te σ2 H3 λy H4=>H4 D=some ↑88/\i+1<=xs.length/\(i+1<xs.length->Pv D (i+1) ↑50 ↑144)/\(i+1=xs.length->Pv D (i+1) ↑50 ↑144)):=by
   funext σ2 H3;have:(λ(y:V) (H3:Hp)=>H3 D=some ↑88/\Pv D (i+1) ↑50 (upd H3 D ↑44))=(λ(y:V) (H4:Hp)=>H4 D=some ↑88/\i+1<=xs.length/\(i+1<xs.length->Pv D (i+1) ↑50 ↑144)/\(i+1=xs.length->Pv D (i+1) ↑50 ↑144)):=by
    funext y H4;apply propext;constructor
    ·rintro⟨z1,z2⟩
     exact⟨z1,h,λ_=>z2,λ_=>z2⟩
    ·rintro⟨z1,z2,z3,z4⟩
     refine⟨z1,?_⟩;by_cases hh:i+1<xs.length
     ·exact z3 hh
     ·exact z4 ↑2
   rw[this]
  rw[e] at key;exact key
 ·have hi':i=xs.length:=by lia
  subst hi';exact .inl ⟨⟨xs,k3,Nat.le_refl _⟩,hd D acc H' hD p⟩
end
noncomputable def KDict(P:Program)(w:World)(K:↑29)(d:Addr)(kvs:List (Str×Value)):Prop :=
 (d == sysModules)=false/\∃(es:Array DictEntry)(ep:Nat),K.lookup d=some ⟨.type "dict",none,.dict es ep,#[]⟩/\KeysOf (strKind P w) es/\Pairs (strKind P w) es.toList kvs/\(kvs.map (·.1)).Nodup
theorem KDict.at{P:Program}{w:World}{K:Frag}{d:Addr}{kvs:List (Str×Value)}{h:Heap}(x:KDict P w K d kvs)(k:K.In h):h.DictOf (strKind P w) d kvs:=by
 obtain⟨_,es,ep,lk,a,b,c⟩:=x;exact⟨_,es,ep,k _ _ lk,⟨rfl,rfl,rfl⟩,rfl,a,b,c⟩
noncomputable def e2g(w:World)(ps:List (Str×Tok×Value)):List DictEntry:=ps.map λp=>⟨hashStr w p.1,.str p.1 p.2.1,p.2.2⟩
theorem KDict.mk'{P:Program}{w:World}{K:Frag}{d:Addr}{ps:List (Str×Tok×Value)}{ep:Nat}(hd:(d == sysModules)=false)(l:K.lookup d=some ⟨.type "dict",none,.dict (e2g w ps).toArray ep,#[]⟩)(n:(ps.map (·.1)).Nodup):
  KDict P w K d (ps.map λp=>(p.1,p.2.2)):=by
 refine⟨hd,_,ep,l,?_,?_,?_⟩
 ·intro e he
  simp only[List.mem_toArray] at he;obtain⟨p,_,rfl⟩:=List.mem_map.mp he;exact⟨p.1,strKind_is P w p.1 p.2.1,rfl⟩
 ·show Pairs _ (e2g w ps) _
  clear l n
  induction ps with
  | nil=>exact .nil
  | cons p ps ih=>exact .cons (strKind_is P w p.1 p.2.1) rfl ih
 ·rw[List.map_map]
  exact n
section
variable{X:Cx}
noncomputable def e9f(P:Program)(w:World)(K:↑29):R2:=λx y H Q=>∃(d:Addr)(z:Str)(kvs:List (Str×Value)),x=.str z/\y=.ref d/\KDict P w K d kvs/\Q (.bl (valueAt kvs z).isSome) H
theorem d3r{K:Frag}(h:autoParam (X.K=K) q4):OpR X (compareOp .In) (e9f X.prog X.w K):=by
 subst h;intro pins s σ H x y v u Q I rx ry hq;obtain⟨d,z,kvs,rfl,rfl,kd,q⟩:=hq;obtain⟨t,rfl⟩:=rx;cases ry;exact wpAny_in_of (strKind_is X.prog X.w z t) kd.1 (kd.at I.kIn).mapOf ⟨.bl _,H,I.tok _,rfl,q⟩
noncomputable def e6t(P:Program)(w:World)(K:↑29):R2:=λx y H Q=>∃(d:Addr)(z:Str)(kvs:List (Str×Value))(u:Value)(v:V),x=.ref d/\y=.str z/\KDict P w K d kvs/\valueAt kvs z=some u/\RelV v u/\Q v H
theorem d7m{K:Frag}(h:autoParam (X.K=K) q4):IxR X (e6t X.prog X.w K):=by
 subst h;intro value slice pins s σ H x y v u Q I rx ry hq hs;obtain⟨d,z,kvs,u',v',rfl,rfl,kd,hv,rv,q⟩:=hq;cases rx;obtain⟨t,rfl⟩:=ry;have dd:=kd.at (P:=X.prog) (w:=X.w) I.kIn;exact subscriptTail_builtinR (x:=u') dd.typeIs PySem.F.slot_dict_getitem.lookup (wpAny_getItem_of (strKind_is X.prog X.w z t) dd.mapOf hv ⟨rfl,v',H,I.tok _,rv,q⟩) hs
structure FnV(P:Program)(w:World)(K:↑29)(mg:↑67)(base:Heap)(f:Addr)(k:Nat)(ps:List Str)(sp:Sp):Prop where
 ex:∃fd:FuncData,FnOk P w K mg base (CXK P w) k f fd ps sp/\keepIn K (.ref f)=true/\Binds K fd ps []
theorem FnV.mono{P:Program}{w:World}{K:Frag}{mg:Str->Option Value}{base:Heap}{f:Addr}{j k:Nat}{ps:List Str}{sp:Sp}(F:FnV P w K mg base f j ps sp)(h:j<=k):FnV P w K mg base f k ps sp:=by
 obtain⟨fd,F,a,b⟩:=F.ex;exact⟨fd,F.mono h,a,b⟩
noncomputable def e2y(P:Program)(w:World)(K:↑29)(mg:↑67)(base:Heap)(k i:Nat)(E:XK)(t:TA):TE:=λσ H Q=>∃f ps sp,σ[i]?=some ↑116/\FnV P w K mg base f k ps sp/\t σ H λvs H1=>sp vs H1 Q E
variable{k j i:Nat}{E:XK}{x:Str}{p pos:Pos}{e:Expr}{es:List Expr}{t:TA}
theorem b6z(hi:X.N[i]?=some x)(hv:Vis X.env.scope x)(hr:Room j X.A)(hj:k<=j)(hx:↑91)(ha:↑121)(hd:autoParam (↑33=false) q2)(hcd:autoParam ((x == ("__classdict__":Str))=false) q2)(he:autoParam (starEach (e::es) X.env=(false,eval e X.env)::starEach es X.env) q4)(hpl:autoParam ((backTo pos ↑83).any (·.1)=false) q4):
  PE X ↑84 (e2y X.prog X.w X.K X.mg X.base k i E t):=by
 fail "x";obtain⟨f,ps,sp,ef,F,q⟩:=h;obtain⟨fd,F,hk,hb⟩:=F.ex;have hp:=d8r hi hv hd hcd (pos:=p) pins s σ H (λv H'=>v=.ref f/\H'=H) I ⟨.ref f,ef,rfl,rfl⟩;refine wpAny_Call_Name_kw (thn hp λu s1 z0_=>?_);obtain⟨v,H',I1,rv,ev,eH⟩:=z0_;subst ev;subst eH;cases rv;refine callWith_K (h₀:=X.base) I.ok.mod.kin hk (thn (ha pos pins s1 σ H' _ I1 q) λus s2 z0_=>?_) he hpl;obtain⟨vs,H1,I2,r,q2⟩:=z0_;refine⟨I2.kIn,?_⟩;refine b6j (ds:=[]) (dvs:=[]) F (hr.mono hj) hb .nil hx I2 r ?_;simp only[List.append_nil];exact q2
structure e9a(K:↑29)(C:Addr)(m:Str)(f:Addr):Prop where
 ga:specialIn K (.ref C) "__getattribute__" = some (some (.builtin "type.__getattribute__"))
 mc:∃mc,PySem.W.readsIn K C mc=true/\PySem.W.findCls K (.ref C) mc m=some (.val (.ref f))
 kp:keepIn K (.ref f)=true
structure d5x(P:Program)(w:World)(K:↑29)(mg:↑67)(base:Heap)(x:Str)(m:Str)(k:Nat)(ps:List Str)(sp:Sp):Prop where
 ex:∃(C f:Addr)(fd:FuncData),FnOk P w K mg base (CXK P w) k f fd ps sp/\e9a K C m f/\mg x=some (.ref C)/\Binds K fd ps []
variable{m:Str}{apos:Pos}{ps:List Str}{sp:Sp}{pl:Sem Bool}
theorem d3l(G:d5x X.prog X.w X.K X.mg X.base x m k ps sp)(hr:Room j X.A)(hj:k<=j)(hg:Gl X x)(hx:↑91)(ha:↑121)(hdb:autoParam (↑33=false) q2)(hst:autoParam (starEach (e::es) X.env=(false,eval e X.env)::starEach es X.env) q4)(hpl:autoParam ((backTo pos ↑83).any (·.1)=false) q4)(ht:eval (.Call (.Attribute (.Name x p) m apos) (e::es) [] pos) X.env=(do
   let ov <- eval (.Name x p) X.env
   standAt apos.atName
   let (f,first) <- holding [ov] (getMethod ov m pl)
   callWith pos f first (backTo pos (starEach (e::es) X.env)) ↑80):=by rfl):
  PE X (.Call (.Attribute (.Name x p) m apos) (e::es) [] pos) (tFn sp E t):=by
 obtain⟨C,f,fd,F,M,hm,hb⟩:=G.ex;fail "x";have hp:=c7x (X:=X) (x:=x) (v:=.ref C) (pos:=p) hg hm rfl hdb pins s σ H (λv H'=>v=.ref C/\H'=H) I ⟨rfl,rfl⟩;refine PySem.W.methodCall_KW (pl:=pl) (thn hp λu s1 z0_=>?_) ht;obtain⟨v,H',I1,rv,ev,eH⟩:=z0_;subst ev;subst eH;cases rv;obtain⟨mc,hrd,hfc⟩:=M.mc;refine PySem.W.method_cls I1.kIn M.ga (PySem.W.cls_value I1.kIn hrd hfc rfl ?_);have I2:=I1.tok (s1.toks+1);refine callWith_K (h₀:=X.base) I.ok.mod.kin M.kp (thn (ha pos pins _ σ H' _ I2 h) λus s2 z0_=>?_) hst hpl;obtain⟨vs,H2,I3,r,q2⟩:=z0_;refine⟨I3.kIn,?_⟩;refine b6j (ds:=[]) (dvs:=[]) F (hr.mono hj) hb .nil hx I3 r ?_;simp only[List.append_nil];exact q2
end
noncomputable def e6m(P:Program)(w:World)(K:↑29)(mg:↑67)(base:Heap)(k:Nat)(m:Str)(E:XK)(ta:TE)(t:TA):TE:=λσ H Q=>ta σ H λx H1=>∃a C dx fs ps sp,x=.ref a/\H1 a=some ↑66/\fs.lookup m=none/\Cls K C/\MethT P w K mg base C m k ps sp/\t σ H1 λvs H2=>sp (x::vs) H2 Q E
section
variable{X:Cx}{k j:Nat}{E:XK}{m:Str}{pos apos:Pos}{e o:Expr}{es:List Expr}{ta:TE}{t:TA}{pl:Sem Bool}
theorem d3i(he:PE X o ta)(hr:Room j X.A)(hj:k<=j)(hx:↑91)(ha:↑121)(hst:autoParam (starEach (e::es) X.env=(false,eval e X.env)::starEach es X.env) q4)(hpl:autoParam ((backTo pos ↑83).any (·.1)=false) q4)(ht:eval ↑76 X.env=(do
   let ov <- eval o X.env
   standAt apos.atName
   let (f,first) <- holding [ov] (getMethod ov m pl)
   callWith pos f first (backTo pos (starEach (e::es) X.env)) ↑80):=by rfl):
  PE X ↑76 (e6m X.prog X.w X.K X.mg X.base k m E ta t):=by
 fail "x";refine PySem.W.methodCall_KW (pl:=pl) (thn ↑97 λu s1 z0_=>?_) ht;obtain⟨x,H1,I1,rx,a,C,dx,fs,ps,sp,ex,ea,l,c,G,q⟩:=z0_;obtain⟨f,fd,F,hm,hb⟩:=G.ex;fail "ap";refine b0a I1 ea c hm l ?_;refine callWith_K (first:=[.ref a]) (h₀:=X.base) I.ok.mod.kin hm.kp (thn (ha pos pins s1 σ H1 _ I1 q) λus s2 z0_=>?_) hst hpl
 obtain⟨vs,H2,I2,r,q2⟩:=z0_;refine⟨I2.kIn,?_⟩;refine b6j (us:=.ref a::us) (vs:=.ref a::vs) (ds:=[]) (dvs:=[]) F (hr.mono hj) hb .nil hx I2 (.cons rfl r) ?_;simp only[List.append_nil];exact q2
theorem a1n(he:PE X o ta)(hr:Room j X.A)(hj:k<=j)(hx:↑91)(ht:eval ↑96 X.env=(do
   let ov <- eval o X.env
   standAt apos.atName
   let (f,first) <- holding [ov] (getMethod ov m pl)
   callWith pos f first (backTo pos (starEach [] X.env)) ↑80):=by rfl):
  PE X ↑96 (e6m X.prog X.w X.K X.mg X.base k m E ta d8n):=by
 fail "x";refine PySem.W.methodCall_KW (pl:=pl) (thn ↑97 λu s1 z0_=>?_) ht;obtain⟨x,H1,I1,rx,a,C,dx,fs,ps,sp,ex,ea,l,c,G,q⟩:=z0_;obtain⟨f,fd,F,hm,hb⟩:=G.ex;fail "ap";refine b0a I1 ea c hm l ?_;refine PySem.W.callWith_K0 (first:=[.ref a]) I1.kIn hm.kp (b6j (us:=[.ref a]) (vs:=[.ref a]) (ds:=[]) (dvs:=[]) F (hr.mono hj) hb .nil hx I1 (.cons rfl .nil) ?_)
 exact q
end
theorem d7z{P:Program}{w:World}{K:Frag}{mg:Str->Option Value}{base:Heap}{k:Nat}{m:Str}{E:XK}{ta:TE}{t:TA}{σ:St}{H:Hp}{Q:VK}(q:ta σ H λx H1=>∃a C dx fs ps sp,x=.ref a/\H1 a=some ↑66/\fs.lookup m=none/\Cls K C/\MethT P w K mg base C m k ps sp/\t σ H1 λvs H2=>sp (x::vs) H2 Q E):e6m P w K mg base k m E ta t σ H Q:=q
noncomputable def e8w(K:↑29)(ta:TE)(f:Str):TG:=λv σ H Q=>ta σ H λx H1=>∃a C dx fs,x=.ref a/\H1 a=some ↑66/\Cls K C/\NoAttr K C f/\fs.length<1000/\Q σ (upd H1 a (.ins C dx (b9q f v fs)))
theorem d3h{X:Cx}{K:Frag}{o:Expr}{f:Str}{pos:Pos}{ta:TE}(ha:PE X o ta)(hK:autoParam (X.K=K) q4):PG X (.Attribute o f pos) (e8w K ta f):=by
 subst hK;intro pins s σ H v u Q I r h;rw[assign_Attribute];refine wpAny_bind (wpAny_holding (thn ↑87 λov s1 z0_=>?_));obtain⟨x,H1,I1,rx,a,C,dx,fs,ex,ea,c,n,l,q⟩:=z0_;subst ex;obtain rfl:ov=Value.ref a:=rx;refine wpAny_bind (wpAny_standAt (wpAny_bind (wpAny_holding (b4j I1 ea c n l r λs2 I2=>?_))));exact wpAny_release ⟨σ,_,I2,q⟩
theorem b9p(r:Addr)(a b c i:Int)(t u v ti:Tok):
  Meets (Builtin.«range.__contains__» ⟨[.ref r,.int i ti],[]⟩) (λ_ R s=>s.heap.get? r=some { cls:=.type "range",dict:=none,data:=.fields #[.int a t,.int b u,.int c v],slots:=#[] }/\R (.ok (.ret (.bool (Builtin.Range.rangePlace? a b c i).isSome))) s) :=
 .of_wp λprog w A R s h=>by obtain⟨hp,g,d,tk,os⟩:=s;obtain⟨hl,h⟩:=h;wp_walk;exact⟨_,rfl,h⟩
theorem b9i{prog:Program}{w:World}{A:Around}{E:Value->Shared->Prop}{s:Shared}{r:Addr}{a b c i:Int}{t u v ti:Tok}{Q:Value->Shared->Prop}(hr:IsRange s.heap r a b c t u v)(h:Q (.bool (Builtin.Range.rangePlace? a b c i).isSome) s):wpAny ↑56 A (compareOp .In (.int i ti) (.ref r)) Q E s:=by
 have hT:s.TypeIs (.ref r) "range":=⟨_,hr,rfl⟩;show wpAny _ _ (do return .bool (<- contains (.ref r) (.int i ti))) Q E s
 refine wpAny_bind ?_;unfold contains
 try with_reducible refine wpAny_holding ?_
 refine wpAny_bind (wpAny_specialOf hT F.slot_range_contains.lookup ?_);show wpAny _ _ (if (some (Value.builtin "range.__contains__") == some Value.none)=true then _ else _) _ E s;rw[if_neg (by rw[beq_builtin_none];exact Bool.false_ne_true)]
 refine wpAny_bind (wpAny_callSpecialUnlessNone?_slot (name:=Str.ofString "__contains__") hT F.slot_range_contains
  (call_meets F.slot_range_contains hT F.entry_range_contains (F.args_range_contains_2 _ _) (b9p r a b c i t u v ti) ⟨hr,?_⟩))
 exact wpAny_truthy_bool (wpAny_pure h)
noncomputable def d8o(ta:TE)(tn:TA):TE:=λσ H Q=>ta σ H λx H1=>tn σ H1 λvs H2=>∃i n:Int,x=.int i/\vs=[.int n]/\Q (.bl (decide (0<=i/\i<n))) H2
theorem d3e(i n:Int):(Builtin.Range.rangePlace? 0 n 1 i).isSome=decide (0<=i/\i<n):=by
 unfold Builtin.Range.rangePlace?;by_cases h:0<=i/\i<n
 ·simp[h]
 ·simp[h]
theorem c9x{X:Cx}{a e:Expr}{ta:TE}{tn:TA}{p cp pos:Pos}(hg:Gl X "range")(hm:X.mg "range" = none)(ha:PE X a ta)(he:PA X [e] tn)(hb:autoParam (behindInMarks .In (.Call (.Name "range" p) [e] [] cp)=false) q4)(hs:autoParam (starEach [e] X.env=[(false,eval e X.env)]) q4):
  PE X (.Compare a [.In] [.Call (.Name "range" p) [e] [] cp] pos) (d8o ta tn):=by
 fail "x";refine wpAny_Compare1 (thn ↑87 λiv s1 z0_=>?_) hb;obtain⟨x,H1,I1,rx,q1⟩:=z0_;refine Call_ (c0t I1 hg hm boot_range (PyProof.Rows.callWith_type1 (thn (he cp pins s1 σ H1 _ I1 q1) λus s2 z0_=>?_) hs rfl));obtain⟨vs,H2,I2,r2,q2⟩:=z0_;obtain⟨i,n,ex,ev,q⟩:=q2;subst ex;subst ev;obtain⟨ti,rfl⟩:=rx;cases r2 with
 | cons r rr=>
  cases rr;obtain⟨t,rfl⟩:=r;refine call_range_1 (b9i (IsRange.new ..) ?_);rw[d3e];exact⟨.bl _,H2,I2.kept (λb o e=>Heap.get?_push_of_some _ e),rfl,q⟩
section
variable{κ:Type}[DecidableEq κ]
noncomputable def d0t(kvs:List (κ×V))(k:κ):Option V:=(kvs.find? λkv=>decide (kv.1=k)).map (·.2)
noncomputable def b6y(kvs:List (κ×V))(k:κ)(v:V):List (κ×V) :=
 if (kvs.any λkv=>decide (kv.1=k))=true then kvs.map (λkv=>if kv.1=k then (kv.1,v) else kv) else kvs++[(k,v)]
theorem c1b{p:κ×V}{r:List (κ×V)}{k:κ}(e:p.1=k):d0t (p::r) k=some p.2:=by simp[d0t,List.find?_cons,e]
theorem c1c{p:κ×V}{r:List (κ×V)}{k:κ}(e:¬ p.1=k):d0t (p::r) k=d0t r k:=by simp[d0t,List.find?_cons,e]
theorem c9k(k:κ):∀kvs:List (κ×V),(kvs.any λkv=>decide (kv.1=k))=(d0t kvs k).isSome
 | []=>rfl
 | p::r=>by
  rw[List.any_cons];by_cases e:p.1=k
  ·simp only[c1b e,decide_eq_true e,Bool.true_or,Option.isSome_some]
  ·rw[c1c e,decide_eq_false e,Bool.false_or];exact c9k k r
theorem b2o(kvs:List (κ×V))(k:κ)(v:V):(b6y kvs k v).length<=kvs.length+1:=by
 unfold b6y;split
 ·rw[List.length_map];lia
 ·rw[List.length_append,List.length_cons,List.length_nil];lia
theorem RelO.isSome_eq{o:Option V}{u:Option Value}(r:RelO o u):o.isSome=u.isSome:=by
 cases o with
 | none=>cases u with
  | none=>rfl
  | some _=>exact(show False from r).elim
 | some _=>cases u with
  | none=>exact(show False from r).elim
  | some _=>rfl
theorem KV.val{kvs:List (κ×V)}{vs:List (κ×Value)}(r:KV kvs vs)(k:κ):RelO (d0t kvs k) (valueAt vs k):=by
 unfold KV at r
 induction r with
 | nil=>exact True.intro
 | @cons p q ps qs h t ih=>
  obtain⟨h1,h2⟩:=h;by_cases e:p.1=k
  ·have e':q.1=k:=h1.symm.trans e
   have b:valueAt (q::qs) k=some q.2:=by simp[valueAt,List.find?_cons,e']
   rw[c1b e,b];exact h2
  ·have e':¬ q.1=k:=λz=>e (h1.trans z)
   have b:valueAt (q::qs) k=valueAt qs k:=by simp[valueAt,List.find?_cons,e']
   rw[c1c e,b];exact ih
theorem KV.any{kvs:List (κ×V)}{vs:List (κ×Value)}(r:KV kvs vs)(k:κ):(kvs.any λkv=>decide (kv.1=k))=vs.any λkv=>decide (kv.1=k):=by
 unfold KV at r
 induction r with
 | nil=>rfl
 | cons h t ih=>rw[List.any_cons,List.any_cons,ih,h.1]
theorem KV.repl{kvs:List (κ×V)}{vs:List (κ×Value)}(r:KV kvs vs)(k:κ){y:V}{u:Value}(ry:RelV y u):
  KV (kvs.map λkv=>if kv.1=k then (kv.1,y) else kv) (vs.map λkv=>if kv.1=k then (kv.1,u) else kv):=by
 unfold KV at r ⊢
 induction r with
 | nil=>exact .nil
 | @cons p q ps qs h t ih=>
  rw[List.map_cons,List.map_cons];refine .cons ?_ ih;obtain⟨h1,h2⟩:=h;by_cases e:p.1=k
  ·rw[if_pos e,if_pos (h1.symm.trans e)];exact⟨h1,ry⟩
  ·rw[if_neg e,if_neg (λz=>e (h1.trans z))];exact⟨h1,h2⟩
theorem KV.put{kvs:List (κ×V)}{vs:List (κ×Value)}(r:KV kvs vs)(k:κ){y:V}{u:Value}(ry:RelV y u):KV (b6y kvs k y) (stored vs k u):=by
 unfold b6y stored;rw[r.any k];by_cases e:(vs.any λkv=>decide (kv.1=k))=true
 ·rw[if_pos e,if_pos e];exact r.repl k ry
 ·rw[if_neg e,if_neg e];exact Paired.snoc r ⟨rfl,ry⟩
theorem KV.length{kvs:List (κ×V)}{vs:List (κ×Value)}(r:KV kvs vs):kvs.length=vs.length:=Paired.length r
end
theorem d7k{P:Program}{w:World}{k:Key}{u:Value}(r:RelV (kV k) u):(a2b P w).is k u=true:=by
 cases k with
 | inl i=>obtain⟨t,e⟩:=(show ∃t,u=Value.int i t from r);subst e;exact c8u P w i t
 | inr x=>obtain⟨t,e⟩:=(show ∃t,u=Value.str x t from r);subst e;exact c8t P w x t
theorem c6k{P:Program}{w:World}:∀{ks:List Key}{us:List Value},Vals (ks.map kV) us->ItemsAre (a2b P w) ks us
 | [],_,r=>by rw[List.map_nil] at r;cases r;exact .nil
 | k::ks,_,r=>by
  rw[List.map_cons] at r;cases r with
  | cons h t=>exact .cons (d7k h) (c6k t)
abbrev KT(H:Hp):List (List Key×V)->List (List Key×Addr×Value)->Prop:=Paired λp q=>p.1=q.1/\H q.2.1=some (.tup (p.1.map kV))/\RelV p.2 q.2.2
theorem KT.val{H:Hp}{kvs:List (List Key×V)}{xs:List (List Key×Addr×Value)}(r:KT H kvs xs)(k:List Key):RelO (d0t kvs k) ((atKey xs k).map (·.2)):=by
 induction r with
 | nil=>exact True.intro
 | @cons p q ps qs h t ih=>
  obtain⟨h1,_,h2⟩:=h;by_cases e:p.1=k
  ·have e':q.1=k:=h1.symm.trans e
   have b:atKey (q::qs) k=some q.2:=by simp[atKey,List.find?_cons,e']
   rw[c1b e,b];exact h2
  ·have e':¬ q.1=k:=λz=>e (h1.trans z)
   have b:atKey (q::qs) k=atKey qs k:=by simp[atKey,List.find?_cons,e']
   rw[c1c e,b];exact ih
theorem KT.repl{H:Hp}{kvs:List (List Key×V)}{xs:List (List Key×Addr×Value)}(r:KT H kvs xs)(k:List Key){y:V}{u:Value}(ry:RelV y u):
  KT H (kvs.map λkv=>if kv.1=k then (kv.1,y) else kv) (xs.map (putAt k u)):=by
 induction r with
 | nil=>exact .nil
 | @cons p q ps qs h t ih=>
  rw[List.map_cons,List.map_cons];refine .cons ?_ ih;obtain⟨h1,h2,h3⟩:=h;unfold putAt;by_cases e:p.1=k
  ·rw[if_pos e,if_pos (h1.symm.trans e)];exact⟨h1,h2,ry⟩
  ·rw[if_neg e,if_neg (λz=>e (h1.trans z))];exact⟨h1,h2,h3⟩
theorem KT.put{H:Hp}{kvs:List (List Key×V)}{xs:List (List Key×Addr×Value)}(r:KT H kvs xs)(k:List Key){b:Addr}{y:V}{u:Value}(hb:H b=some (.tup (k.map kV)))(ry:RelV y u):
  KT H (b6y kvs k y) (storedH xs k b u):=by
 have e:(kvs.any λkv=>decide (kv.1=k))=(atKey xs k).isSome:=by
  rw[c9k,(r.val k).isSome_eq,Option.isSome_map]
 unfold b6y storedH;rw[e];by_cases q:(atKey xs k).isSome=true
 ·rw[if_pos q,if_pos q];exact r.repl k ry
 ·rw[if_neg q,if_neg q];exact Paired.snoc r ⟨rfl,hb,ry⟩
theorem KT.keeps{H H':Hp}{kvs:List (List Key×V)}{xs:List (List Key×Addr×Value)}(r:KT H kvs xs)(ht:∀b ys,H b=some (.tup ys)->H' b=some (.tup ys)):KT H' kvs xs :=
 Paired.mapP r λ_ _ z=>⟨z.1,ht _ _ z.2.1,z.2.2⟩
section
variable{P:Program}{w:World}{H:Hp}{h:Heap}{a:Addr}
theorem e3j{u:HO}(ok:HOk P w H h)(e:Rd H a u):ObjOk P w H h a u:=e.ok ok
theorem e1w{kvs:List (Key×V)}(ok:HOk P w H h)(e:Rd H a (.dK kvs)):kvs.length<=sizeLine/\(a == sysModules)=false/\∃vs,KV kvs vs/\h.DictOf (a2b P w) a vs :=
 show ObjOk P w H h a (.dK kvs) from e3j ok e
theorem e5r{kvs:List (Key×V)}(ok:HOk P w H h)(e:H a=some (.dK kvs)):kvs.length<=sizeLine/\(a == sysModules)=false/\∃vs,KV kvs vs/\h.DictOf (a2b P w) a vs:=e1w ok (.inl e)
theorem d4g{ks:List Key}(ok:HOk P w H h)(e:H a=some (.tup (ks.map kV))):(tupleKind (a2b P w)).is h ks a:=by
 obtain⟨_,its,r,o,h1,h2,n,h3⟩:=(show ObjOk P w H h a (.tup (ks.map kV)) from ok a _ e);exact⟨o,its.toArray,n,h1,h2,h3,by simpa using c6k r⟩
theorem e1v{kvs:List (List Key×V)}(ok:HOk P w H h)(e:Rd H a (.dT kvs)):kvs.length<=sizeLine/\(a == sysModules)=false /\
  ∃xs,KT H kvs xs/\h.DictOfH (tupleKind (a2b P w)) a xs:=by
 obtain⟨z,y,xs,r,o,es,ep,h1,h2,h3,h4,h5⟩:=(show ObjOk P w H h a (.dT kvs) from e3j ok e);refine⟨z,y,xs,r,o,es,ep,h1,h2,h3,h4,λx hx=>?_,h5⟩;have all:∀{l:List (List Key×V)}{m:List (List Key×Addr×Value)},KT H l m->∀x∈m,(tupleKind (a2b P w)).is h x.1 x.2.1:=by
  intro l m q
  induction q with
  | nil=>intro x hx;exact nomatch hx
  | @cons p q ps qs hq t ih=>
   intro x hx;rcases List.mem_cons.mp hx with e|hx
   ·subst e
    exact d4g ok (by rw[<- hq.1];exact hq.2.1)
   ·exact ih x hx
 exact all r x hx
theorem e7y{kvs:List (List Key×V)}(ok:HOk P w H h)(e:H a=some (.dT kvs)):kvs.length<=sizeLine/\(a == sysModules)=false /\
  ∃xs,KT H kvs xs/\h.DictOfH (tupleKind (a2b P w)) a xs:=e1v ok (.inl e)
end
noncomputable def DGet(H:Hp)(a:Addr)(y:V)(r:Option V):Prop :=
 (∃kvs k,Rd H a (.dK kvs)/\y=kV k/\r=d0t kvs k) \/ ∃kvs k b,Rd H a (.dT kvs)/\y=.ref b/\H b=some (.tup (k.map kV))/\r=d0t kvs k
noncomputable def DPut(H:Hp)(a:Addr)(y v:V)(H':Hp):Prop :=
 (∃kvs k,H a=some (.dK kvs)/\y=kV k/\kvs.length<sizeLine/\H'=upd H a (.dK (b6y kvs k v))) \/
 ∃kvs k b,H a=some (.dT kvs)/\y=.ref b/\H b=some (.tup (k.map kV))/\kvs.length<sizeLine/\H'=upd H a (.dT (b6y kvs k v))
theorem DGet.k{H:Hp}{a:Addr}{kvs:List (Key×V)}{k:Key}(e:H a=some (.dK kvs)):DGet H a (kV k) (d0t kvs k):=.inl ⟨kvs,k,.inl e,rfl,rfl⟩
theorem DPut.k{H:Hp}{a:Addr}{kvs:List (Key×V)}{k:Key}{v:V}(e:H a=some (.dK kvs))(hl:kvs.length<sizeLine):DPut H a (kV k) v (upd H a (.dK (b6y kvs k v))):=.inl ⟨kvs,k,e,rfl,hl,rfl⟩
section
variable{X:Cx}{pins:List ↑26}{σ:St}{H:Hp}{s:Shared}{a:Addr}{y v:V}{u r:Value}{o:Option V}{A:Around}{E:Value->Shared->Prop}
theorem Inv.big(I:↑13):sysModules<s.heap.objs.size:=by
 have h:mainGlobals<s.heap.objs.size:=(I.mod.glob.keeps I.bk).lt;exact Nat.lt_trans ↑4 h
theorem d5h{Q:Value->Shared->Prop}(hu:A.units+1<cLine)(I:↑13)(g:DGet H a y (some v))(ry:RelV y u)(h:∀w' s',Inv X pins σ H s'->RelV v w'->Q w' s'):
  wpAny ↑21 A (getItem (.ref a) u) Q E s:=by
 rcases g with ⟨kvs,k,e,ey,l⟩|⟨kvs,k,b,e,ey,eb,l⟩
 ·subst ey
  obtain⟨z,hd,vs,rel,dd⟩:=e1w I.hok e;obtain⟨w',hw,rw'⟩:=RelO.some_of (v:=v) (o:=valueAt vs k) (by rw[l];exact rel.val k)
  exact wpAny_getItem_of (d7k ry) dd.mapOf hw (h w' _ (I.tok _) rw')
 ·subst ey
  cases (show u=Value.ref b from ry);obtain⟨z,hd,xs,rel,dd⟩:=e1v I.hok e;obtain⟨w',hw,rw'⟩:=RelO.some_of (v:=v) (o:=(atKey xs k).map (·.2)) (by rw[l];exact rel.val k)
  obtain⟨p,hp,hp2⟩:=Option.map_eq_some_iff.mp hw;refine wpAny_getItem_heap (tupleKind_room_in1 hu) (d4g I.hok eb) dd hp ?_;rw[hp2];exact h w' _ (I.tok _) rw'
theorem c9c{h':Heap}{t':Nat}{ob:HO}(I:↑13)(mu:Mut (H a))(hs:Heap.SameBut a s.heap h')(he:∃q,h'.get? a=some q)(new:ObjOk X.prog X.w (upd H a ob) h' a ob):
  Inv X pins σ (upd H a ob) { s with heap:=h',toks:=t' } :=
 I.write (x:=a) (e:=a) mu ↑22 (λb q hb z=>(hs.2 b hb).trans z) he new
theorem d9e{P:Program}{w:World}{H':Hp}{h':Heap}{kvs:List (Key×V)}{vs:List (Key×Value)}(z:kvs.length<=sizeLine)(hd:(a == sysModules)=false)(rel:KV kvs vs)(dd:h'.DictOf (a2b P w) a vs):
  ObjOk P w H' h' a (.dK kvs):=⟨z,hd,vs,rel,dd⟩
theorem d5g{H':Hp}{Q:Unit->Shared->Prop}(hu:A.units+1<cLine)(I:↑13)(g:DPut H a y v H')(ry:RelV y u)(rv:RelV v r)(h:∀s',Inv X pins σ H' s'->Q () s'):
  wpAny ↑21 A (setItem (.ref a) u r) Q E s:=by
 rcases g with ⟨kvs,k,e,ey,l,eH⟩|⟨kvs,k,b,e,ey,eb,l,eH⟩
 ·subst ey eH
  obtain⟨z,hd,vs,rel,dd⟩:=e5r I.hok e;have hz:vs.length<=sizeLine:=by rw[<- rel.length];exact z
  have hl:(b6y kvs k v).length<=sizeLine:=by have:=b2o kvs k v;lia
  refine wpAny_setItem_pairs (hsz:=hz) (d7k ry) dd λh' dd' hs=>h _ ?_;have he:∃q,h'.get? a=some q:=let ⟨q,_,_,hq,_⟩:=dd';⟨q,hq⟩
  exact c9c I (by rw[e];exact True.intro) hs he (d9e hl hd (rel.put k rv) dd')
 ·subst ey eH
  cases (show u=Value.ref b from ry);obtain⟨z,hd,xs,rel,dd⟩:=e7y I.hok e;have hz:xs.length<=sizeLine:=by rw[<- Paired.length rel];exact z
  have hl:(b6y kvs k v).length<=sizeLine:=by have:=b2o kvs k v;lia
  refine wpAny_setItem_heap (hsz:=hz) (tupleKind_room_in1 hu) (d4g I.hok eb) dd λh' dd' hs=>h _ ?_;obtain⟨q,es,ep,hq,h2,h3,h4,_,h5⟩:=dd';refine c9c I (by rw[e];exact True.intro) hs ⟨q,hq⟩ ⟨hl,hd,_,(rel.put k eb rv).keeps λc ys ec=>?_,q,es,ep,hq,h2,h3,h4,h5⟩
  rw[d8 (e1a ec e ↑123)];exact ec
end
def e8z(i:Expr):Prop:=∀ov iv,subscripted i false ov iv=operate [ov,iv] (getItem ov iv)
theorem e0b{prog:Program}{w:World}{A:Around}{E:Value->Shared->Prop}{s:Shared}{env:Env}{value slice:Expr}{pos:Pos}{T id:String}{Q:Value->Shared->Prop}(hl:typeLookup (.type T) "__getitem__" = pure (some (.builtin id)))(hs:e8z slice)(h:wpAny ↑56 A (eval value env) (λo s₁=>wpAny ↑56 A (eval slice env) (λi s₂=>s₂.TypeIs o T/\wpAny ↑56 A (getItem o i) Q E s₂) E s₁) E s):
  wpAny ↑56 A (eval (.Subscript value slice pos) env) Q E s:=by
 refine Subscript_ (wpAny_mono h (λo s₁ h₁=>wpAny_mono h₁ (λi s₂ h₂=>?_) λ_ _ x=>x) λ_ _ x=>x);obtain⟨hT,h₂⟩:=h₂;unfold subscriptTail;refine wpAny_bind ?_;rw[getitemInPython_of_ne hT.not_modules];refine wpAny_bind (wpAny_specialOf hT hl ?_);have fin:wpAny ↑56 A (subscripted slice false o i) (λr s₃=>wpAny ↑56 A (letTemporaryGo value o r >>= λ_=>pure r) Q E s₃) E s₂:=by
  rw[hs o i];exact wpAny_operating (wpAny_mono h₂ (λr s₃ h₃=>wpAny_bind (wpAny_letTemporaryGo (wpAny_pure h₃))) λ_ _ x=>x)
 first
  | exact wpAny_pure (wpAny_bind fin)
  | exact wpAny_bind (wpAny_pure (wpAny_bind fin))
  | exact wpAny_bind fin
theorem c9a{X:Cx}{pins:List ↑26}{σ:St}{H:Hp}{s:Shared}{a:Addr}{y:V}{o:Option V}(I:↑13)(g:DGet H a y o):s.TypeIs (.ref a) "dict":=by
 rcases g with ⟨kvs,k,e,_,_⟩|⟨kvs,k,b,e,_,_,_⟩
 ·obtain⟨_,_,vs,_,dd⟩:=e1w I.hok e
  exact dd.typeIs
 ·obtain⟨_,_,xs,_,dd⟩:=e1v I.hok e
  exact dd.typeIs
noncomputable def e2x(td ty:TE):TE:=λσ H Q=>td σ H λx H1=>ty σ H1 λy H2=>∃a v,x=.ref a/\DGet H2 a y (some v)/\Q v H2
noncomputable def e3e(td ty tv:TE):TS:=λD σ H=>tv σ H λv H1=>td σ H1 λx H2=>ty σ H2 λy H3=>∃a H4,x=.ref a/\DPut H3 a y v H4/\D.nx σ H4
section
variable{X:Cx}{o i e value:Expr}{pos pos' tpos:Pos}{td ty tv:TE}
theorem b5f(hu:X.A.units+1<cLine)(ho:PE X o td)(hi:PE X i ty)(hs:e8z i):PE X (.Subscript o i pos) (e2x td ty):=by
 fail "x";refine e0b PySem.F.slot_dict_getitem.lookup hs (thn (ho pins s σ H _ I h) λu s1 z0_=>?_);obtain⟨x,H1,I1,rx,q1⟩:=z0_;refine thn (hi pins s1 σ H1 _ I1 q1) λiv s2 z1_=>?_;obtain⟨y,H2,I2,ry,a,v,ex,g,q2⟩:=z1_;fail "ap";exact⟨c9a I2 g,d5h hu I2 g ry λw' s3 I3 rw'=>⟨v,H2,I3,rw',q2⟩⟩
theorem a0d(hu:X.A.units+1<cLine)(ho:PE X o td)(hi:PE X i ty)(hv:PE X value tv)(hs:swapsWith value (some (.Subscript o i pos')) pos.line X.env=pure false):
  PS X (.Assign [.Subscript o i pos'] value pos) (e3e td ty tv):=by
 fail "au";refine wpAny_Assign_Subscript (thn (hv pins s σ H _ I h) λr s1 z0_=>?_) hs;obtain⟨v,H1,I1,rv,q1⟩:=z0_;refine thn (ho pins s1 σ H1 _ I1 q1) λu s2 z1_=>?_;obtain⟨x,H2,I2,rx,q2⟩:=z1_;refine thn (hi pins s2 σ H2 _ I2 q2) λiv s3 z2_=>?_;obtain⟨y,H3,I3,ry,a,H4,ex,g,q3⟩:=z2_;fail "ap";exact d5g hu I3 g ry rv λs4 I4=>⟨σ,H4,I4,q3⟩
end
theorem d8e{P:Program}{w:World}{H:Hp}(h:Heap)(hb:sysModules<h.objs.size):ObjOk P w H (h.push { cls:=.type "dict",data:=.dict #[] }) h.objs.size (.dK []) :=
 ⟨Nat.zero_le _,beq_eq_false_iff_ne.mpr (Ne.symm (Nat.ne_of_lt hb)),[],.nil,Heap.DictOf.new h⟩
noncomputable def b7e:List (TE×TE)->St->Hp->(List (V×V)->Hp->Prop)->Prop
 | [],_,H,Q=>Q [] H
 | (tk,tv)::r,σ,H,Q=>tk σ H λx H1=>tv σ H1 λy H2=>b7e r σ H2 λps H3=>Q ((x,y)::ps) H3
abbrev VV:List (V×V)->List (Value×Value)->Prop:=Paired λp q=>RelV p.1 q.1/\RelV p.2 q.2
noncomputable def PPs(X:Cx)(pos:Pos)(keys:List (Option Expr))(values:List Expr)(trs:List (TE×TE)):Prop :=
 ∀(pins:List ↑26)(s:Shared)(σ:St)(H:Hp)(Q:List (V×V)->Hp->Prop),Inv X pins σ H s->b7e trs σ H Q ->
  wpAny ↑21 X.A (evalPairs (pairTrees keys values X.env pos)) (λvs s'=>∃ps H',Inv X pins σ H' s'/\VV ps vs/\Q ps H') X.xe s
theorem d3c{X:Cx}{pos:Pos}:PPs X pos [] [] []:=λpins s σ H Q I h=>pairTrees_nil_walk ⟨[],H,I,.nil,h⟩
theorem a0v{X:Cx}{pos:Pos}{k v:Expr}{ks:List (Option Expr)}{vs:List Expr}{tk tv:TE}{trs:List (TE×TE)}(hk:PE X k tk)(hv:PE X v tv)(hr:PPs X pos ks vs trs):
  PPs X pos (some k::ks) (v::vs) ((tk,tv)::trs):=λpins s σ H Q I h=>
 pairTrees_cons_walk (thn (hk pins s σ H _ I h) λu s1 ⟨x,H1,I1,rx,q1⟩=>thn (hv pins s1 σ H1 _ I1 q1) λw2 s2 ⟨y,H2,I2,ry,q2⟩=>
  thn (hr pins s2 σ H2 _ I2 q2) λws s3 z0_=>by obtain⟨ps,H3,I3,rel,q3⟩:=z0_;exact⟨(x,y)::ps,H3,I3,.cons ⟨rx,ry⟩ rel,q3⟩)
noncomputable def c0r(kvs more:List (Key×V)):List (Key×V):=more.foldl (λacc kv=>b6y acc kv.1 kv.2) kvs
theorem KV.merge:∀{more:List (Key×V)}{rs:List (Key×Value)}{kvs:List (Key×V)}{vs:List (Key×Value)},KV more rs->KV kvs vs->KV (c0r kvs more) (merged vs rs):=by
 intro more rs kvs vs r;unfold KV at r
 induction r generalizing kvs vs with
 | nil=>intro q;exact q
 | @cons p q ps qs h t ih=>
  intro r0;have e:KV (b6y kvs p.1 p.2) (stored vs q.1 q.2):=by
   have:=r0.put p.1 h.2;rw[<- h.1];exact this
  exact ih e
theorem b4c:∀(more kvs:List (Key×V)),(c0r kvs more).length<=kvs.length+more.length
 | [],kvs=>by show kvs.length<=kvs.length+0;lia
 | p::r,kvs=>by
  have h1:=b4c r (b6y kvs p.1 p.2);have h2:=b2o kvs p.1 p.2;show(c0r (b6y kvs p.1 p.2) r).length<=_;rw[List.length_cons];lia
theorem c0z{P:Program}{w:World}:∀{kvs:List (Key×V)}{ws:List (Value×Value)},VV (kvs.map λkv=>(kV kv.1,kv.2)) ws->∃rs,Carries (a2b P w) ws rs/\KV kvs rs
 | [],_,r=>by rw[List.map_nil] at r;cases r;exact⟨[],True.intro,.nil⟩
 | p::kvs,_,r=>by
  rw[List.map_cons] at r;cases r with
  | @cons a b as bs h t=>
   obtain⟨rs,c,q⟩:=c0z (P:=P) (w:=w) t;obtain⟨b1,b2⟩:=b;exact⟨(p.1,b2)::rs,⟨d7k h.1,rfl,c⟩,.cons ⟨rfl,h.2⟩ q⟩
noncomputable def e2w(trs:List (TE×TE)):TE:=λσ H Q=>∀p,H p=none->b7e trs σ (upd H p (.dK [])) λps H2=>H2 p=some (.dK [])/\∃kvs:List (Key×V),ps=kvs.map (λkv=>(kV kv.1,kv.2))/\kvs.length<=15/\Q (.ref p) (upd H2 p (.dK (c0r [] kvs)))
theorem d3k{X:Cx}{pos:Pos}{keys:List (Option Expr)}{values:List Expr}{trs:List (TE×TE)}(h:PPs X pos keys values trs)(hall:keys.all (·.isSome)=true)(hl:keys.length=values.length)(h0:keys≠[])(h15:keys.length<=15):PE X (.Dict keys values pos) (e2w trs):=by
 intro pins s σ H Q I q;have hn:=I.hok.fresh (Nat.le_refl s.heap.objs.size);have I1:=I.laid (a:=s.heap.objs.size) (o:=.dK []) (h':=s.heap.push { cls:=.type "dict",data:=.dict #[] }) (t':=s.toks) (λ_ _ q=>Heap.get?_push_of_some _ q) ↑31 (d8e s.heap I.big);refine wpAny_Dict_walk (knd:=a2b X.prog X.w) hall hl h0 h15 (thn (h pins _ σ _ _ I1 (q _ hn)) λws s2 z0_=>?_);obtain⟨ps,H2,I2,rel,e,kvs,ep,lk,q2⟩:=z0_;subst ep;obtain⟨rs,c,rk⟩:=c0z (P:=X.prog) (w:=X.w) rel;obtain⟨z,hd,vs0,r0,dd⟩:=e5r I2.hok e;cases r0;refine⟨rs,c,dd,λh' dd' hs=>⟨.ref s.heap.objs.size,_,?_,rfl,q2⟩⟩;have hz:(c0r [] kvs).length<=sizeLine:=by
  have h1:=b4c kvs [];rw[List.length_nil] at h1;rw[sizeLine_eq];lia
 have he:∃q,h'.get? s.heap.objs.size=some q:=let ⟨q,_,_,hq,_⟩:=dd';⟨q,hq⟩
 exact c9c I2 (by rw[e];exact True.intro) hs he (d9e hz hd (rk.merge .nil) dd')
section
variable{X:Cx}{k j:Nat}{ps:List Str}{sp:Sp}{E:XK}{x:Str}{p pos:Pos}
theorem d3j(G:FnT X.prog X.w X.K X.mg X.base x k ps sp)(hr:Room j X.A)(hj:k<=j)(hg:Gl X x)(hx:↑91)(hdb:autoParam (↑33=false) q2):PE X (.Call (.Name x p) [] [] pos) (tFn sp E d8n):=by
 obtain⟨f,fd,F,hm,hk,hb⟩:=G.ex;exact d6y (ds:=[]) (dvs:=[]) F (hr.mono hj) hg hm hk hb .nil hx hdb
end
section
variable{K:Frag}{σ:St}{H:Hp}{Q:VK}{td ty tv:TE}{nx bk ct:St->Hp->Prop}{rt:VK}
theorem a4z(q:td σ H λx H1=>ty σ H1 λy H2=>∃a v,x=.ref a/\DGet H2 a y (some v)/\Q v H2):e2x td ty σ H Q:=q
theorem a4y(q:tv σ H λv H1=>td σ H1 λx H2=>ty σ H2 λy H3=>∃a H4,x=.ref a/\DPut H3 a y v H4/\nx σ H4):e3e td ty tv ↑120 σ H:=q
theorem d9a{trs:List (TE×TE)}(q:∀p,H p=none->b7e trs σ (upd H p (.dK [])) λps H2=>H2 p=some (.dK [])/\∃kvs:List (Key×V),ps=kvs.map (λkv=>(kV kv.1,kv.2))/\kvs.length<=15/\Q (.ref p) (upd H2 p (.dK (c0r [] kvs)))):e2w trs σ H Q:=q
end
section
variable{X:Cx}
theorem e0k{K:Frag}{tg l:Expr}{tl:TE}(hl:PE X l tl)(h:autoParam (X.K=K) q4):PI X tg l (e7d K tl):=h ▸ e3p hl
end
section
variable{K:Frag}{σ:St}{H:Hp}{ta:TE}{t:TA}
theorem e4r{R:It->Hp->Prop}(q:ta σ H λx H1=>∃a,x=.ref a/\(∃xs,SqT K H1 a xs)/\R (Itt K a) H1):e7d K ta σ H R:=q
theorem e4s{a:Addr}{xs:List V}{R:Addr->Prop}(h:SqT K H a xs)(q:R a):∃a',V.ref a=.ref a'/\(∃xs,SqT K H a' xs)/\R a':=⟨a,rfl,⟨xs,h⟩,q⟩
theorem d4x{tn:TA}{Q:VK}(q:ta σ H λx H1=>tn σ H1 λvs H2=>∃i n:Int,x=.int i/\vs=[.int n]/\Q (.bl (decide (0<=i/\i<n))) H2):d8o ta tn σ H Q:=q
end
theorem d0f{i n:Int}{R:Int->Int->Prop}(q:R i n):∃i' n':Int,V.int i=.int i'/\[V.int n]=[.int n']/\R i' n':=⟨i,n,rfl,rfl,q⟩
def Hid(n m:St->Hp->Prop):Prop:=n=m
def e8c(m:St->Hp->Prop)(F:(St->Hp->Prop)->Prop):Prop:=∀N,Hid N m->F N
section
variable{nx bk ct:St->Hp->Prop}{rt:VK}{σ:St}{H:Hp}
theorem e4v{s u:TS}(q:∀n',Hid n' (u ↑120)->s ⟨n',rt,bk,ct⟩ σ H):e5v s u ↑120 σ H:=q _ rfl
theorem b9b{n' m:St->Hp->Prop}(h:Hid n' m)(q:m σ H):n' σ H:=by
 unfold Hid at h;rw[h];exact q
theorem e5f{m:St->Hp->Prop}{F:(St->Hp->Prop)->Prop}(q:∀N,Hid N m->F N):e8c m F:=q
theorem b0c{lo:Int}{n:Nat}{g:TG}{tb:TS}(Pv:Nat->St->Hp->Prop)(h0:Pv 0 σ H)(hs:∀i σ H,i<n->Pv i σ H->e8c (Pv (i+1)) λN=>g (.int (lo+i)) σ H λσ2 H2=>tb ⟨N,rt,nx,N⟩ σ2 H2)(hd:∀σ H,Pv n σ H->nx σ H):
  ∃W:Nat->Nat->St->Hp->Prop,(∃m,W 0 m σ H)/\∀i m σ H,W i m σ H->((Itr lo n).stop i H/\nx σ H)\/((Itr lo n).go i H/\∃N:St->Hp->Prop,(∀σ' H',N σ' H'->∃m',m'<m/\W (i+1) m' σ' H')/\∀x H',(Itr lo n).yld i H x H'->g x σ H' λσ2 H2=>tb ⟨N,rt,nx,N⟩ σ2 H2) :=
 d5a (D:=⟨nx,rt,λ_ _=>False,λ_ _=>False⟩) Pv h0 (λi σ H hi p=>hs i σ H hi p _ rfl) hd
end
end L2
namespace L2
open PySem
noncomputable def e2h:HO->Option Addr
 | .ins _ dx _=>some dx
 | .frz _ u=>e2h u
 | _=>none
structure Sub(H1 H:Hp):Prop where
 le:∀a o,H1 a=some o->H a=some o
 own:∀a o b,H a=some o->e2h o=some b->H b=some (.own a)->(H1 a=none ↔ H1 b=none)
 tup:∀b xs,H b=some (.tup xs)->H1 b=some (.tup xs)
 frz:∀b o u,H b=some (.frz o u)->H1 b=some (.frz o u)
 tbl:∀b ps,H b=some (.tbl ps)->H1 b=some (.tbl ps)
noncomputable def jn(H1' H1 H:Hp):Hp:=λa=>match H1 a,H1' a with
 | none,none=>H a
 | _,o=>o
structure Out(H1' H1 H:Hp):Prop where
 fr:∀b o,H b=some o->H1 b=none->H1' b=none
 tup:∀b xs,H b=some (.tup xs)->H1' b=some (.tup xs)
 frz:∀b o u,H b=some (.frz o u)->H1' b=some (.frz o u)
def frS(sp:Sp):Sp:=λvs H Q _=>∃H1,Sub H1 H/\sp vs H1 (λv H1'=>Out H1' H1 H->Q v (jn H1' H1 H)) (λ_ _ _=>False)
section
variable{P:Program}{w:World}{K:Frag}{mg:Str->Option Value}{base:Heap}{H H1 H1':Hp}{h h':Heap}
theorem a2c{a:Addr}{o:HO}(e:H1' a=some o):jn H1' H1 H a=some o:=by
 unfold jn;rw[e];cases H1 a <;> rfl
theorem c3j{a:Addr}(e:H1 a=none)(e':H1' a=none):jn H1' H1 H a=H a:=by
 unfold jn;rw[e,e']
theorem e1c{a:Addr}{o:HO}(e:H1 a=some o)(e':H1' a=none):jn H1' H1 H a=none:=by
 unfold jn;rw[e,e']
theorem ObjOk.at_{a:Addr}{o:HO}(x:ObjOk P w H h a o):∃ob,h.get? a=some ob:=by
 cases o with
 | lst xs=>obtain⟨_,_,_,_,e⟩:=x;exact⟨_,e⟩
 | tup xs=>obtain⟨_,_,_,_,e,_⟩:=x;exact⟨_,e⟩
 | dK kvs=>obtain⟨_,_,_,_,o,_,_,e,_⟩:=x;exact⟨_,e⟩
 | dT kvs=>obtain⟨_,_,_,_,o,_,_,e,_⟩:=x;exact⟨_,e⟩
 | set S n=>obtain⟨o,_,_,_,e,_⟩:=x;exact⟨_,e⟩
 | ins C dx fs=>obtain⟨_,_,_,e,_⟩:=x;exact⟨_,e⟩
 | own y=>obtain⟨_,e⟩:=x;exact⟨_,e⟩
 | xd fs=>obtain⟨_,⟨_,_,_,e,_⟩,_⟩:=x;exact⟨_,e⟩
 | rng lo hi=>obtain⟨_,_,_,e⟩:=x;exact⟨_,e⟩
 | frz ob u=>obtain⟨e,_⟩:=x;exact⟨_,e⟩
 | tbl ps=>exact⟨_,(show h.get? a=some _ from x)⟩
 | met f y=>exact⟨_,(show h.get? a=some _ from x)⟩
 | ext φ=>obtain⟨_,⟨_,e⟩,_⟩:=x;exact⟨_,e⟩
theorem ObjOk.stay2{H':Hp}{a:Addr}{o:HO}(x:ObjOk P w H h a o)(k:∀b u,(b=a\/(e2h o=some b/\H b=some (.own a)))->h.get? b=some u->h'.get? b=some u)(ho:∀b,e2h o=some b->H b=some (.own a)->H' b=some (.own a))(ht:∀b xs,H b=some (.tup xs)->H' b=some (.tup xs)):ObjOk P w H' h' a o:=by
 have kk:(e2h o=none)->ObjOk P w H' h' a o:=λdn=>by
  let G:Hp:=λb=>match H b with
   | some (.own _)=>none
   | z=>z
  have gt:∀b xs,H b=some (.tup xs)->G b=some (.tup xs):=λb xs e=>by show(match H b with|some (.own _)=>none|z=>z)=_;rw[e]
  have gn:∀b,G b≠some (.own a):=λb e=>by
   have e:(match H b with|some (.own _)=>none|z=>z)=some (HO.own a):=e
   split at e
   ·cases e
   ·rename_i n;exact n a e
  have xg:ObjOk P w G h a o:=by
   clear k ho ht
   induction o with
   | ins C dx fs=>cases dn
   | dT kvs=>
    obtain⟨z,y,xs,r,c⟩:=x;exact⟨z,y,xs,Paired.mapP r λp q z=>⟨z.1,gt _ _ z.2.1,z.2.2⟩,c⟩
   | frz ob u ih=>exact⟨x.1,ih x.2 dn⟩
   | _=>exact x
  refine (xg.stay (H':=G) (h':=h') (λb u hb e=>k b u (hb.elim .inl λz=>absurd z (gn b)) e) (λb z=>absurd z (gn b)) λb xs e=>e).stay (λ_ _ _ e=>e) (λb z=>absurd z (gn b)) λb xs e=>ht b xs ?_;have e:(match H b with|some (.own _)=>none|z=>z)=some (HO.tup xs):=e
  split at e
  ·cases e
  ·exact e
 induction o with
 | ins C dx fs=>
  obtain⟨d,z,ne,e,mA,⟨od,es,ep,e2,c⟩,r⟩:=x;exact⟨ho dx rfl d,z,ne,k _ _ ↑22 e,mA,⟨od,es,ep,k dx _ (.inr ⟨rfl,d⟩) e2,c⟩,r⟩
 | frz ob u ih=>
  cases q:e2h u with
  | none=>exact kk q
  | some b=>exact⟨k _ _ ↑22 x.1,ih x.2 k ho λdn=>by rw[q] at dn;cases dn⟩
 | _=>exact kk rfl
theorem Sub.no(S:Sub H1 H){b:Addr}(e:H b=none):H1 b=none:=by
 cases q:H1 b with
 | none=>rfl
 | some o=>rw[S.le b o q] at e;cases e
theorem Sub.hok(S:Sub H1 H)(k:HOk P w H h):HOk P w H1 h:=λa o e=>(k a o (S.le a o e)).stay2 (λ_ _ _ q=>q)
 (λb d q=>by
  cases r:H1 b with
  | none=>have:=(S.own a o b (S.le a o e) d q).2 r;rw[this] at e;cases e
  | some u=>have:=S.le b u r;rw[q] at this;cases this;rfl) S.tup
theorem Sub.un{fs:List Addr}(S:Sub H1 H)(k:HOk P w H h)(u:Un fs [] H1 H1' h h'):Out H1' H1 H/\Un fs [] H (jn H1' H1 H) h h':=by
 have nx:∀b:Addr,b ∉ ([]:List Addr):=λ_ z=>by cases z
 have fr:∀b o,H b=some o->H1 b=none->H1' b=none:=λb o e n=>by
  obtain⟨ob,eo⟩:=(k b o e).at_;exact u.free b ob eo n (nx b)
 have ot:Out H1' H1 H:=⟨fr,λb xs e=>u.tups b xs (S.tup b xs e),λb o v e=>u.frzs b o v (S.frz b o v e)⟩;refine⟨ot,⟨λb o q n hb hx=>u.keep b o q (S.no n) hb hx,λb o q n hb hx=>u.slot b o q (S.no n) hb hx,λb o q n hx=>?_,u.there,λb xs e=>a2c (u.tups b xs (S.tup b xs e)),λb o v e=>a2c (u.frzs b o v (S.frz b o v e)),λb ps e=>?_⟩⟩
 ·rw[c3j (S.no n) (u.free b o q (S.no n) hx)];exact n
 ·obtain⟨more,z⟩:=u.tbls b ps (S.tbl b ps e)
  exact⟨more,a2c z⟩
theorem Sub.back{fs:List Addr}(S:Sub H1 H)(k:HOk P w H h)(hf:∀b∈fs,H b=none)(u:Un fs [] H1 H1' h h')(k':HOk P w H1' h'):HOk P w (jn H1' H1 H) h':=by
 have nx:∀b:Addr,b ∉ ([]:List Addr):=λ_ z=>by cases z
 obtain⟨ot,_⟩:=S.un k u;have tp:∀b xs,H b=some (.tup xs)->jn H1' H1 H b=some (.tup xs):=λb xs e=>a2c (ot.tup b xs e);intro a o e;cases q:H1' a with
 | some v=>
  rw[a2c q] at e;cases e;exact(k' a _ q).stay (λ_ _ _ z=>z) (λb z=>a2c z) λb xs z=>a2c z
 | none=>
  cases r:H1 a with
  | some v=>rw[e1c r q] at e;cases e
  | none=>
   rw[c3j r q] at e;refine (k a o e).stay2 (λb v hb z=>?_) (λb d z=>?_) tp
   ·have hn:H1 b=none:=by
     rcases hb with rfl|hb
     ·exact r
     ·exact(S.own a o b e hb.1 hb.2).1 r
    refine u.keep b v z hn (λhm=>?_) (nx b);rcases hb with rfl|hb
    ·rw[hf b hm] at e;cases e
    ·rw[hf b hm] at hb;cases hb.2
   ·have hn:=(S.own a o b e d z).1 r
    rw[c3j hn (ot.fr b _ z hn)];exact z
theorem FnOk.frame{k:Nat}{f:Addr}{fd:FuncData}{ps:List Str}{sp:Sp}(F:FnOk P w K mg base (CXK P w) k f fd ps sp):FnOk P w K mg base (CXK P w) k f fd ps (frS sp):=by
 refine⟨λvs H Q E h=>?_,λA outer s H args us vs Q E hr he hb hv hs=>?_⟩
 ·obtain⟨H1,_,z⟩:=h
  exact F.len _ _ _ _ z
 ·obtain⟨H1,S,z⟩:=hs
  have e1:Env0 P w K mg base A outer s H1:=⟨he.frames,he.mod,λb o q=>⟨(he.bs b o q).1,S.no (he.bs b o q).2⟩,he.bsz,he.funs,λb hb=>S.no (he.frf b hb),S.hok he.hok,he.bare⟩;refine codeAny_mono (F.run A outer s H1 args us vs _ _ hr e1 hb hv z) λr s' q=>?_
  match r,q with
  | .ok (.ret u),q=>
   obtain⟨v,H1',a1,a2,a3,a4,a5,a6⟩:=q;obtain⟨ot,un⟩:=S.un he.hok a3;exact⟨v,_,a1,a2,un,S.back he.hok he.frf a3 a4,a5,a6 ot⟩
  | .ok .next,q=>exact q
  | .error e,q=>
   obtain⟨_,_,_,_,_,z⟩:=q;exact z.elim
theorem MethT.frame{C:Addr}{m:Str}{k:Nat}{ps:List Str}{sp:Sp}(M:↑904 C m k ps sp):↑904 C m k ps (frS sp):=by
 obtain⟨f,fd,F,a,b⟩:=M.ex;exact⟨f,fd,F.frame,a,b⟩
theorem FnT.frame{x:Str}{k:Nat}{ps:List Str}{sp:Sp}(M:↑901 x k ps sp):↑901 x k ps (frS sp):=by
 obtain⟨f,fd,F,a,b⟩:=M.ex;exact⟨f,fd,F.frame,a,b⟩
noncomputable def b9e:Option HO->Bool
 | some (.tup _)=>true
 | some (.frz _ _)=>true
 | some (.tbl _)=>true
 | _=>false
open Classical in
noncomputable def rs(F:Addr->Prop)(H:Hp):Hp:=λb=>match H b with
 | some (.own a)=>if F a\/b9e (H a)=true then some (.own a) else none
 | z=>if F b\/b9e (H b)=true then z else none
theorem b5e{F:Addr->Prop}{b:Addr}{o:HO}(e:H b=some o)(n:∀a,o≠.own a)(hb:F b\/b9e (H b)=true):rs F H b=some o:=by
 unfold rs;rw[e];cases o with
 | own a=>exact absurd rfl (n a)
 | _=>exact if_pos (e ▸ hb)
theorem c4w{F:Addr->Prop}{b:Addr}{o:HO}(e:rs F H b=some o):H b=some o:=by
 unfold rs at e;split at e
 ·rename_i a q
  split at e
  ·rw[q];exact e
  ·cases e
 ·split at e
  ·exact e
  ·cases e
theorem c0i{F:Addr->Prop}{b:Addr}{o:HO}(e:H b=some o)(n:∀a,o≠.own a)(hb:¬ (F b\/b9e (H b)=true)):rs F H b=none:=by
 unfold rs;rw[e];cases o with
 | own a=>exact absurd rfl (n a)
 | _=>exact if_neg (e ▸ hb)
theorem e3f{F:Addr->Prop}{b a:Addr}(e:H b=some (.own a))(hb:¬ (F a\/b9e (H a)=true)):rs F H b=none:=by
 unfold rs;rw[e];exact if_neg hb
theorem e0e{F:Addr->Prop}{b a:Addr}(e:H b=some (.own a))(hb:F a\/b9e (H a)=true):rs F H b=some (.own a):=by
 unfold rs;rw[e];exact if_pos hb
theorem c0h(F:Addr->Prop)(H:Hp):Sub (rs F H) H where
 le:=λa o e=>c4w e
 own:=λa o b e d q=>by
  have n:∀c,o≠.own c:=λc z=>by rw[z] at d;cases d
  by_cases hc:F a\/b9e (H a)=true
  ·rw[b5e e n hc,e0e q hc];exact⟨λz=>(by cases z),λz=>(by cases z)⟩
  ·rw[c0i e n hc,e3f q hc]
 tup:=λb xs e=>b5e e (λ_ z=>by cases z) (.inr (by rw[e];rfl))
 frz:=λb o u e=>b5e e (λ_ z=>by cases z) (.inr (by rw[e];rfl))
 tbl:=λb ps e=>b5e e (λ_ z=>by cases z) (.inr (by rw[e];rfl))
end
def d8p(K:↑29):List V->Hp->VK->Prop:=λxs H Q=>∃p ys,xs=[.ref p]/\((SqL K H p ys/\∀l,H l=none->Q (.ref l) (upd H l (.tup ys)))\/(SqT K H p ys/\Q (.ref p) H))
theorem d5k{X:Cx}{K:Frag}(h:autoParam (X.K=K) q4):b2r X ↑100 (d8p K):=h ▸ c3q
open PySem.Spec PyProof.Rows
theorem d8h{J:It}{xs:List V}{nt:Nat}{fr:List Nat}{g:TG}{te:TE}{σ:St}{H:Hp}{Q:Addr->Hp->Prop}(hz:xs.length<sizeLine)(Sq:Hp->Prop)(jg:∀i x H',Sq H'->xs[i]?=some x->J.go i H')(jy:∀i H' x H2,Sq H'->J.yld i H' x H2->H2=H'/\xs[i]?=some x)(js:∀H',Sq H'->J.stop xs.length H')(Pv:Addr->Nat->List V->Hp->Prop)(h0:∀D,H D=none->Pv D 0 [] ↑108)(hk:∀D i acc H',Pv D i acc H'->H' D=some ↑88/\acc.length=i/\Sq H')(hs:∀D i x acc H',H D=none->xs[i]?=some x->Pv D i acc H'->g x ↑68 H' λσ2 H2=>te σ2 H2 λy H3=>H3 D=some ↑88/\Pv D (i+1) ↑50 (upd H3 D ↑44))(hd:∀D acc H',H D=none->Pv D xs.length acc H'->Q D H'):
  ∀D,H D=none->∃(m:Nat)(W:↑113),W 0 [] ↑108/\∀i acc H',W i acc H'->H' D=some ↑88/\acc.length<sizeLine /\
   ((J.stop i H'/\Q D H')\/(i<m/\J.go i H'/\∀x H2,J.yld i H' x H2->g x ↑68 H2 λσ2 H3=>te σ2 H3 λy H4=>H4 D=some ↑88/\W (i+1) ↑50 ↑144)):=by
 intro D hD;refine⟨xs.length,λi acc H'=>i<=xs.length/\Pv D i acc H',⟨Nat.zero_le _,h0 D hD⟩,?_⟩;rintro i acc H' ⟨hi,p⟩;obtain⟨k1,k2,k3⟩:=hk D i acc H' p;refine⟨k1,by lia,?_⟩
 by_cases h:i<xs.length
 ·refine .inr ⟨h,jg i _ H' k3 (List.getElem?_eq_getElem h),λx H2 y=>?_⟩
  obtain⟨rfl,ex⟩:=jy i H' x H2 k3 y;have key:=hs D i x acc _ hD ex p;have e:∀acc':V->List V,(λ(y:V) (H4:Hp)=>H4 D=some ↑88/\i+1<=xs.length/\Pv D (i+1) (acc' y) (upd H4 D (.lst (acc' y))))=λ(y:V) (H3:Hp)=>H3 D=some ↑88/\Pv D (i+1) (acc' y) (upd H3 D (.lst (acc' y))):=λacc'=>by
   funext y H4;exact propext ⟨λz=>⟨z.1,z.2.2⟩,λz=>⟨z.1,h,z.2⟩⟩
  rw[show(λ(σ2:St) (H3:Hp)=>te σ2 H3 λy H4=>H4 D=some ↑88/\i+1<=xs.length/\Pv D (i+1) ↑50 ↑144)=λ(σ2:St) (H2:Hp)=>te σ2 H2 λy H3=>H3 D=some ↑88/\Pv D (i+1) ↑50 (upd H3 D ↑44) from by
   funext σ2 H3;rw[e λy=>acc++[y]]]
  exact key
 ·have:i=xs.length:=by lia
  subst this;exact .inl ⟨js H' k3,hd D acc H' hD p⟩
theorem d5i{K:Frag}{a:Addr}{xs:List V}{nt:Nat}{fr:List Nat}{g:TG}{te:TE}{σ:St}{H:Hp}{Q:Addr->Hp->Prop}(hz:xs.length<sizeLine)(Pv:Addr->Nat->List V->Hp->Prop)(h0:∀D,H D=none->Pv D 0 [] ↑108)(hk:∀D i acc H',Pv D i acc H'->H' D=some ↑88/\acc.length=i/\SqT K H' a xs)(hs:∀D i x acc H',H D=none->xs[i]?=some x->Pv D i acc H'->g x ↑68 H' λσ2 H2=>te σ2 H2 λy H3=>H3 D=some ↑88/\Pv D (i+1) ↑50 (upd H3 D ↑44))(hd:∀D acc H',H D=none->Pv D xs.length acc H'->Q D H'):
  ∀D,H D=none->∃(m:Nat)(W:↑113),W 0 [] ↑108/\∀i acc H',W i acc H'->H' D=some ↑88/\acc.length<sizeLine /\
   (((Itt K a).stop i H'/\Q D H')\/(i<m/\(Itt K a).go i H'/\∀x H2,(Itt K a).yld i H' x H2->g x ↑68 H2 λσ2 H3=>te σ2 H3 λy H4=>H4 D=some ↑88/\W (i+1) ↑50 ↑144)) :=
 d8h hz (λH'=>SqT K H' a xs) (λi x H' q e=>⟨xs,x,q,e⟩) (λi H' x H2 q y=>⟨y.1,y.2 xs q⟩) (λH' q=>⟨xs,q,Nat.le_refl _⟩) Pv h0 hk hs hd
end L2
namespace Pr
theorem c3g{n i j:Nat}(e:i % n=j % n)(h1:i<j+n)(h2:j<i+n):i=j:=by
 have a:=Nat.sub_mod_eq_zero_of_mod_eq e;have b:=Nat.sub_mod_eq_zero_of_mod_eq e.symm;have c:i-j=0:=by
  have:i-j<n:=by lia
  rwa [Nat.mod_eq_of_lt this] at a
 have d:j-i=0:=by
  have:j-i<n:=by lia
  rwa [Nat.mod_eq_of_lt this] at b
 lia
def lap(n i:Nat):Nat:=(i / n) % 2
theorem b6l(n i:Nat):lap n i<2:=Nat.mod_lt _ ↑2
theorem c8x{n i:Nat}(h:0<n):lap n (i+n)=1-lap n i:=by
 unfold lap;rw[Nat.add_div_right _ h];lia
theorem c0d(n i:Nat):(i % (2*n)) % n=i % n:=Nat.mod_mod_of_dvd _ ⟨2,by lia⟩
theorem c9l(n i:Nat):(i % (2*n)) / n=lap n i:=by
 unfold lap;rw[Nat.mul_comm 2 n,Nat.mod_mul_right_div_self]
theorem b7b{n i:Nat}(h:0<n):i % (2*n)<2*n:=Nat.mod_lt _ ↑2
theorem c1d{n i j:Nat}(e:i % (2*n)=j % (2*n))(h1:i<=j+n)(h2:j<=i+n)(h:0<n):i=j:=c3g e ↑2 ↑2
noncomputable def b6v(n i q:Nat):Nat:=if q<i % n then lap n i else 1-lap n i
abbrev Cells:=Nat->Int
noncomputable def put(c:Cells)(i:Nat)(v:Int):Cells:=λj=>if j=i then v else c j
theorem put_same(c:Cells)(i:Nat)(v:Int):put c i v i=v:=if_pos rfl
theorem put_ne(c:Cells){i j:Nat}(v:Int)(h:j≠i):put c i v j=c j:=if_neg h
noncomputable def mkv(n f i:Nat):Int:=2*(lap n i:Int)+(if f<=i then 1 else 0)
structure Marks(n f g:Nat)(c:Cells):Prop where
 old:∀i,i<g->g<=i+n->c (4*(i % n))=mkv n f i
 new:∀q,q<n->g<=q->c (4*q)=2
section
variable{n f g t:Nat}{c:Cells}
theorem Marks.give(h:Marks n f g c)(hn:0<n)(fg:f<=g)(gf:g<f+n):Marks n f (g+1) (put c (4*(g % n)) (2*(lap n g:Int)+1)) where
 old:=λi h1 h2=>by
  by_cases e:i=g
  ·subst e
   rw[put_same];unfold mkv;rw[if_pos fg]
  ·have ne:i % n≠g % n:=λz=>e (c3g z ↑2 ↑2)
   rw[put_ne _ _ ↑2];exact h.old i ↑2 ↑2
 new:=λq h1 h2=>by
  have ne:q≠g % n:=by
   rw[Nat.mod_eq_of_lt ↑2];lia
  rw[put_ne _ _ ↑2];exact h.new q h1 ↑2
theorem Marks.free(h:Marks n f g c)(hn:0<n)(fg:f<g)(gf:g<=f+n):Marks n (f+1) g (put c (4*(f % n)) (2*(lap n f:Int))) where
 old:=λi h1 h2=>by
  by_cases e:i=f
  ·subst e
   rw[put_same];unfold mkv;rw[if_neg ↑2];lia
  ·have ne:i % n≠f % n:=λz=>e (c3g z ↑2 ↑2)
   rw[put_ne _ _ ↑2,h.old i h1 h2];unfold mkv;by_cases z:f<=i
   ·rw[if_pos z,if_pos ↑2]
   ·rw[if_neg z,if_neg ↑2]
 new:=λq h1 h2=>by
  have ne:q≠f % n:=by
   rw[Nat.mod_eq_of_lt ↑2];lia
  rw[put_ne _ _ ↑2];exact h.new q h1 h2
theorem Marks.other(h:Marks n f g c){i:Nat}{v:Int}(hn:0<n)(ne:∀q,q<n->i≠4*q):Marks n f g (put c i v) where
 old:=λj h1 h2=>by rw[put_ne _ _ (Ne.symm (ne _ (Nat.mod_lt _ hn)))];exact h.old j h1 h2
 new:=λq h1 h2=>by rw[put_ne _ _ (Ne.symm (ne _ h1))];exact h.new q h1 h2
theorem Marks.mayGive(h:Marks n f g c)(hn:0<n)(fg:f<=g)(gf:g<=f+n):c (4*(g % n))=2*(1-(lap n g:Int)) ↔ g<f+n:=by
 by_cases z:g<n
 ·have e:g % n=g:=Nat.mod_eq_of_lt z
  have l0:lap n g=0:=by unfold lap;rw[Nat.div_eq_of_lt z]
  rw[e,h.new g z ↑31,l0];lia
 ·obtain⟨i,rfl⟩:∃i,g=i+n:=⟨g-n,by lia⟩
  have l:=c8x (i:=i) hn;have l2:=b6l n i;rw[Nat.add_mod_right,h.old i ↑2 ↑2,l];unfold mkv;by_cases y:f<=i
  ·rw[if_pos y];lia
  ·rw[if_neg y];lia
theorem Marks.mayTake(h:Marks n f g c)(hn:0<n)(ft:f<=t)(tg:t<=g)(gf:g<=f+n):c (4*(t % n))=2*(lap n t:Int)+1 ↔ t<g:=by
 by_cases z:t<g
 ·rw[h.old t z ↑2]
  unfold mkv;rw[if_pos ft];lia
 ·have e:t=g:=by lia
  subst e;by_cases y:t<n
  ·have e:t % n=t:=Nat.mod_eq_of_lt y
   have l0:lap n t=0:=by unfold lap;rw[Nat.div_eq_of_lt y]
   rw[e,h.new t y ↑31,l0];lia
  ·obtain⟨i,rfl⟩:∃i,t=i+n:=⟨t-n,by lia⟩
   have l:=c8x (i:=i) hn;have l2:=b6l n i;rw[Nat.add_mod_right,h.old i ↑2 ↑2,l];unfold mkv;by_cases y:f<=i
   ·rw[if_pos y];lia
   ·rw[if_neg y];lia
theorem a5r{n i q:Nat}(hq:q<n)(k:Nat)(e:i=n*k+q):i % n=q/\i / n=k:=by
 subst e;constructor
 ·rw[Nat.mul_add_mod,Nat.mod_eq_of_lt hq]
 ·rw[Nat.mul_add_div ↑2,Nat.div_eq_of_lt hq];lia
theorem c8w{n g q:Nat}(hn:0<n)(hq:q<n):(g<=q/\¬ q<g % n/\lap n g=0) \/ ∃i,i<g/\g<=i+n/\i % n=q/\(lap n i=if q<g % n then lap n g else 1-lap n g):=by
 have hg:=Nat.div_add_mod g n;have hr:=Nat.mod_lt g hn;by_cases z:q<g % n
 ·refine .inr ⟨n*(g / n)+q,by lia,by lia,(a5r hq _ rfl).1,?_⟩
  rw[if_pos z];unfold lap;rw[(a5r hq _ rfl).2]
 ·by_cases y:g<n
  ·refine .inl ⟨?_,z,?_⟩
   ·rw[Nat.mod_eq_of_lt y] at z;lia
   ·unfold lap;rw[Nat.div_eq_of_lt y]
  ·have h1:1<=g / n:=(Nat.one_le_div_iff hn).mpr ↑2
   obtain⟨k,hk⟩:∃k,g / n=k+1:=⟨g / n-1,by lia⟩
   have e2:n*(g / n)=n*k+n:=by rw[hk,Nat.mul_succ]
   refine .inr ⟨n*k+q,by lia,by lia,(a5r hq _ rfl).1,?_⟩
   rw[if_neg z];unfold lap;rw[(a5r hq _ rfl).2,hk];lia
theorem Marks.laps(h:Marks n f g c)(hn:0<n){q:Nat}(hq:q<n):c (4*q) / 2=(b6v n g q:Int):=by
 unfold b6v;rcases c8w (g:=g) hn hq with ⟨a,b,l⟩|⟨i,h1,h2,e,l⟩
 ·rw[h.new q hq a,if_neg b,l];rfl
 ·have:=h.old i h1 h2
  rw[e] at this;rw[this,<- l];unfold mkv;have:=b6l n i;split <;> lia
theorem Marks.sides(h:Marks n f g c)(hn:0<n)(fg:f<=g)(gf:g<=f+n){q:Nat}(hq:q<n):(if c (4*q) / 2≠c (4*q) % 2 then (1:Int) else 0)=(b6v n f q:Int):=by
 unfold b6v;have lf:=b6l n f;rcases c8w (g:=f) hn hq with ⟨a,b,l⟩|⟨i,h1,h2,e,l⟩
 ·rw[if_neg b,l]
  by_cases z:g<=q
  ·rw[h.new q hq z];rfl
  ·have e:q % n=q:=Nat.mod_eq_of_lt hq
   have:=h.old q ↑2 ↑2;rw[e] at this;have l0:lap n q=0:=by unfold lap;rw[Nat.div_eq_of_lt hq]
   have e1:mkv n f q=1:=by unfold mkv;rw[l0,if_pos a];rfl
   rw[this,e1]
   rfl
 ·rw[<- l]
  have li:=b6l n i;by_cases z:g<=i+n
  ·have:=h.old i ↑2 z
   rw[e] at this;have e1:mkv n f i=2*(lap n i:Int):=by unfold mkv;rw[if_neg ↑2];lia
   rw[this,e1];split <;> lia
  ·have:=h.old (i+n) ↑2 ↑2
   rw[Nat.add_mod_right,e] at this;have e1:mkv n f (i+n)=2*((1-lap n i:Nat):Int)+1:=by unfold mkv;rw[c8x hn,if_pos ↑2]
   rw[this,e1];split <;> lia
theorem Marks.range(h:Marks n f g c)(hn:0<n){q:Nat}(hq:q<n):0<=c (4*q)/\c (4*q)<=3:=by
 rcases c8w (g:=g) hn hq with ⟨a,b,l⟩|⟨i,h1,h2,e,l⟩
 ·rw[h.new q hq a];lia
 ·have:=h.old i h1 h2
  rw[e] at this;rw[this];unfold mkv;have:=b6l n i;split <;> lia
end
end Pr
namespace Pr
def tot(os:List ↑28):Nat:=os.flatten.length
noncomputable def m6:List ↑28->Nat->Nat
 | [],_=>0
 | o::os,i=>if i<o.length then 0 else m6 os (i-o.length)+1
noncomputable def m9:List ↑28->Nat->Nat
 | [],_=>0
 | o::os,i=>if i<o.length then o.length-1-i else m9 os (i-o.length)
def a0e(os:List ↑28)(i:Nat):Int:=os.flatten.getD i 0
def beg(os:List ↑28)(j:Nat):Nat:=tot (os.take j)
theorem a5c(o:List Int)(os:List ↑28):tot (o::os)=o.length+tot os:=by simp[tot]
theorem d0w(os ps:List ↑28):tot (os++ps)=tot os+tot ps:=by simp[tot]
theorem a0j(o:List Int)(os:List ↑28)(j:Nat):beg (o::os) (j+1)=o.length+beg os j:=by simp[beg,a5c]
theorem a0x(os:List ↑28):beg os 0=0:=by simp[beg,tot]
def Good(n:Nat)(os:List ↑28):Prop:=∀o∈os,1<=o.length/\o.length<=n
theorem Good.tail{n:Nat}{o:List Int}{os:List ↑28}(h:Good n (o::os)):Good n os:=λp hp=>h p (List.mem_cons_of_mem _ hp)
theorem Good.head{n:Nat}{o:List Int}{os:List ↑28}(h:Good n (o::os)):1<=o.length/\o.length<=n:=h o List.mem_cons_self
theorem a3u:∀{os:List ↑28}{i:Nat},i<tot os->m6 os i<os.length
 | [],i,h=>by simp[tot] at h
 | o::os,i,h=>by
  rw[a5c] at h;unfold m6;split
  ·simp
  ·have:=a3u (os:=os) (i:=i-o.length) ↑2
   simp;lia
theorem a0g{n:Nat}:∀{os:List ↑28}{i:Nat},i<tot os->beg os (m6 os i)<=i/\i+m9 os i+1=beg os (m6 os i+1)
 | [],i,h=>by simp[tot] at h
 | o::os,i,h=>by
  rw[a5c] at h;unfold m6 m9;split
  ·rename_i hi
   rw[a0x,a0j,a0x];lia
  ·have:=a0g (n:=n) (os:=os) (i:=i-o.length) ↑2
   rw[a0j,a0j];lia
theorem d0q:∀(os:List ↑28){j k:Nat},j<=k->beg os j<=beg os k
 | [],j,k,h=>by simp[beg,tot]
 | o::os,0,k,h=>by rw[a0x];lia
 | o::os,j+1,0,h=>by lia
 | o::os,j+1,k+1,h=>by
  rw[a0j,a0j];have:=d0q os (j:=j) (k:=k) ↑2;lia
theorem b0e:∀(os:List ↑28)(j:Nat),beg os j<=tot os
 | [],j=>by simp[beg,tot]
 | o::os,0=>by rw[a0x];lia
 | o::os,j+1=>by rw[a0j,a5c];have:=b0e os j;lia
theorem c9i(os:List ↑28){j:Nat}(h:os.length<=j):beg os j=tot os:=by unfold beg;rw[List.take_of_length_le h]
theorem a3t:∀{os:List ↑28}{i j:Nat},beg os j<=i->i<beg os (j+1)->m6 os i=j
 | [],i,j,h1,h2=>by simp[beg,tot] at h2
 | o::os,i,0,h1,h2=>by
  rw[a0j,a0x] at h2;unfold m6;rw[if_pos ↑2]
 | o::os,i,j+1,h1,h2=>by
  rw[a0j] at h1 h2;unfold m6;rw[if_neg ↑2,a3t (os:=os) (i:=i-o.length) (j:=j) ↑2 ↑2]
theorem next_part{os:List ↑28}{i:Nat}(hi:i<tot os)(hl:0<m9 os i):i+1<tot os/\m6 os (i+1)=m6 os i/\m9 os (i+1)+1=m9 os i:=by
 obtain⟨a,b⟩:=a0g (n:=0) hi;have c:=b0e os (m6 os i+1);have d:m6 os (i+1)=m6 os i:=a3t ↑2 ↑2;obtain⟨e,e2⟩:=a0g (n:=0) (os:=os) (i:=i+1) ↑2;rw[d] at e2;exact⟨by lia,d,by lia⟩
theorem d0r{n:Nat}:∀{os:List ↑28}{j:Nat},Good n os->j<os.length->beg os j<beg os (j+1)/\beg os (j+1)<=beg os j+n
 | [],j,h,hj=>by simp at hj
 | o::os,0,h,hj=>by
  rw[a0j,a0x,a0x];have:=h.head;lia
 | o::os,j+1,h,hj=>by
  rw[a0j,a0j];have:=d0r (os:=os) (j:=j) h.tail (by simp at hj;lia)
  lia
theorem next_order{n:Nat}{os:List ↑28}{i:Nat}(g:Good n os)(hi:i+1<tot os)(hl:m9 os i=0):m6 os (i+1)=m6 os i+1/\beg os (m6 os i+1)=i+1:=by
 obtain⟨a,b⟩:=a0g (n:=0) (os:=os) (i:=i) ↑2;rw[hl] at b;have nl:=a3u (os:=os) (i:=i) ↑2;have c:m6 os i+1<os.length:=by
  by_cases z:m6 os i+1<os.length
  ·exact z
  ·have:=c9i os (j:=m6 os i+1) ↑2
   lia
 have d:=d0r g c;exact⟨a3t ↑2 ↑2,by lia⟩
theorem d4a{n:Nat}{os:List ↑28}(g:Good n os)(h:0<tot os):m6 os 0=0:=by
 cases os with
 | nil=>simp[tot] at h
 | cons o os=>
  unfold m6;rw[if_pos (by have:=g.head;lia)]
theorem b7c{os:List ↑28}{j:Nat}{o:List Int}(h:os[j]?=some o):∀m,m<o.length->a0e os (beg os j+m)=o.getD m 0:=by
 induction os generalizing j with
 | nil=>simp at h
 | cons p os ih=>
  intro m hm;cases j with
  | zero=>
   simp at h;subst h;rw[a0x,Nat.zero_add];unfold a0e;rw[List.flatten_cons,List.getD_eq_getElem?_getD,List.getElem?_append_left hm,List.getD_eq_getElem?_getD]
  | succ j=>
   have h':os[j]?=some o:=by simpa using h
   rw[a0j,<- ih h' m hm];unfold a0e;rw[List.flatten_cons,List.getD_eq_getElem?_getD,List.getD_eq_getElem?_getD,List.getElem?_append_right ↑2]
   congr 2
   lia
theorem d0p{os:List ↑28}{j:Nat}{o:List Int}(h:os[j]?=some o):beg os (j+1)=beg os j+o.length:=by
 induction os generalizing j with
 | nil=>simp at h
 | cons p os ih=>
  cases j with
  | zero=>
   simp at h;subst h;rw[a0j,a0x,a0x];lia
  | succ j=>
   have h':os[j]?=some o:=by simpa using h
   rw[a0j,a0j,ih h'];lia
theorem a1g:∀{os ps:List ↑28}{i:Nat},i<tot os->m6 (os++ps) i=m6 os i/\m9 (os++ps) i=m9 os i
 | [],ps,i,h=>by simp[tot] at h
 | o::os,ps,i,h=>by
  rw[a5c] at h;rw[List.cons_append];unfold m6 m9;by_cases z:i<o.length
  ·simp only[if_pos z];exact⟨trivial,trivial⟩
  ·simp only[if_neg z]
   have:=a1g (os:=os) (ps:=ps) (i:=i-o.length) ↑2;rw[this.1,this.2];exact⟨rfl,rfl⟩
theorem a9x{os ps:List ↑28}{i:Nat}(h:i<tot os):a0e (os++ps) i=a0e os i:=by
 unfold a0e;rw[List.flatten_append,List.getD_eq_getElem?_getD,List.getElem?_append_left h,List.getD_eq_getElem?_getD]
theorem d0b{os ps:List ↑28}{j:Nat}(h:j<=os.length):beg (os++ps) j=beg os j:=by
 unfold beg;rw[List.take_append_of_le_length h]
end Pr
namespace Pr
inductive Stg where
 | rouse|clear|mute|marks|told|lacks|look|wish|again|sleep|hush|unwish|number|left|thing|mark|card|ring|free
 deriving DecidableEq
structure Ln where
 n:Nat
 c:Cells
 os:List ↑28
 bk:List ↑28
 gs:Stg
 gseen:List Int
 ts:Stg
 tseen:List Int
 f:Nat
 g:Nat
 t:Nat
noncomputable abbrev Ln.put(s:Ln)(i:Nat)(v:Int):Ln:={ s with c:=Pr.put s.c i v }
noncomputable def y7(os:List ↑28)(a k:Nat):List Int:=(List.range k).map λm=>a0e os (a+m)
noncomputable def gstep(s:Ln):Ln :=
 match s.gs with
 | .rouse=>{ s.put (4*s.n+3) 1 with gs:=.clear }
 | .clear=>{ s.put (4*s.n) (-1) with gs:=.mute }
 | .mute=>{ s.put (4*s.n+2) 0 with gs:=.marks }
 | .marks=>if s.gseen.length+1<s.n then { s with gseen:=s.gseen++[s.c (4*s.gseen.length)] } else { s with gseen:=[],gs:=.told }
 | .told=>{ s with gs:=.lacks }
 | .lacks=>{ s with gs:=.look }
 | .look=>if s.g<tot s.os then (if s.c (4 * ↑126)=2*(1-(lap s.n s.g:Int)) then { s with gs:=.number } else { s with gs:=.wish }) else s
 | .wish=>{ s.put (4*s.n) ((s.g % (2*s.n):Nat):Int) with gs:=.again }
 | .again=>if s.c (4 * ↑126)=2*(1-(lap s.n s.g:Int)) then { s with gs:=.unwish } else { s with gs:=.sleep }
 | .sleep=>if s.c (4*s.n+2)=0 then s else { s with gs:=.hush }
 | .hush=>{ s.put (4*s.n+2) 0 with gs:=.unwish }
 | .unwish=>{ s.put (4*s.n) (-1) with gs:=.look }
 | .number=>{ s.put (4 * ↑126+1) (m6 s.os s.g) with gs:=.left }
 | .left=>{ s.put (4 * ↑126+2) (m9 s.os s.g) with gs:=.thing }
 | .thing=>{ s.put (4 * ↑126+3) (a0e s.os s.g) with gs:=.mark }
 | .mark=>{ s.put (4 * ↑126) (2*(lap s.n s.g:Int)+1) with gs:=.card,g:=s.g+1 }
 | .card=>if s.c (4*s.n+1)=(((s.g-1) % (2*s.n):Nat):Int) then { s with gs:=.ring } else { s with gs:=.look }
 | .ring=>{ s.put (4*s.n+3) 1 with gs:=.look }
 | .free=>s
noncomputable def a2w(s:Ln):Ln:=if s.f=s.t+1 then { s with ts:=.look,t:=s.f } else { s with ts:=.free }
noncomputable def tstep(s:Ln):Ln :=
 match s.ts with
 | .rouse=>{ s.put (4*s.n+2) 1 with ts:=.clear }
 | .clear=>{ s.put (4*s.n+1) (-1) with ts:=.mute }
 | .mute=>{ s.put (4*s.n+3) 0 with ts:=.marks }
 | .marks=>if s.tseen.length+1<s.n then { s with tseen:=s.tseen++[s.c (4*s.tseen.length)] } else { s with tseen:=[],ts:=.look }
 | .look=>if s.c (4*(s.t % s.n))=2*(lap s.n s.t:Int)+1 then { s with ts:=.number } else { s with ts:=.wish }
 | .wish=>{ s.put (4*s.n+1) ((s.t % (2*s.n):Nat):Int) with ts:=.again }
 | .again=>if s.c (4*(s.t % s.n))=2*(lap s.n s.t:Int)+1 then { s with ts:=.unwish } else { s with ts:=.sleep }
 | .sleep=>if s.c (4*s.n+3)=0 then s else { s with ts:=.hush }
 | .hush=>{ s.put (4*s.n+3) 0 with ts:=.unwish }
 | .unwish=>{ s.put (4*s.n+1) (-1) with ts:=.look }
 | .number=>{ s with ts:=.left }
 | .left=>{ s with ts:=.thing }
 | .thing=>if 0<m9 s.os s.t then { s with ts:=.look,t:=s.t+1 } else { s with ts:=.free,bk:=if m6 s.os s.t=s.bk.length then s.bk++[y7 s.os s.f (s.t+1-s.f)] else s.bk }
 | .free=>{ s.put (4*(s.f % s.n)) (2*(lap s.n s.f:Int)) with ts:=.card,f:=s.f+1 }
 | .card=>if s.c (4*s.n)=(((s.f-1+s.n) % (2*s.n):Nat):Int) then { s with ts:=.ring } else a2w s
 | .ring=>a2w (s.put (4*s.n+2) 1)
 | .told|.lacks|.mark=>s
def gfall(s:Ln):Ln:={ s with gs:=.rouse,gseen:=[] }
def tfall(s:Ln):Ln:={ s with ts:=.rouse,tseen:=[],t:=s.f }
def a7t(s:Ln)(o:List Int):Ln:={ s with os:=s.os++[o] }
noncomputable def Stg.wait:Stg->Bool
 | .wish|.again|.sleep|.hush|.unwish=>true
 | _=>false
noncomputable def Stg.gives:Stg->Bool
 | .number|.left|.thing|.mark=>true
 | _=>false
noncomputable def Stg.takes:Stg->Bool
 | .number|.left|.thing=>true
 | _=>false
def Stg.frees:Stg->Bool
 | .card|.ring=>true
 | _=>false
structure Core(s:Ln):Prop where
 n2:2<=s.n
 n8:s.n<=8
 good:Good s.n s.os
 fg:s.f<=s.g
 gf:s.g<=s.f+s.n
 gt:s.g<=tot s.os
 mks:Marks s.n s.f s.g s.c
 slip:∀i,i<s.g->(s.g<i+s.n\/s.f<=i)->s.c (4*(i % s.n)+1)=m6 s.os i/\s.c (4*(i % s.n)+2)=m9 s.os i/\s.c (4*(i % s.n)+3)=a0e s.os i
 slip0:s.g=0->s.c (4*(s.n-1)+1)=-1/\s.c (4*(s.n-1)+2)=0
structure GOk(s:Ln):Prop where
 st:s.gs≠.free
 seen0:s.gs≠.marks->s.gseen=[]
 seen:s.gseen.length<s.n/\∀q m,s.gseen[q]?=some m->m / 2=(b6v s.n s.g q:Int)/\0<=m/\m<=3
 want:s.gs.wait=true->s.g<tot s.os
 room:s.gs.gives=true->s.g<tot s.os/\s.g<s.f+s.n
 c1:s.gs=.left\/s.gs=.thing\/s.gs=.mark->s.c (4 * ↑126+1)=m6 s.os s.g
 c2:s.gs=.thing\/s.gs=.mark->s.c (4 * ↑126+2)=m9 s.os s.g
 c3:s.gs=.mark->s.c (4 * ↑126+3)=a0e s.os s.g
 pos:s.gs.frees=true->0<s.g
structure TOk(s:Ln):Prop where
 st:s.ts≠.told/\s.ts≠.lacks/\s.ts≠.mark
 seen0:s.ts≠.marks->s.tseen=[]
 seen:s.tseen.length<s.n/\∀q m,s.tseen[q]?=some m->(if m / 2≠m % 2 then (1:Int) else 0)=(b6v s.n s.f q:Int)/\0<=m/\m<=3
 bk:s.bk=s.os.take s.bk.length
 bl:s.bk.length<=s.os.length
 bf:s.f<=beg s.os s.bk.length
 bf0:∀b,s.bk.length=b+1->beg s.os b<=s.f
 ft:s.f<=s.t+(if s.ts.frees then 1 else 0)
 tg:s.t<=s.g
 run:∀i,s.f<=i+(if s.ts.frees then 1 else 0)->i<s.t->0<m9 s.os i
 come:s.ts=.rouse\/s.ts=.clear\/s.ts=.mute\/s.ts=.marks->s.t=s.f
 lies:s.ts.takes=true->s.t<s.g
 last:s.ts=.free\/s.ts.frees=true->s.t<s.g/\m9 s.os s.t=0/\m6 s.os s.t+1=s.bk.length
 pos:s.ts.frees=true->0<s.f
structure Ok(s:Ln):Prop where
 core:Core s
 gv:GOk s
 tk:TOk s
section
variable{s:Ln}
theorem Core.pl(h:Core s)(i:Nat):i % s.n<s.n:=Nat.mod_lt _ (by have:=h.n2;lia)
theorem Core.high(h:Core s){k:Nat}{v:Int}(hk:4*s.n<=k):Core (s.put k v):=by
 have hn:0<s.n:=by have:=h.n2;lia
 exact {
  n2:=h.n2,n8:=h.n8,good:=h.good,fg:=h.fg,gf:=h.gf,gt:=h.gt
  mks:=h.mks.other hn λq hq=>by lia
  slip:=λi h1 h2=>by
   have:=h.pl i;obtain⟨a,b,c⟩:=h.slip i h1 h2;refine⟨?_,?_,?_⟩
   ·exact(put_ne _ _ (by show 4*(i % s.n)+1≠k;lia)).trans a
   ·exact(put_ne _ _ (by show 4*(i % s.n)+2≠k;lia)).trans b
   ·exact(put_ne _ _ (by show 4*(i % s.n)+3≠k;lia)).trans c
  slip0:=λe=>by
   have:=h.n2;obtain⟨a,b⟩:=h.slip0 e;exact⟨(put_ne _ _ (by show 4*(s.n-1)+1≠k;lia)).trans a,(put_ne _ _ (by show 4*(s.n-1)+2≠k;lia)).trans b⟩ }
theorem Core.ahead(h:Core s)(room:s.g<s.f+s.n){k:Nat}{v:Int}(k1:1<=k)(k3:k<=3):Core (s.put (4 * ↑126+k) v):=by
 have hn:0<s.n:=by have:=h.n2;lia
 have hp:=h.pl s.g;exact {
  n2:=h.n2,n8:=h.n8,good:=h.good,fg:=h.fg,gf:=h.gf,gt:=h.gt
  mks:=h.mks.other hn λq hq=>by lia
  slip:=λi h1 h2=>by
   have h1':i<s.g:=h1;have h2':s.g<i+s.n\/s.f<=i:=h2;have ne:i % s.n≠s.g % s.n:=λz=>by have:=c3g z ↑2 ↑2;lia
   obtain⟨a,b,c⟩:=h.slip i h1 h2;refine⟨?_,?_,?_⟩
   ·exact(put_ne _ _ (by show 4*(i % s.n)+1≠_;lia)).trans a
   ·exact(put_ne _ _ (by show 4*(i % s.n)+2≠_;lia)).trans b
   ·exact(put_ne _ _ (by show 4*(i % s.n)+3≠_;lia)).trans c
  slip0:=λe=>by
   have:=h.n2;have e':s.g=0:=e;have hz:s.g % s.n=0:=by rw[e',Nat.zero_mod]
   obtain⟨a,b⟩:=h.slip0 e;exact⟨(put_ne _ _ (by show 4*(s.n-1)+1≠_;lia)).trans a,(put_ne _ _ (by show 4*(s.n-1)+2≠_;lia)).trans b⟩ }
end
end Pr
namespace Pr
section
variable{s:Ln}
theorem Core.cong{s':Ln}(h:Core s)(e1:s'.n=s.n)(e2:s'.c=s.c)(e3:s'.os=s.os)(e4:s'.f=s.f)(e5:s'.g=s.g):Core s':=by
 obtain⟨n,c,os,bk,gs,gseen,ts,tseen,f,g,t⟩:=s;obtain⟨n',c',os',bk',gs',gseen',ts',tseen',f',g',t'⟩:=s';dsimp only at e1 e2 e3 e4 e5;subst e1 e2 e3 e4 e5;exact⟨h.n2,h.n8,h.good,h.fg,h.gf,h.gt,h.mks,h.slip,h.slip0⟩
theorem TOk.giver{s':Ln}(h:TOk s)(e1:s'.n=s.n)(e2:s'.os=s.os)(e3:s'.bk=s.bk)(e4:s'.ts=s.ts)(e5:s'.tseen=s.tseen)(e6:s'.f=s.f)(e7:s'.t=s.t)(le:s.g<=s'.g):TOk s':=by
 obtain⟨n,c,os,bk,gs,gseen,ts,tseen,f,g,t⟩:=s;obtain⟨n',c',os',bk',gs',gseen',ts',tseen',f',g',t'⟩:=s';dsimp only at e1 e2 e3 e4 e5 e6 e7 le;subst e1 e2 e3 e4 e5 e6 e7;exact⟨h.st,h.seen0,h.seen,h.bk,h.bl,h.bf,h.bf0,h.ft,Nat.le_trans h.tg le,h.run,h.come,λz=>Nat.lt_of_lt_of_le (h.lies z) le,λz=>⟨Nat.lt_of_lt_of_le (h.last z).1 le,(h.last z).2⟩,h.pos⟩
theorem GOk.taker{s':Ln}(h:GOk s)(e1:s'.n=s.n)(e2:s'.os=s.os)(e3:s'.gs=s.gs)(e4:s'.gseen=s.gseen)(e5:s'.g=s.g)(le:s.f<=s'.f)(hc:∀k,1<=k->k<=3->s'.c (4 * ↑126+k)=s.c (4 * ↑126+k)):GOk s':=by
 obtain⟨n,c,os,bk,gs,gseen,ts,tseen,f,g,t⟩:=s;obtain⟨n',c',os',bk',gs',gseen',ts',tseen',f',g',t'⟩:=s';dsimp only at e1 e2 e3 e4 e5 le hc;subst e1 e2 e3 e4 e5;refine⟨h.st,h.seen0,h.seen,h.want,λz=>⟨(h.room z).1,by have:=(h.room z).2;show g'<f'+n';dsimp only at this;lia⟩,λz=>?_,λz=>?_,λz=>?_,h.pos⟩
 ·exact(hc 1 ↑2 ↑2).trans (h.c1 z)
 ·exact(hc 2 ↑2 ↑2).trans (h.c2 z)
 ·exact(hc 3 ↑2 ↑2).trans (h.c3 z)
theorem Ok.hn(h:Ok s):0<s.n:=by have:=h.core.n2;lia
theorem b6w{n:Nat}(hn:0<n)(P:Nat->Int->Prop):([]:List Int).length<n/\∀q m,([]:List Int)[q]?=some m->P q m:=⟨hn,λq m e=>by simp at e⟩
theorem a6e{s:Ln}(hs:s.gseen=[])(hn:0<s.n)(st:autoParam (s.gs≠.free) q6)(want:autoParam (s.gs.wait=true->s.g<tot s.os) q7)(room:autoParam (s.gs.gives=true->s.g<tot s.os/\s.g<s.f+s.n) q7)(c1:autoParam (s.gs=.left\/s.gs=.thing\/s.gs=.mark->s.c (4 * ↑126+1)=m6 s.os s.g) q7)(c2:autoParam (s.gs=.thing\/s.gs=.mark->s.c (4 * ↑126+2)=m9 s.os s.g) q7)(c3:autoParam (s.gs=.mark->s.c (4 * ↑126+3)=a0e s.os s.g) q7)(pos:autoParam (s.gs.frees=true->0<s.g) q7):GOk s :=
 ⟨st,λ_=>hs,by rw[hs];exact b6w hn _,want,room,c1,c2,c3,pos⟩
theorem c3x{s:Ln}(hs:s.tseen=[])(hn:0<s.n)(bk:s.bk=s.os.take s.bk.length)(bl:s.bk.length<=s.os.length)(bf:s.f<=beg s.os s.bk.length)(bf0:∀b,s.bk.length=b+1->beg s.os b<=s.f)(ft:s.f<=s.t+(if s.ts.frees then 1 else 0))(tg:s.t<=s.g)(run:∀i,s.f<=i+(if s.ts.frees then 1 else 0)->i<s.t->0<m9 s.os i)(st:autoParam (s.ts≠.told/\s.ts≠.lacks/\s.ts≠.mark) q6)(come:autoParam (s.ts=.rouse\/s.ts=.clear\/s.ts=.mute\/s.ts=.marks->s.t=s.f) q7)(lies:autoParam (s.ts.takes=true->s.t<s.g) q7)(last:autoParam (s.ts=.free\/s.ts.frees=true->s.t<s.g/\m9 s.os s.t=0/\m6 s.os s.t+1=s.bk.length) q7)(pos:autoParam (s.ts.frees=true->0<s.f) q7):TOk s :=
 ⟨st,λ_=>hs,by rw[hs];exact b6w hn _,bk,bl,bf,bf0,ft,tg,run,come,lies,last,pos⟩
theorem g0(h:Ok s){x:Stg}(e:s.gs=x)(n:autoParam (x≠.marks) q2):s.gseen=[]:=h.gv.seen0 (by rw[e];exact n)
theorem t0(h:Ok s){x:Stg}(e:s.ts=x)(n:autoParam (x≠.marks) q2):s.tseen=[]:=h.tk.seen0 (by rw[e];exact n)
theorem Ok.gmv(h:Ok s){x:Stg}{c':Cells}(core':Core { s with c:=c' })(gv:GOk { s with c:=c',gs:=x }):Ok { s with c:=c',gs:=x }:=⟨core'.cong rfl rfl rfl rfl rfl,gv,h.tk.giver rfl rfl rfl rfl rfl rfl rfl (Nat.le_refl _)⟩
theorem d0e(h:Ok s):Ok (gstep s):=by
 have hn:=h.hn;have n2:=h.core.n2;have hp:=h.core.pl s.g;have mg:=h.core.mks.mayGive hn h.core.fg h.core.gf;unfold gstep;split <;> rename_i e
 ·exact h.gmv ↑139 (a6e (g0 h e :) hn)
 ·exact h.gmv ↑139 (a6e (g0 h e :) hn)
 ·exact h.gmv ↑139 (a6e (g0 h e :) hn)
 ·split
  ·rename_i hl
   refine⟨h.core.cong rfl rfl rfl rfl rfl,⟨h.gv.st,λz=>absurd e z,⟨?_,λq m hq=>?_⟩,h.gv.want,h.gv.room,h.gv.c1,h.gv.c2,h.gv.c3,h.gv.pos⟩,h.tk.giver rfl rfl rfl rfl rfl rfl rfl ↑31⟩
   ·show(s.gseen++[_]).length<s.n
    rw[List.length_append];exact hl
   ·have hq':(s.gseen++[s.c (4*s.gseen.length)])[q]?=some m:=hq
    by_cases z:q<s.gseen.length
    ·rw[List.getElem?_append_left z] at hq'
     exact h.gv.seen.2 q m hq'
    ·rw[List.getElem?_append_right ↑2] at hq'
     have hz:q=s.gseen.length:=by
      have:=(List.getElem?_eq_some_iff.mp hq').1;simp at this;lia
     subst hz;simp at hq';subst hq';exact⟨h.core.mks.laps hn h.gv.seen.1,h.core.mks.range hn h.gv.seen.1⟩
  ·exact⟨h.core.cong rfl rfl rfl rfl rfl,a6e rfl hn,h.tk.giver rfl rfl rfl rfl rfl rfl rfl ↑31⟩
 ·exact h.gmv h.core (a6e (g0 h e :) hn)
 ·exact h.gmv h.core (a6e (g0 h e :) hn)
 ·split
  ·rename_i ht
   split
   ·rename_i hm
    exact h.gmv h.core (a6e (g0 h e :) hn (room:=λ_=>⟨ht,mg.mp hm⟩))
   ·exact h.gmv h.core (a6e (g0 h e :) hn (want:=λ_=>ht))
  ·exact h
 ·exact h.gmv ↑139 (a6e (g0 h e :) hn (want:=λ_=>h.gv.want (by rw[e];rfl)))
 ·split <;> exact h.gmv h.core (a6e (g0 h e :) hn (want:=λ_=>h.gv.want (by rw[e];rfl)))
 ·split
  ·exact h
  ·exact h.gmv h.core (a6e (g0 h e :) hn (want:=λ_=>h.gv.want (by rw[e];rfl)))
 ·exact h.gmv ↑139 (a6e (g0 h e :) hn (want:=λ_=>h.gv.want (by rw[e];rfl)))
 ·exact h.gmv ↑139 (a6e (g0 h e :) hn)
 ·have r:=h.gv.room (by rw[e];rfl)
  exact h.gmv (h.core.ahead r.2 ↑2 ↑2) (a6e (g0 h e :) hn (room:=λ_=>r) (c1:=λ_=>put_same _ _ _))
 ·have r:=h.gv.room (by rw[e];rfl)
  exact h.gmv (h.core.ahead r.2 ↑2 ↑2) (a6e (g0 h e :) hn (room:=λ_=>r) (c1:=λ_=>(put_ne _ _ ↑2).trans (h.gv.c1 (.inl e))) (c2:=λ_=>put_same _ _ _))
 ·have r:=h.gv.room (by rw[e];rfl)
  exact h.gmv (h.core.ahead r.2 ↑2 ↑2) (a6e (g0 h e :) hn (room:=λ_=>r) (c1:=λ_=>(put_ne _ _ ↑2).trans (h.gv.c1 (.inr (.inl e)))) (c2:=λ_=>(put_ne _ _ ↑2).trans (h.gv.c2 (.inl e))) (c3:=λ_=>put_same _ _ _))
 ·obtain⟨r1,r2⟩:=h.gv.room (by rw[e];rfl)
  have par:∀{i k:Nat}{v:Int},1<=k->k<=3->put s.c (4 * ↑126) v (4*(i % s.n)+k)=s.c (4*(i % s.n)+k):=λ{i k v} _ _=>put_ne _ _ ↑2;refine⟨⟨n2,h.core.n8,h.core.good,Nat.le_succ_of_le h.core.fg,r2,r1,h.core.mks.give hn h.core.fg r2,λi h1 h2=>?_,λz=>absurd z (Nat.succ_ne_zero _)⟩,a6e (g0 h e :) hn (pos:=λ_=>Nat.succ_pos _),h.tk.giver rfl rfl rfl rfl rfl rfl rfl (Nat.le_succ _)⟩;have h1':i<s.g+1:=h1;have h2':s.g+1<i+s.n\/s.f<=i:=h2;show put s.c (4 * ↑126) _ (4*(i % s.n)+1)=_/\put s.c (4 * ↑126) _ (4*(i % s.n)+2)=_/\put s.c (4 * ↑126) _ (4*(i % s.n)+3)=_;rw[par ↑2 ↑2,par ↑2 ↑2,par ↑2 ↑2];by_cases z:i=s.g
  ·subst z;exact⟨h.gv.c1 (.inr (.inr e)),h.gv.c2 (.inr e),h.gv.c3 e⟩
  ·exact h.core.slip i ↑2 ↑2
 ·split
  ·exact h.gmv h.core (a6e (g0 h e :) hn (pos:=λ_=>h.gv.pos (by rw[e];rfl)))
  ·exact h.gmv h.core (a6e (g0 h e :) hn)
 ·exact h.gmv ↑139 (a6e (g0 h e :) hn)
 ·exact absurd e h.gv.st
end
end Pr
namespace Pr
section
variable{s:Ln}
theorem c7v{os:List ↑28}{a t:Nat}(ht:t<tot os)(run:∀i,a<=i->i<t->0<m9 os i):∀k,a<=t-k->m6 os (t-k)=m6 os t
 | 0,_=>rfl
 | k+1,h=>by
  by_cases z:t<=k
  ·have e1:t-(k+1)=t-k:=by lia
   rw[e1];exact c7v ht run k ↑2
  ·have ih:=c7v ht run k ↑2
   have:=(next_part (os:=os) (i:=t-(k+1)) ↑2 (run _ h ↑2)).2.1;rw[<- this,show t-(k+1)+1=t-k by lia]
   exact ih
theorem e0x{os:List ↑28}{a t:Nat}(ht:t<tot os)(at_:a<=t)(run:∀i,a<=i->i<t->0<m9 os i):m6 os a=m6 os t:=by
 have:=c7v ht run (t-a) ↑2
 rwa [show t-(t-a)=a by lia] at this
theorem Ok.tmv(h:Ok s){x:Stg}{c':Cells}(hs:s.tseen=[])(core':Core { s with c:=c' })(kc:∀k,1<=k->k<=3->c' (4*(s.g % s.n)+k)=s.c (4*(s.g % s.n)+k))(hf:x.frees=s.ts.frees)(hx:autoParam (x≠.told/\x≠.lacks/\x≠.mark) q2)(hc:autoParam (x=.rouse\/x=.clear\/x=.mute\/x=.marks->s.t=s.f) q8)(hl:autoParam (x.takes=true->s.t<s.g) q8)(hx2:autoParam (x=.free\/x.frees=true->s.t<s.g/\m9 s.os s.t=0/\m6 s.os s.t+1=s.bk.length) q8):
  Ok { s with c:=c',ts:=x } :=
 ⟨core'.cong rfl rfl rfl rfl rfl,h.gv.taker rfl rfl rfl rfl rfl ↑31 kc,c3x hs h.hn h.tk.bk h.tk.bl h.tk.bf h.tk.bf0 (by show s.f<=s.t+(if x.frees then 1 else 0);rw[hf];exact h.tk.ft) h.tk.tg (by
   show ∀i,s.f<=i+(if x.frees then 1 else 0)->_;rw[hf];exact h.tk.run) hx hc hl hx2 λz=>h.tk.pos (by rw[<- hf];exact z)⟩
theorem d0i(core:Core s)(gv:GOk s)(tk:TOk s)(hf:s.ts.frees=true)(hs:s.tseen=[]):Ok (a2w s):=by
 have ft:=tk.ft;have run:=tk.run;have lst:=tk.last (.inr hf);have hn:0<s.n:=by have:=core.n2;lia
 rw[hf] at ft run;simp only[if_true] at ft run;unfold a2w;split
 ·exact⟨core.cong rfl rfl rfl rfl rfl,gv.taker rfl rfl rfl rfl rfl ↑31 ↑111,c3x hs hn tk.bk tk.bl tk.bf tk.bf0 ↑31 core.fg λi h1 h2=>absurd h2 (Nat.not_lt_of_le h1)⟩
 ·exact⟨core.cong rfl rfl rfl rfl rfl,gv.taker rfl rfl rfl rfl rfl ↑31 ↑111,c3x hs hn tk.bk tk.bl tk.bf tk.bf0 (by show s.f<=s.t+0;lia) tk.tg (λi (h1:s.f<=i+0) h2=>run i ↑2 h2) (last:=λ_=>lst)⟩
theorem d2j{os:List ↑28}{B:Nat}{o:List Int}(h:os[B]?=some o):y7 os (beg os B) o.length=o:=by
 apply List.ext_getElem?;intro i;unfold y7;rw[List.getElem?_map];by_cases z:i<o.length
 ·rw[List.getElem?_range z,Option.map_some,b7c h i z,List.getD_eq_getElem?_getD,List.getElem?_eq_getElem z]
  rfl
 ·rw[List.getElem?_eq_none (by rw[List.length_range];lia),List.getElem?_eq_none ↑2]
  rfl
theorem booked(core:Core s)(tk:TOk s)(hf:s.ts.frees=false)(tg:s.t<s.g)(h0:m9 s.os s.t=0):
  let bk':=if m6 s.os s.t=s.bk.length then s.bk++[y7 s.os s.f (s.t+1-s.f)] else s.bk
  bk'=s.os.take bk'.length/\bk'.length<=s.os.length/\s.f<=beg s.os bk'.length/\(∀b,bk'.length=b+1->beg s.os b<=s.f)/\m6 s.os s.t+1=bk'.length:=by
 intro bk';have ft:=tk.ft;have run:=tk.run;rw[hf] at ft run;simp only[Bool.false_eq_true,if_false,Nat.add_zero] at ft run;have tt:s.t<tot s.os:=Nat.lt_of_lt_of_le tg core.gt;have nf:m6 s.os s.f=m6 s.os s.t:=e0x tt ft run;obtain⟨a1,a2⟩:=a0g (n:=0) tt;obtain⟨d1,d2⟩:=a0g (n:=0) (os:=s.os) (i:=s.f) ↑2;have nl:=a3u tt;rw[h0] at a2;by_cases e:m6 s.os s.t=s.bk.length
 ·have hbk':bk'=s.bk++[y7 s.os s.f (s.t+1-s.f)]:=if_pos e
  have hl:bk'.length=s.bk.length+1:=by rw[hbk',List.length_append];rfl
  rw[nf,e] at d1;rw[e] at a2 nl;have ef:s.f=beg s.os s.bk.length:=by have:=tk.bf;lia
  have ho:s.os[s.bk.length]?=some s.os[s.bk.length]:=List.getElem?_eq_getElem nl;have hs:=d0p ho;have hth:y7 s.os s.f (s.t+1-s.f)=s.os[s.bk.length]:=by
   have:=d2j ho;rw[<- ef] at this;rw[show s.t+1-s.f=s.os[s.bk.length].length by lia]
   exact this
  refine⟨?_,?_,?_,λb hb=>?_,?_⟩
  ·rw[hl,hbk',hth,List.take_succ,ho]
   show s.bk++_=s.os.take s.bk.length++_;rw[<- tk.bk]
   rfl
  ·rw[hl];lia
  ·rw[hl];have:=d0q s.os (j:=s.bk.length) (k:=s.bk.length+1) ↑2;lia
  ·rw[hl] at hb
   have:b=s.bk.length:=by lia
   rw[this];lia
  ·rw[hl,e]
 ·have hbk':bk'=s.bk:=if_neg e
  rw[hbk'];refine⟨tk.bk,tk.bl,tk.bf,tk.bf0,?_⟩;have bf:=tk.bf;have lt:s.f<beg s.os s.bk.length:=by
   by_cases z:s.f<beg s.os s.bk.length
   ·exact z
   ·exfalso
    by_cases y:s.bk.length<s.os.length
    ·have:=d0r core.good y
     exact e (nf ▸ a3t (os:=s.os) (i:=s.f) (j:=s.bk.length) ↑2 ↑2)
    ·have:=c9i s.os (j:=s.bk.length) ↑2
     lia
  cases hb:s.bk.length with
  | zero=>rw[hb,a0x] at lt;lia
  | succ b=>
   rw[hb] at lt;have:=tk.bf0 b hb;rw[<- nf,a3t this lt]
theorem c9n(h:Ok s):Ok (tstep s):=by
 have hn:=h.hn;have n2:=h.core.n2;have hp:=h.core.pl s.g;have high:∀{j:Nat}{v:Int}(k:Nat),1<=k->k<=3->put s.c (4*s.n+j) v (4 * ↑126+k)=s.c (4 * ↑126+k):=λ{j v} k _ _=>put_ne _ _ ↑2;unfold tstep;split <;> rename_i e
 ·exact h.tmv (t0 h e) ↑139 high (by rw[e];rfl) (hc:=λ_=>h.tk.come (.inl e))
 ·exact h.tmv (t0 h e) ↑139 high (by rw[e];rfl) (hc:=λ_=>h.tk.come (.inr (.inl e)))
 ·exact h.tmv (t0 h e) ↑139 high (by rw[e];rfl) (hc:=λ_=>h.tk.come (.inr (.inr (.inl e))))
 ·have ft:=h.tk.ft
  have run:=h.tk.run;rw[e] at ft run;split
  ·rename_i hl
   refine⟨h.core.cong rfl rfl rfl rfl rfl,h.gv.taker rfl rfl rfl rfl rfl ↑31 ↑111,⟨h.tk.st,λz=>absurd e z,⟨?_,λq m hq=>?_⟩,h.tk.bk,h.tk.bl,h.tk.bf,h.tk.bf0,h.tk.ft,h.tk.tg,h.tk.run,h.tk.come,h.tk.lies,h.tk.last,h.tk.pos⟩⟩
   ·show(s.tseen++[_]).length<s.n
    rw[List.length_append];exact hl
   ·have hq':(s.tseen++[s.c (4*s.tseen.length)])[q]?=some m:=hq
    by_cases z:q<s.tseen.length
    ·rw[List.getElem?_append_left z] at hq'
     exact h.tk.seen.2 q m hq'
    ·rw[List.getElem?_append_right ↑2] at hq'
     have hz:q=s.tseen.length:=by
      have:=(List.getElem?_eq_some_iff.mp hq').1;simp at this;lia
     subst hz;simp at hq';subst hq';exact⟨h.core.mks.sides hn h.core.fg h.core.gf h.tk.seen.1,h.core.mks.range hn h.tk.seen.1⟩
  ·exact⟨h.core.cong rfl rfl rfl rfl rfl,h.gv.taker rfl rfl rfl rfl rfl ↑31 ↑111,c3x rfl hn h.tk.bk h.tk.bl h.tk.bf h.tk.bf0 ft h.tk.tg run⟩
 ·have ft:=h.tk.ft
  rw[e] at ft;split
  ·rename_i hm
   exact h.tmv (t0 h e) h.core ↑111 (by rw[e];rfl) (hl:=λ_=>(h.core.mks.mayTake hn ft h.tk.tg h.core.gf).mp hm)
  ·exact h.tmv (t0 h e) h.core ↑111 (by rw[e];rfl)
 ·exact h.tmv (t0 h e) ↑139 high (by rw[e];rfl)
 ·split <;> exact h.tmv (t0 h e) h.core ↑111 (by rw[e];rfl)
 ·split
  ·exact h
  ·exact h.tmv (t0 h e) h.core ↑111 (by rw[e];rfl)
 ·exact h.tmv (t0 h e) ↑139 high (by rw[e];rfl)
 ·exact h.tmv (t0 h e) ↑139 high (by rw[e];rfl)
 ·exact h.tmv (t0 h e) h.core ↑111 (by rw[e];rfl) (hl:=λ_=>h.tk.lies (by rw[e];rfl))
 ·exact h.tmv (t0 h e) h.core ↑111 (by rw[e];rfl) (hl:=λ_=>h.tk.lies (by rw[e];rfl))
 ·have hl:=h.tk.lies (by rw[e];rfl)
  have ft:=h.tk.ft;have run:=h.tk.run;have hfr:s.ts.frees=false:=by rw[e];rfl
  rw[hfr] at ft run;simp only[Bool.false_eq_true,if_false,Nat.add_zero] at ft run;split
  ·rename_i hlf
   refine⟨h.core.cong rfl rfl rfl rfl rfl,h.gv.taker rfl rfl rfl rfl rfl ↑31 ↑111,c3x (t0 h e :) hn h.tk.bk h.tk.bl h.tk.bf h.tk.bf0 (Nat.le_succ_of_le ft) hl λi (h1:s.f<=i+0) (h2:i<s.t+1)=>?_⟩;by_cases z:i=s.t
   ·rw[z];exact hlf
   ·exact run i ↑2 ↑2
  ·rename_i hlf
   obtain⟨k1,k2,k3,k4,k5⟩:=booked h.core h.tk hfr hl ↑2;exact⟨h.core.cong rfl rfl rfl rfl rfl,h.gv.taker rfl rfl rfl rfl rfl ↑31 ↑111,c3x (t0 h e :) hn k1 k2 k3 k4 ft h.tk.tg run (last:=λ_=>⟨hl,Nat.eq_zero_of_not_pos hlf,k5⟩)⟩
 ·obtain⟨l1,l2,l3⟩:=h.tk.last (.inl e)
  have ft:=h.tk.ft;have run:=h.tk.run;have hfr:s.ts.frees=false:=by rw[e];rfl
  rw[hfr] at ft run;simp only[Bool.false_eq_true,if_false,Nat.add_zero] at ft run;have hpf:=h.core.pl s.f;have fg:s.f<s.g:=by lia
  have par:∀{i k:Nat}{v:Int},1<=k->k<=3->put s.c (4*(s.f % s.n)) v (4*(i % s.n)+k)=s.c (4*(i % s.n)+k):=λ{i k v} _ _=>put_ne _ _ ↑2;obtain⟨_,io⟩:=a0g (n:=0) (os:=s.os) (i:=s.t) (by have:=h.core.gt;lia)
  rw[l2,l3] at io;refine⟨⟨n2,h.core.n8,h.core.good,fg,by have:=h.core.gf;show s.g<=s.f+1+s.n;lia,h.core.gt,h.core.mks.free hn fg h.core.gf,λi h1 (h2:s.g<i+s.n\/s.f+1<=i)=>?_,λz=>absurd z (by show s.g≠0;lia)⟩,h.gv.taker rfl rfl rfl rfl rfl (Nat.le_succ _) (λk k1 k3=>par k1 k3),c3x (t0 h e :) hn h.tk.bk h.tk.bl (by show s.f+1<=beg s.os s.bk.length;lia) (λb hb=>Nat.le_succ_of_le (h.tk.bf0 b hb)) (Nat.succ_le_succ ft) h.tk.tg (λi h1 h2=>run i (Nat.le_of_succ_le_succ h1) h2) (last:=λ_=>⟨l1,l2,l3⟩) (pos:=λ_=>Nat.succ_pos _)⟩
  show put s.c (4*(s.f % s.n)) _ (4*(i % s.n)+1)=_/\put s.c (4*(s.f % s.n)) _ (4*(i % s.n)+2)=_/\put s.c (4*(s.f % s.n)) _ (4*(i % s.n)+3)=_;rw[par ↑2 ↑2,par ↑2 ↑2,par ↑2 ↑2];exact h.core.slip i h1 ↑2
 ·split
  ·exact h.tmv (t0 h e) h.core ↑111 (by rw[e];rfl) (hx2:=λ_=>h.tk.last (.inr (by rw[e];rfl)))
  ·exact d0i h.core h.gv h.tk (by rw[e];rfl) (t0 h e)
 ·exact d0i (s:=s.put (4*s.n+2) 1) ↑139 (h.gv.taker rfl rfl rfl rfl rfl ↑31 high) (h.tk.giver rfl rfl rfl rfl rfl rfl rfl ↑31) (by show s.ts.frees=true;rw[e];rfl) (t0 h e :)
 ·exact absurd e h.tk.st.1
 ·exact absurd e h.tk.st.2.1
 ·exact absurd e h.tk.st.2.2
theorem d7q(h:Ok s):Ok (gfall s):=⟨h.core.cong rfl rfl rfl rfl rfl,a6e rfl h.hn (by unfold gfall;dsimp only;decide) (λz=>absurd z (by unfold gfall;dsimp only;decide)) (λz=>absurd z (by unfold gfall;dsimp only;decide)) (λz=>absurd z (by unfold gfall;dsimp only;decide)) (λz=>absurd z (by unfold gfall;dsimp only;decide)) (λz=>absurd z (by unfold gfall;dsimp only;decide)) (λz=>absurd z (by unfold gfall;dsimp only;decide)),h.tk.giver rfl rfl rfl rfl rfl rfl rfl ↑31⟩
theorem d6c(h:Ok s):Ok (tfall s) :=
 ⟨h.core.cong rfl rfl rfl rfl rfl,h.gv.taker rfl rfl rfl rfl rfl ↑31 ↑111,c3x rfl h.hn h.tk.bk h.tk.bl h.tk.bf h.tk.bf0 ↑31 h.core.fg (λi h1 h2=>absurd h2 (Nat.not_lt_of_le h1)) (by unfold tfall;dsimp only;decide) (λ_=>rfl) (λz=>absurd z (by unfold tfall;dsimp only;decide)) (λz=>absurd z (by unfold tfall;dsimp only;decide)) (λz=>absurd z (by unfold tfall;dsimp only;decide))⟩
end
end Pr
namespace Pr
section
variable{s:Ln}
theorem c9j(h:Ok s){o:List Int}(ho:1<=o.length/\o.length<=s.n):Ok (a7t s o):=by
 have le:tot s.os<=tot ↑124:=by rw[d0w];lia
 have gt:=h.core.gt;have tg:=h.tk.tg;have mn:∀{i:Nat},i<s.g->m6 ↑124 i=m6 s.os i:=λhi=>(a1g ↑2).1;have ml:∀{i:Nat},i<s.g->m9 ↑124 i=m9 s.os i:=λhi=>(a1g ↑2).2;have mt:∀{i:Nat},i<s.g->a0e ↑124 i=a0e s.os i:=λhi=>a9x ↑2;have mb:∀{b:Nat},b<=s.os.length->beg ↑124 b=beg s.os b:=λhb=>d0b hb;refine⟨⟨h.core.n2,h.core.n8,?_,h.core.fg,h.core.gf,Nat.le_trans gt le,h.core.mks,λi h1 h2=>?_,h.core.slip0⟩,⟨h.gv.st,h.gv.seen0,h.gv.seen,λz=>Nat.lt_of_lt_of_le (h.gv.want z) le,λz=>⟨Nat.lt_of_lt_of_le (h.gv.room z).1 le,(h.gv.room z).2⟩,λz=>?_,λz=>?_,λz=>?_,h.gv.pos⟩,
  ⟨h.tk.st,h.tk.seen0,h.tk.seen,?_,?_,?_,λb hb=>?_,h.tk.ft,h.tk.tg,λi h1 h2=>?_,h.tk.come,h.tk.lies,λz=>?_,h.tk.pos⟩⟩
 ·intro p hp
  rcases List.mem_append.mp hp with hp|hp
  ·exact h.core.good p hp
  ·rw[List.mem_singleton.mp hp];exact ho
 ·have h1':i<s.g:=h1
  show s.c _=((m6 ↑124 i:Nat):Int)/\s.c _=((m9 ↑124 i:Nat):Int)/\s.c _=a0e ↑124 i;rw[mn h1',ml h1',mt h1'];exact h.core.slip i h1 h2
 ·have hg:s.g<tot s.os:=by
   refine (h.gv.room ?_).1;rcases z with z|z|z <;> (have z':s.gs=_:=z;rw[z'];rfl)
  show s.c _=((m6 ↑124 s.g:Nat):Int);rw[(a1g hg).1];exact h.gv.c1 z
 ·have hg:s.g<tot s.os:=by
   refine (h.gv.room ?_).1;rcases z with z|z <;> (have z':s.gs=_:=z;rw[z'];rfl)
  show s.c _=((m9 ↑124 s.g:Nat):Int);rw[(a1g hg).2];exact h.gv.c2 z
 ·have hg:s.g<tot s.os:=by
   refine (h.gv.room ?_).1;have z':s.gs=_:=z;rw[z'];rfl
  show s.c _=a0e ↑124 s.g;rw[a9x hg];exact h.gv.c3 z
 ·show s.bk=(s.os++[o]).take s.bk.length
  rw[List.take_append_of_le_length h.tk.bl];exact h.tk.bk
 ·show s.bk.length<=(s.os++[o]).length
  rw[List.length_append];have:=h.tk.bl;lia
 ·show s.f<=beg ↑124 s.bk.length
  rw[mb h.tk.bl];exact h.tk.bf
 ·have hb':s.bk.length=b+1:=hb
  show beg ↑124 b<=s.f;rw[mb (by have:=h.tk.bl;lia)]
  exact h.tk.bf0 b hb
 ·have h2':i<s.t:=h2
  show 0<m9 ↑124 i;rw[ml ↑2];exact h.tk.run i h1 h2
 ·obtain⟨a,b,c⟩:=h.tk.last z
  refine⟨a,?_,?_⟩
  ·show m9 ↑124 s.t=0
   rw[ml a];exact b
  ·show m6 ↑124 s.t+1=s.bk.length
   rw[mn a];exact c
noncomputable def a5q(n:Nat):Cells:=λi=>if i<4*n then (if i % 4=0 then 2 else if i % 4=1 then -1 else 0) else if i<4*n+2 then -1 else 0
noncomputable def a0s(n:Nat):Ln:={ n:=n,c:=a5q n,os:=[],bk:=[],gs:=.rouse,gseen:=[],ts:=.rouse,tseen:=[],f:=0,g:=0,t:=0 }
theorem d1s{n:Nat}(h2:2<=n)(h8:n<=8):Ok (a0s n):=by
 have hn:0<n:=by lia
 refine⟨⟨h2,h8,λ_ h=>by simp[a0s] at h,Nat.le_refl _,Nat.zero_le _,Nat.zero_le _,⟨λi h=>absurd h (Nat.not_lt_zero _),λq h1 h2=>?_⟩,λi h=>absurd h (Nat.not_lt_zero _),λ_=>⟨?_,?_⟩⟩,
  ⟨by unfold a0s;dsimp only;decide,λ_=>rfl,b6w hn _,λz=>absurd z (by unfold a0s;dsimp only;decide),λz=>absurd z (by unfold a0s;dsimp only;decide),λz=>absurd z (by unfold a0s;dsimp only;decide),λz=>absurd z (by unfold a0s;dsimp only;decide),λz=>absurd z (by unfold a0s;dsimp only;decide),λz=>absurd z (by unfold a0s;dsimp only;decide)⟩,
  ⟨by unfold a0s;dsimp only;decide,λ_=>rfl,b6w hn _,rfl,Nat.le_refl _,Nat.zero_le _,λb hb=>by simp[a0s] at hb,Nat.zero_le _,Nat.le_refl _,λi _ h=>absurd h (Nat.not_lt_zero _),λ_=>rfl,λz=>absurd z (by unfold a0s;dsimp only;decide),λz=>absurd z (by unfold a0s;dsimp only;decide),λz=>absurd z (by unfold a0s;dsimp only;decide)⟩⟩
 ·have h1':q<n:=h1
  show a5q n (4*q)=2;unfold a5q;rw[if_pos ↑2,if_pos ↑2]
 ·show a5q n (4*(n-1)+1)=-1
  unfold a5q;rw[if_pos ↑2,if_neg ↑2,if_pos ↑2]
 ·show a5q n (4*(n-1)+2)=0
  unfold a5q;rw[if_pos ↑2,if_neg ↑2,if_neg ↑2]
end
end Pr
namespace S
open PySem L2
def top(i:Nat):Stmt:=PySem.Challenge.pw_slipring_k33_stands_told.main.body.getD i (.Pass ⟨0,0,0,0⟩)
structure Cl where
 Board:Addr
 Hand:Addr
 Giver:Addr
 Taker:Addr
 Lane:Addr
 t_HANDS:Addr
 d_DEEDS_hand:Addr
 d_DEEDS_giver:Addr
 d_DEEDS_taker:Addr
structure Txt(K:↑29)(mg:↑67)(cl:Cl):Prop where
 c_Board:ExM mg "Board" cl.Board
 c_Hand:ExM mg "Hand" cl.Hand
 c_Giver:ExM mg "Giver" cl.Giver
 c_Taker:ExM mg "Taker" cl.Taker
 c_Lane:ExM mg "Lane" cl.Lane
 m_LEAST_SIZE:∃t,mg "LEAST_SIZE" = some (.int (2) t)
 m_MOST_SIZE:∃t,mg "MOST_SIZE" = some (.int (8) t)
 m_FREE:∃t,mg "FREE" = some (.int (0) t)
 m_FULL:∃t,mg "FULL" = some (.int (1) t)
 m_MOST_MARK:∃t,mg "MOST_MARK" = some (.int (3) t)
 m_CELLS_OF_A_PLACE:∃t,mg "CELLS_OF_A_PLACE" = some (.int (4) t)
 m_NEW_MARK:∃t,mg "NEW_MARK" = some (.int (2) t)
 m_NO_ORDER:∃t,mg "NO_ORDER" = some (.int (-1) t)
 m_NO_TURN:∃t,mg "NO_TURN" = some (.int (-1) t)
 m_STILL:∃t,mg "STILL" = some (.int (0) t)
 m_RUNG:∃t,mg "RUNG" = some (.int (1) t)
 r_HANDS:mg "HANDS" = some (.ref cl.t_HANDS)
 kt_HANDS:KTup K cl.t_HANDS [.str "giver",.str "taker"]
 k_Board:Cls K cl.Board
 n_Board_many_touches:NoAttr K cl.Board "many_touches"
 n_Board_newest_touch:NoAttr K cl.Board "newest_touch"
 n_Board_numbers:NoAttr K cl.Board "numbers"
 n_Board_size:NoAttr K cl.Board "size"
 k_Hand:Cls K cl.Hand
 n_Hand_board:NoAttr K cl.Hand "board"
 n_Hand_here:NoAttr K cl.Hand "here"
 n_Hand_marks_read:NoAttr K cl.Hand "marks_read"
 n_Hand_name:NoAttr K cl.Hand "name"
 n_Hand_other:NoAttr K cl.Hand "other"
 n_Hand_stage_behind_marks:NoAttr K cl.Hand "stage_behind_marks"
 n_Hand_stage_now:NoAttr K cl.Hand "stage_now"
 n_Hand_touched:NoAttr K cl.Hand "touched"
 k_Giver:Cls K cl.Giver
 n_Giver_board:NoAttr K cl.Giver "board"
 n_Giver_here:NoAttr K cl.Giver "here"
 n_Giver_kept:NoAttr K cl.Giver "kept"
 n_Giver_left:NoAttr K cl.Giver "left"
 n_Giver_marks_read:NoAttr K cl.Giver "marks_read"
 n_Giver_name:NoAttr K cl.Giver "name"
 n_Giver_number:NoAttr K cl.Giver "number"
 n_Giver_other:NoAttr K cl.Giver "other"
 n_Giver_stage_behind_marks:NoAttr K cl.Giver "stage_behind_marks"
 n_Giver_stage_now:NoAttr K cl.Giver "stage_now"
 n_Giver_touched:NoAttr K cl.Giver "touched"
 k_Taker:Cls K cl.Taker
 n_Taker_board:NoAttr K cl.Taker "board"
 n_Taker_here:NoAttr K cl.Taker "here"
 n_Taker_left:NoAttr K cl.Taker "left"
 n_Taker_marks_read:NoAttr K cl.Taker "marks_read"
 n_Taker_name:NoAttr K cl.Taker "name"
 n_Taker_not_freed:NoAttr K cl.Taker "not_freed"
 n_Taker_number:NoAttr K cl.Taker "number"
 n_Taker_other:NoAttr K cl.Taker "other"
 n_Taker_parts:NoAttr K cl.Taker "parts"
 n_Taker_stage_behind_marks:NoAttr K cl.Taker "stage_behind_marks"
 n_Taker_stage_now:NoAttr K cl.Taker "stage_now"
 n_Taker_taken:NoAttr K cl.Taker "taken"
 n_Taker_touched:NoAttr K cl.Taker "touched"
 k_Lane:Cls K cl.Lane
 n_Lane_board:NoAttr K cl.Lane "board"
 n_Lane_giver:NoAttr K cl.Lane "giver"
 n_Lane_kept_trail:NoAttr K cl.Lane "kept_trail"
 n_Lane_taker:NoAttr K cl.Lane "taker"
 n_Lane_touched:NoAttr K cl.Lane "touched"
 r_DEEDS_hand:mg "DEEDS_hand" = some (.ref cl.d_DEEDS_hand)
 r_DEEDS_giver:mg "DEEDS_giver" = some (.ref cl.d_DEEDS_giver)
 r_DEEDS_taker:mg "DEEDS_taker" = some (.ref cl.d_DEEDS_taker)
 z_len:mg "len" = none
 z_range:mg "range" = none
 z_max:mg "max" = none
 z_min:mg "min" = none
 z_isinstance:mg "isinstance" = none
 z_int:mg "int" = none
 z_bool:mg "bool" = none
 z_list:mg "list" = none
 z_all:mg "all" = none
 z_tuple:mg "tuple" = none
 z_str:mg "str" = none
set_option hygiene false in
local macro_rules | `(tactic| walk_at "len")=>`(tactic| first|(rw[h.1];rfl)|(obtain⟨_,h⟩:=h;walk_at "len")|(obtain⟨_,_,h⟩:=h;walk_at "len")|(obtain⟨_,_,_,h⟩:=h;walk_at "len")|(obtain⟨_,_,_,_,h⟩:=h;walk_at "len")|(obtain⟨_,_,_,_,_,h⟩:=h;walk_at "len")|(obtain⟨_,_,_,_,_,_,h⟩:=h;walk_at "len")|(obtain⟨_,_,_,_,_,_,_,_,_,_,h⟩:=h;walk_at "len")|(obtain⟨_,_,_,_,_,_,_,_,_,_,_,_,h⟩:=h;walk_at "len")|(obtain⟨_,_,_,_,_,_,_,_,_,_,_,_,_,h⟩:=h;walk_at "len"))
local macro_rules | `(tactic| walk_at "at")=>`(tactic| first|assumption|exact d9|(refine (d8 ?_).trans ?_;(walk_at "ne");(walk_at "at"))|(refine Same.at ?_ ?_;assumption;(walk_at "at")))
local macro_rules | `(tactic| walk_at "ne")=>`(tactic| first|assumption|exact Ne.symm (by assumption)|((refine' k8 ?h ?n);(case n=>assumption);(case h=>walk_at "at"))|((refine Ne.symm ?_);(refine' k8 ?h ?n);(case n=>assumption);(case h=>walk_at "at")))
local macro_rules | `(tactic| walk_at "cond")=>`(tactic| first|trivial|exact Or.inl ⟨by decide,by decide⟩|exact Or.inr ⟨by decide,by decide⟩|exact Or.inl ↑109|exact Or.inr ↑109|(show(0:Int)<_;lia)|(show(0:Int)<_;decide))
local macro_rules | `(tactic| walk_at "go1")=>`(tactic| first
 |((with_reducible first|refine(?f:type_of% @g_c) ?_|refine(?f:type_of% @e9n) ?_|refine(?f:type_of% @e9k) ?_|refine(?f:type_of% @e9t) ?_|refine(?f:type_of% @e7n) ?_|refine(?f:type_of% @e5k) ?_|refine(?f:type_of% @e7g) ?_|refine(?f:type_of% @e7p) ?_|refine(?f:type_of% @e9s) ?_|refine(?f:type_of% @e7s) ?_|refine(?f:type_of% @e9p) ?_|refine(?f:type_of% @e9q) ?_|refine(?f:type_of% @e4t) ?_|refine(?f:type_of% @e9l) ?_|refine(?f:type_of% @e7v) ?_|refine(?f:type_of% @e9m) ?_|refine(?f:type_of% @e7m) ?_|refine(?f:type_of% @e5o) ?_|refine(?f:type_of% @e7l) ?_|refine(?f:type_of% @e4z) ?_|refine(?f:type_of% @e7q) ?_|refine(?f:type_of% @e7b) ?_|refine(?f:type_of% @e7c) ?_|refine(?f:type_of% @e5a) ?_|refine(?f:type_of% @e5i) ?_|refine(?f:type_of% @e7i) ?_|refine(?f:type_of% @e9r) ?_|refine(?f:type_of% @e7u) ?_|refine(?f:type_of% @d4v) ?_|refine(?f:type_of% @e7h) ?_|refine(?f:type_of% @e4u) ?_|refine(?f:type_of% @e4x) ?_|refine(?f:type_of% @e4w) ?_|refine(?f:type_of% @e5b) ?_|refine(?f:type_of% @e9u) ?_);(case f=>exact λq=>q))
 |((with_reducible refine' e7e ?h ?_);(case h=>exact rfl))
 |((with_reducible refine' (?f:type_of% (@e9j _ _ _ _ _)) ?h ?_);(case h=>exact rfl);(case f=>exact λ_ q=>q))
 |with_reducible refine e9w ?_
 |with_reducible refine g_U ?_
 |((with_reducible refine' g_I ?h ?_);(case h=>walk_at "cond"))
 |((with_reducible refine' e8t ?h ?_);(case h=>exact rfl))
 |((with_reducible refine' e9o ?h ?_);(case h=>exact rfl))
 |with_reducible refine e9v ?_
 |with_reducible refine e6c ?_
 |with_reducible refine e4j ?_
 |((with_reducible refine e4v ?_);intro _ _)
 |((with_reducible refine' e5g ?h ?c ?n ?l ?_);(case h=>walk_at "at");(case c=>walk_at "cls");(case n=>walk_at "nat");(case l=>first|exact rfl|assumption))
 |((with_reducible refine' e1q ?h ?c ?n ?l ?_);(case h=>walk_at "at");(case c=>walk_at "cls");(case n=>walk_at "nat");(case l=>exact Nat.le_of_ble_eq_true rfl))
 |with_reducible refine e7t ?_
 |with_reducible refine e4y ?_
 |((with_reducible refine' e5n ?h ?c ?n ?l ?_);(case h=>walk_at "at");(case c=>walk_at "cls");(case n=>walk_at "nat");(case l=>first|exact rfl|assumption))
 |((with_reducible refine' e5m ?h ?l ?_);(case h=>walk_at "at");(case l=>exact Nat.le_of_ble_eq_true rfl))
 |((with_reducible refine' e7o ?h ?l ?_);(case h=>walk_at "at");(case l=>exact rfl))
 |((with_reducible refine' a1c ?h ?e ?_);(case h=>walk_at "at");(case e=>exact rfl))
 |((with_reducible refine' e5e ?h ?_);(case h=>walk_at "at"))
 |((with_reducible refine' e5d ?h ?_);(case h=>walk_at "at"))
 |with_reducible refine e7r ?_
 |with_reducible refine e5l ?_
 |((with_reducible refine' d8x ?h1 ?h2 ?_);(case h1=>lia);(case h2=>lia))
 |((with_reducible refine' d8x ?h1 ?h2 ?_);(case h1=>decide);(case h2=>decide))
 |((with_reducible refine' e5c ?h ?_);(case h=>exact SqL.of (by walk_at "at")))
 |((with_reducible refine' e7f ?h ?_);(case h=>walk_at "at"))
 |((with_reducible refine' d2c ?h ?l ?_);(case h=>walk_at "at");(case l=>first|exact Nat.le_of_ble_eq_true rfl|lia))
 |((with_reducible refine' b9b ?h ?_);(case h=>assumption))
 |((with_reducible refine e5f ?_);intro _ _))
local macro_rules | `(tactic| walk_at "go")=>`(tactic| repeat (walk_at "go1"))
local macro_rules | `(tactic| fail "")=>`(tactic| walk_at "go")
set_option hygiene false in
local macro_rules | `(tactic| walk_at "st")=>`(tactic| ((fail "");(rw[a2v]);first|(rw[decide_eq_true (by rfl)])|(rw[decide_eq_false ↑4])))
local macro_rules | `(tactic| walk_at "ga")=>`(tactic| ((with_reducible first|refine(?f:type_of% @a4z) ?_|refine(?f:type_of% @a4y) ?_);(case f=>exact λq=>q)))
set_option hygiene false in
local macro_rules | `(tactic| walk_at "cls")=>`(tactic| first|assumption|exact T.k_Board|exact T.k_Hand|exact T.k_Giver|exact T.k_Taker|exact T.k_Lane)
set_option hygiene false in
local macro_rules | `(tactic| walk_at "nat")=>`(tactic| first|assumption|exact T.n_Board_many_touches|exact T.n_Board_newest_touch|exact T.n_Board_numbers|exact T.n_Board_size|exact T.n_Hand_board|exact T.n_Hand_here|exact T.n_Hand_marks_read|exact T.n_Hand_name|exact T.n_Hand_other|exact T.n_Hand_stage_behind_marks|exact T.n_Hand_stage_now|exact T.n_Hand_touched|exact T.n_Giver_board|exact T.n_Giver_here|exact T.n_Giver_kept|exact T.n_Giver_left|exact T.n_Giver_marks_read|exact T.n_Giver_name|exact T.n_Giver_number|exact T.n_Giver_other|exact T.n_Giver_stage_behind_marks|exact T.n_Giver_stage_now|exact T.n_Giver_touched|exact T.n_Taker_board|exact T.n_Taker_here|exact T.n_Taker_left|exact T.n_Taker_marks_read|exact T.n_Taker_name|exact T.n_Taker_not_freed|exact T.n_Taker_number|exact T.n_Taker_other|exact T.n_Taker_parts|exact T.n_Taker_stage_behind_marks|exact T.n_Taker_stage_now|exact T.n_Taker_taken|exact T.n_Taker_touched|exact T.n_Lane_board|exact T.n_Lane_giver|exact T.n_Lane_kept_trail|exact T.n_Lane_taker|exact T.n_Lane_touched)
section
variable{P:Program}{w:World}{K:Frag}{mg:Str->Option Value}{base:Heap}{cl:Cl}
theorem b8m:1<=sizeLine:=by decide
def b2v(cl:Cl):Sp:=λvs H Q E=>∃n,vs=[.int n]/\(if 2<=n/\n<=8 then Q .non H else False)
def a6o(cl:Cl)(n t:Int)(H:Hp)(E:XK)(k:Prop):Prop:=if 2<=n/\n<=8 then (if 0<=t/\t<2*n then k else False) else False
theorem a4k{cl:Cl}{n t:Int}{H:Hp}{E:XK}{k k':Prop}(h:a6o cl n t H E k)(i:2<=n->n<=8->0<=t->t<2*n->k->k'):a6o cl n t H E k':=by
 unfold a6o at h ⊢;by_cases a:2<=n/\n<=8
 ·rw[if_pos a] at h ⊢
  by_cases b:0<=t/\t<2*n
  ·rw[if_pos b] at h ⊢;exact i a.1 a.2 b.1 b.2 h
  ·rw[if_neg b] at h ⊢;exact h
 ·rw[if_neg a] at h ⊢;exact h
def a4f(cl:Cl):Sp:=λvs H Q E=>E2 λn t=>vs=[.int n,.int t]/\a6o cl n t H E (Q .non H)
def a6t(cl:Cl):Sp:=λvs H Q E=>E2 λn t=>vs=[.int n,.int t]/\a6o cl n t H E (Q (.int (t % n)) H)
def b2t(cl:Cl):Sp:=λvs H Q E=>E2 λn t=>vs=[.int n,.int t]/\a6o cl n t H E (Q (.int (t / n)) H)
def c4a(cl:Cl):Sp:=λvs H Q E=>E3 λn t m=>vs=[.int n,.int t,.int m]/\a6o cl n t H E (Q (.int ((t+m) % (2*n))) H)
abbrev a8s:Stmt:=top 13
theorem c1q:i8 ["size"] ["size"] (g9 a8s):=↑1
theorem c2o(D:DefT K mg "check_size" a8s ["size"])(T:↑14):↑901 "check_size" 1 ["size"] (b2v cl):=by
 refine D.fn c1q ↑8 ↑7
 ·obtain⟨n,rfl,h⟩:=h
  refine⟨_,(d7 (x0 (PW.pt (c4x (l7 b5h (pv 0) (a0k T.m_LEAST_SIZE rfl) ↑43) (b8j (l7 c5d (pv 0) (a0k T.m_MOST_SIZE rfl) ↑43))))
    (d7 a5n)
    v6)),?_⟩
  refine⟨_,rfl,_,_,rfl,rfl,_,rfl,b2p (λc=>?_) (λc=>⟨_,rfl,_,_,rfl,rfl,_,rfl,b2p (λd=>?_) (λd=>?_)⟩)⟩
  ·rw[if_neg (by have:=of_decide_eq_true c;lia)] at h
   exact b2p (λ_=>h) (λz=>absurd rfl z)
  ·rw[if_neg (by have:=of_decide_eq_true d;lia)] at h
   exact h
  ·simp only[decide_eq_true_eq] at c d
   rw[if_pos ↑2] at h;exact h
abbrev a8r:Stmt:=top 14
theorem c1p:i8 ["size","turn"] ["size","turn"] (g9 a8r):=↑1
theorem c2n(D:DefT K mg "check_turn" a8r ["size","turn"])(T:↑14)(G_check_size:↑70):↑901 "check_turn" 2 ["size","turn"] (a4f cl):=by
 refine D.fn c1p ↑8 ↑7
 ·obtain⟨n,t,rfl,h⟩:=h
  refine⟨_,(d6 (j9 (m3 G_check_size hr ↑4 rfl j4 ↑48))
   (d7 (x0 (PW.pt (c4x (l7 b5h (pv 1) i4 ↑43) (b8j (l7 d3s (pv 1) (k7 a0p i4 (pv 0)) ↑43))))
    (d7 a5n)
    v6))),?_⟩
  unfold a6o at h;refine⟨_,rfl,n,rfl,b2p (λa=>?_) (λa=>?_)⟩
  ·rw[if_pos a] at h
   simp[e6o,tOr,d9w,tOp,rI0,rI,e5u,tC,L2.start,d9z,d8n,d9y,CMul];refine b2p (λc=>?_) (λc=>b2p (λd=>?_) (λd=>?_))
   ·rw[if_neg ↑2] at h;exact h
   ·rw[if_neg ↑2] at h;exact h
   ·rw[if_pos ↑2] at h;exact h
  ·rw[if_neg a] at h
   exact h
abbrev b4n:Stmt:=top 15
theorem c7l:i8 ["size","turn"] ["size","turn"] (g9 b4n):=↑1
theorem c7z(D:DefT K mg "place_of" b4n ["size","turn"])(T:↑14)(G_check_turn:↑901 "check_turn" 2 ["size","turn"] (a4f cl)):↑901 "place_of" 3 ["size","turn"] (a6t cl):=by
 refine D.fn c7l ↑8 ↑7
 ·obtain⟨n,t,rfl,h⟩:=h
  refine⟨_,(d6 (j9 (m3 G_check_turn hr ↑4 rfl j4 (d5 (pv 0) ↑47)))
   (d7 (m8 (k7 a0l (pv 1) (pv 0))))),?_⟩
  refine⟨_,rfl,_,rfl,n,t,rfl,a4k h λn2 n8 t0 t1 q=>?_⟩;exact⟨_,rfl,_,rfl,_,_,rfl,rfl,↑2,q⟩
abbrev c2e:Stmt:=top 16
theorem d2p:i8 ["size","turn"] ["size","turn"] (g9 c2e):=↑1
theorem e0y(n:Int)(h0:0<n)(h:n<2 ^ 200):n.natAbs.log2<9000:=by
 have h1:n.natAbs<2 ^ 200:=by lia
 have h2:=(Nat.log2_lt (n:=n.natAbs) (k:=200) ↑2).mpr h1;lia
theorem d3v(D:DefT K mg "lap_of" c2e ["size","turn"])(T:↑14)(G_check_turn:↑901 "check_turn" 2 ["size","turn"] (a4f cl)):↑901 "lap_of" 3 ["size","turn"] (b2t cl):=by
 refine D.fn d2p ↑8 ↑7
 ·obtain⟨n,t,rfl,h⟩:=h
  refine⟨_,(d6 (j9 (m3 G_check_turn hr ↑4 rfl j4 (d5 (pv 0) ↑47)))
   (d7 (m8 (k7 a2t (pv 1) (pv 0))))),?_⟩
  refine⟨_,rfl,_,rfl,n,t,rfl,a4k h λn2 n8 t0 t1 q=>?_⟩;exact⟨_,rfl,_,rfl,_,_,rfl,rfl,⟨by lia,e0y n ↑2 ↑2⟩,q⟩
abbrev c2c:Stmt:=top 17
theorem d2o:i8 ["size","turn","many"] ["size","turn","many"] (g9 c2c):=↑1
theorem d3u(D:DefT K mg "onward" c2c ["size","turn","many"])(T:↑14)(G_check_turn:↑901 "check_turn" 2 ["size","turn"] (a4f cl)):↑901 "onward" 3 ["size","turn","many"] (c4a cl):=by
 refine D.fn d2o ↑8 ↑7
 ·obtain⟨n,t,m,rfl,h⟩:=h
  refine⟨_,(d6 (j9 (m3 G_check_turn hr ↑4 rfl j4 (d5 (pv 0) ↑47)))
   (d7 (m8 (k7 a0l (k7 v3 (pv 1) (pv 2)) (k7 a0p i4 (pv 0)))))),?_⟩
  refine⟨_,rfl,_,rfl,n,t,rfl,a4k h λn2 n8 t0 t1 q=>?_⟩;exact⟨_,rfl,_,rfl,_,_,rfl,rfl,_,rfl,_,_,rfl,rfl,.inl ⟨by decide,by decide⟩,_,_,rfl,rfl,↑2,q⟩
def d8v(cl:Cl)(m:Int)(H:Hp)(E:XK)(k:Prop):Prop:=if 0<=m/\m<=3 then k else False
def b2w(cl:Cl):Sp:=λvs H Q E=>∃m,vs=[.int m]/\d8v cl m H E (Q .non H)
def a9q:Sp:=λvs H Q E=>E2 λa b=>vs=[.int a,.int b]/\Q (.int (2*a+b)) H
def a8d(cl:Cl):Sp:=λvs H Q E=>E2 λn t=>vs=[.int n,.int t]/\a6o cl n t H E (Q (.int (2*(t / n)+1)) H)
def b5z(cl:Cl):Sp:=λvs H Q E=>E2 λn t=>vs=[.int n,.int t]/\a6o cl n t H E (Q (.int (2*(t / n)+0)) H)
def a8a(cl:Cl):Sp:=λvs H Q E=>E2 λn t=>vs=[.int n,.int t]/\a6o cl n t H E (Q (.int (2*(1-t / n)+0)) H)
abbrev a8t:Stmt:=top 22
theorem c1r:i8 ["mark"] ["mark"] (g9 a8t):=↑1
theorem c2p(D:DefT K mg "check_mark" a8t ["mark"])(T:↑14):↑901 "check_mark" 1 ["mark"] (b2w cl):=by
 refine D.fn c1r ↑8 ↑7
 ·obtain⟨n,rfl,h⟩:=h
  refine⟨_,(d7 (x0 (PW.pt (c4x (l7 b5h (pv 0) i4 ↑43) (b8j (l7 c5d (pv 0) (a0k T.m_MOST_MARK rfl) ↑43))))
    (d7 a5n)
    v6)),?_⟩
  unfold d8v at h;refine⟨_,rfl,_,_,rfl,rfl,_,rfl,b2p (λc=>?_) (λc=>⟨_,rfl,_,_,rfl,rfl,_,rfl,b2p (λd=>?_) (λd=>?_)⟩)⟩
  ·rw[if_neg (by have:=of_decide_eq_true c;lia)] at h
   exact b2p (λ_=>h) (λz=>absurd rfl z)
  ·rw[if_neg (by have:=of_decide_eq_true d;lia)] at h
   exact h
  ·simp only[decide_eq_true_eq] at c d
   rw[if_pos ↑2] at h;exact h
abbrev b7w:Stmt:=top 23
theorem d0x:i8 ["lap","side"] ["lap","side"] (g9 b7w):=↑1
theorem d1i(D:DefT K mg "mark_of" b7w ["lap","side"])(T:↑14):↑901 "mark_of" 1 ["lap","side"] a9q:=by
 refine D.fn d0x ↑8 ↑7
 ·obtain⟨a,b,rfl,h⟩:=h
  refine⟨_,(d7 (m8 (k7 v3 (k7 a0p i4 (pv 0)) (pv 1)))),?_⟩;exact⟨_,rfl,_,_,rfl,rfl,.inl ⟨by decide,by decide⟩,_,rfl,_,_,rfl,rfl,h⟩
abbrev b1u:Stmt:=top 26
theorem c4l:i8 ["size","turn"] ["size","turn"] (g9 b1u):=↑1
theorem c5v(D:DefT K mg "full_mark" b1u ["size","turn"])(T:↑14)(G_lap_of:↑901 "lap_of" 3 ["size","turn"] (b2t cl))(G_mark_of:↑901 "mark_of" 1 ["lap","side"] a9q):↑901 "full_mark" 4 ["size","turn"] (a8d cl):=by
 refine D.fn c4l ↑8 ↑7
 ·obtain⟨n,t,rfl,h⟩:=h
  refine⟨_,(d7 (m8 (m3 G_mark_of hr ↑4 rfl j4 (d5 (m3 G_lap_of hr ↑4 rfl j4 (d5 (pv 0) ↑47)) (d5 (a0k T.m_FULL rfl) i9))))),?_⟩;exact⟨_,rfl,_,rfl,n,t,rfl,a4k h λn2 n8 t0 t1 q=>⟨_,_,rfl,q⟩⟩
abbrev b1v:Stmt:=top 27
theorem c4m:i8 ["size","turn"] ["size","turn"] (g9 b1v):=↑1
theorem c5w(D:DefT K mg "free_mark" b1v ["size","turn"])(T:↑14)(G_lap_of:↑901 "lap_of" 3 ["size","turn"] (b2t cl))(G_mark_of:↑901 "mark_of" 1 ["lap","side"] a9q):↑901 "free_mark" 4 ["size","turn"] (b5z cl):=by
 refine D.fn c4m ↑8 ↑7
 ·obtain⟨n,t,rfl,h⟩:=h
  refine⟨_,(d7 (m8 (m3 G_mark_of hr ↑4 rfl j4 (d5 (m3 G_lap_of hr ↑4 rfl j4 (d5 (pv 0) ↑47)) (d5 (a0k T.m_FREE rfl) i9))))),?_⟩;exact⟨_,rfl,_,rfl,n,t,rfl,a4k h λn2 n8 t0 t1 q=>⟨_,_,rfl,q⟩⟩
theorem a0h{cl:Cl}{n t:Int}{H:Hp}{E:XK}{k:Prop}(n2:2<=n)(n8:n<=8)(t0:0<=t)(t1:t<2*n)(h:k):a6o cl n t H E k:=by
 unfold a6o;rw[if_pos ⟨n2,n8⟩,if_pos ⟨t0,t1⟩];exact h
abbrev a5y:Stmt:=top 28
theorem b7p:i8 ["size","turn"] ["size","turn"] (g9 a5y):=↑1
theorem b8n(D:DefT K mg "mark_to_give" a5y ["size","turn"])(T:↑14)(G_lap_of:↑901 "lap_of" 3 ["size","turn"] (b2t cl))(G_mark_of:↑901 "mark_of" 1 ["lap","side"] a9q):↑901 "mark_to_give" 4 ["size","turn"] (a8a cl):=by
 refine D.fn b7p ↑8 ↑7
 ·obtain⟨n,t,rfl,h⟩:=h
  refine⟨_,(d7 (m8 (m3 G_mark_of hr ↑4 rfl j4 (d5 (k7 a2g i4 (m3 G_lap_of hr ↑4 rfl j4 (d5 (pv 0) ↑47))) (d5 (a0k T.m_FREE rfl) i9))))),?_⟩;exact⟨_,rfl,_,rfl,n,t,rfl,a4k h λn2 n8 t0 t1 q=>⟨_,_,rfl,rfl,_,_,rfl,q⟩⟩
def Well(H:Hp)(w:Addr):Prop:=∃a b p,H w=some (.lst [.int a,.int b,.int p])/\0<p/\p<2147483648
def But(w:Addr)(H H':Hp):Prop:=∀b o,H b=some o->b≠w->H' b=some o
theorem But.trans{w:Addr}{H H1 H2:Hp}(a:But w H H1)(b:But w H1 H2):But w H H2:=λc o e n=>b c o (a c o e n) n
theorem But.of{w:Addr}{H H':Hp}(s:Same H H'):But w H H':=λb o e _=>s b o e
theorem But.upd{w:Addr}{H:Hp}{o:HO}:But w H (upd H w o):=λb u e n=>by rw[d8 n];exact e
theorem j1{H:Hp}{p:Addr}{o:HO}(n:H p=none):Same H (upd H p o):=λb u e=>by rw[d8 (k8 e n)];exact e
theorem Well.same{H H':Hp}{w:Addr}(h:Well H w)(s:Same H H'):Well H' w:=let ⟨a,b,p,e,q⟩:=h;⟨a,b,p,s _ _ e,q⟩
theorem Well.at{H:Hp}{w:Addr}(h:Well H w):∃o,H w=some o:=let ⟨_,_,_,e,_⟩:=h;⟨_,e⟩
def a6u:Sp:=λvs H Q _=>E2 λw m=>vs=[.ref w,.int m]/\Well H w/\0<m/\m<2 ^ 200/\∀r H',0<=r->r<m->Well H' w->But w H H'->Q (.int r) H'
abbrev b4s:Stmt:=top 106
theorem b7q:i8 ["well","many","got"] ["well","many"] (g9 b4s):=↑1
theorem c8e(D:DefT K mg "_law_take" b4s ["well","many"])(T:↑14):↑901 "_law_take" 1 ["well","many"] a6u:=by
 refine D.fn b7q ↑8 ↑7
 ·obtain⟨w,m,rfl,⟨a,b,p,hw,p0,p1⟩,m0,m1,k⟩:=h
  refine⟨_,(d6 (x0 (l7 c5d ↑134 i4 ↑43)
     (
     d6 (l9 (i:=2) b7q.nd rfl ↑22 (k7 a0l ↑134 (pv 1)))
     (d6 (c0l (k7 a2t ↑134 (pv 1)) (c5a (pv 0) i4 b3f))
     (d7 (m8 (pv 2)))))
     v6)
   (d6 (c0l (k7 v3 (k7 a0l (k7 a0p ↑134 i4) ↑134) i4) (c5a (pv 0) i4 b3f))
   (d7 (m8 (k7 a0l (k7 a2t (k7 a0l (k7 a0p ↑134 ↑134) i4) i4) (pv 1)))))),?_⟩
  refine⟨_,rfl,w,_,0,_,rfl,rfl,SqL.of hw,rfl,_,_,rfl,rfl,_,rfl,b2p (λc=>?_) (λc=>?_)⟩
  ·refine⟨_,rfl,w,_,0,_,rfl,rfl,SqL.of hw,rfl,_,rfl,_,_,rfl,rfl,m0,?_⟩
   refine⟨_,rfl,w,_,0,_,rfl,rfl,SqL.of hw,rfl,_,rfl,_,_,rfl,rfl,⟨m0,e0y m m0 m1⟩,_,rfl,w,_,0,0,rfl,rfl,hw,rfl,?_⟩;exact⟨_,rfl,k _ _ (Int.emod_nonneg _ ↑2) (Int.emod_lt_of_pos _ m0) ⟨_,_,_,d9,p0,p1⟩ But.upd⟩
  ·refine⟨_,rfl,w,_,1,_,rfl,rfl,SqL.of hw,rfl,_,_,rfl,rfl,.inr ⟨by decide,by decide⟩,_,rfl,w,_,2,_,rfl,rfl,SqL.of hw,rfl,_,_,rfl,rfl,p0,_,_,rfl,rfl,_,rfl,w,_,1,1,rfl,rfl,hw,rfl,?_⟩
   have h1:=Int.emod_nonneg (b*48271) (show p≠0 by lia)
   have h2:=Int.emod_lt_of_pos (b*48271) p0;refine⟨_,rfl,w,_,1,_,rfl,rfl,SqL.of d9,rfl,_,rfl,w,_,1,_,rfl,rfl,SqL.of d9,rfl,_,_,rfl,rfl,.inl ↑109,_,_,rfl,rfl,(by show(0:Int)<2147483423;decide),_,_,rfl,rfl,⟨by decide,by decide⟩,_,rfl,_,_,rfl,rfl,m0,?_⟩
   exact k _ _ (Int.emod_nonneg _ ↑2) (Int.emod_lt_of_pos _ m0) ⟨_,_,_,d9,p0,p1⟩ But.upd
theorem b5o{ns:List Int}{n:Nat}(h:n<ns.length):atI ↑81 (n:Int)=some (.int ns[n]):=by
 have hl:(ns.map V.int).length=ns.length:=List.length_map _;unfold atI ixN;rw[if_pos ↑2,if_pos ↑2];show(ns.map V.int)[(n:Int).toNat]?=_;rw[show(n:Int).toNat=n by lia,List.getElem?_map,List.getElem?_eq_getElem h]
 rfl
noncomputable abbrev e0h:List V:=[.int 2147483647,.int 2147483629,.int 2147483587,.int 2147483579,.int 2147483563,.int 2147483549,.int 2147483543,.int 2147483497]
theorem d3b(j:Int)(h0:0<=j)(h1:j<8):∃v,atI e0h j=some (.int v)/\0<v/\v<2147483648:=by
 have:j=0\/j=1\/j=2\/j=3\/j=4\/j=5\/j=6\/j=7:=by lia
 rcases this with rfl|rfl|rfl|rfl|rfl|rfl|rfl|rfl <;> exact⟨_,rfl,by decide,by decide⟩
def b0x(K:↑29):Sp:=λvs H Q _=>E3 λ(c:Addr)(ns:List Int)(k:Nat)=>vs=[.ref c,.int (k:Int)]/\SqL K H c ↑81/\k<1000/\∀w H',H w=none->Same H H'->Well H' w->Q (.ref w) H'
abbrev b4q:Stmt:=top 105
theorem a3a:i8 ["script","k","cell","primes","seed"] ["script","k"] (g9 b4q):=↑1
theorem c8c(D:DefT K mg "_law_well" b4q ["script","k"])(T:↑14):↑901 "_law_well" 1 ["script","k"] (b0x K):=by
 refine D.fn a3a ↑8 ↑7
 ·obtain⟨c,ns,n,rfl,hc,hn,k⟩:=h
  refine⟨_,(d6 (l9 (i:=2) a3a.nd rfl ↑22 i4)
   (d6 (x0 (l7 b5h (pv 1) ↑32 ↑43)
     (d7 (l9 (i:=2) a3a.nd rfl ↑22 (a0c ↑19 (pv 0) (pv 1) ↑11)))
     v6)
   (d6 (l9 (i:=3) a3a.nd rfl ↑22 (v5 (d5 i4 (d5 i4 (d5 i4 (d5 i4 (d5 i4 (d5 i4 (d5 i4 ↑25)))))))))
   (d6 (l9 (i:=4) a3a.nd rfl ↑22 (k7 a0l (k7 a0p (k7 v3 (k7 a0l (pv 2) i4) i4) (k7 v3 i4 (k7 a0p i4 (pv 1)))) i4))
   (d6 (l9 (i:=4) a3a.nd rfl ↑22 (k7 v3 (k7 v3 (k7 a0l (k7 a0p (pv 4) (pv 4)) i4) (pv 1)) i4))
   (d6 (x0 (l7 d3s (pv 2) (k7 d3o i4 i4) ↑43)
     (d7 (m8 (v5 (d5 (pv 2) (d5 (pv 4) (d5 (a0c ↑19 (pv 3) (k7 a0l (pv 1) i4) ↑11) i9))))))
     v6)
   (d7 (m8 (v5 (d5 i4 (d5 (pv 4) (d5 (a0c ↑19 (pv 3) (k7 a0l (pv 1) i4) ↑11) i9)))))))))))),?_⟩
  refine⟨_,rfl,_,rfl,c,_,rfl,.inl hc,_,_,rfl,rfl,_,rfl,b2p (λa=>⟨_,rfl,_,rfl,c,_,(n:Int),_,rfl,rfl,hc,b5o (by have:=of_decide_eq_true a;rw[List.length_map] at this;lia),?_⟩) (λa=>?_)⟩
  all_goals
   refine⟨by show 8<=sizeLine;decide,λp hp=>?_⟩
   refine⟨_,rfl,_,_,rfl,rfl,(by show(0:Int)<2147483489;decide),_,_,rfl,rfl,_,rfl,_,_,rfl,rfl,.inl ⟨by decide,by decide⟩,_,_,rfl,rfl,_,_,rfl,rfl,.inl ↑109,_,_,rfl,rfl,(by show(0:Int)<2147483489;decide),?_⟩
   refine⟨_,rfl,_,rfl,_,_,rfl,rfl,.inl ↑109,_,_,rfl,rfl,(by show(0:Int)<2147483477;decide),_,rfl,_,_,rfl,rfl,_,_,rfl,rfl,?_⟩
   refine⟨_,rfl,_,_,rfl,rfl,⟨by decide,by decide,by decide⟩,_,_,rfl,rfl,_,rfl,b2p (λb=>?_) (λb=>?_)⟩
   all_goals
    obtain⟨v,hv,v0,v1⟩:=d3b ((n:Int) % 8) ↑2 ↑2
    first
     | refine⟨_,rfl,_,rfl,_,rfl,_,rfl,_,_,rfl,rfl,(by show(0:Int)<8;decide),p,_,_,_,rfl,rfl,SqL.of d9,hv,(by show 3<=sizeLine;decide),λq hq=>?_⟩
     | refine⟨_,rfl,_,rfl,_,rfl,_,_,rfl,rfl,(by show(0:Int)<8;decide),p,_,_,_,rfl,rfl,SqL.of d9,hv,(by show 3<=sizeLine;decide),λq hq=>?_⟩
    exact k q _ ((j1 hp).free hq) ((j1 hp).trans (j1 hq)) ⟨_,_,_,d9,v0,v1⟩
theorem d3f{ns:List Int}{Pr:Int->Prop}(h:∀v∈ns,Pr v){r:Int}(h0:0<=r)(h1:r<ns.length):∃v,atI ↑81 r=some (.int v)/\Pr v:=by
 have hr:r.toNat<ns.length:=by lia
 refine⟨ns[r.toNat],?_,h _ (List.getElem_mem hr)⟩;have e:=b5o hr
 rwa [show((r.toNat:Nat):Int)=r by lia] at e
theorem d6o{w:Addr}{H H1 H2:Hp}(s:Same H H1)(n:H w=none)(b:But w H1 H2):Same H H2:=λc o e=>b c o (s c o e) (k8 e n)
theorem Well.ne{H:Hp}{w p:Addr}(h:Well H w)(n:H p=none):p≠w:=by
 obtain⟨o,e⟩:=h.at;exact(k8 e n).symm
def b2i(b:Bool):Int:=if b then 1 else 0
def toB(ns:List Int):List Bool:=ns.map λx=>x == 1
def b0t(ns:List Int):Bool:=ns.all λx=>x == 0 || x == 1
theorem d9m(ns:List Int):(toB ns).length=ns.length:=List.length_map _
theorem c6y{ns:List Int}(h:b0t ns=true):(toB ns).map b2i=ns:=by
 induction ns with
 | nil=>rfl
 | cons x xs ih=>
  unfold b0t at h ih;rw[List.all_cons,Bool.and_eq_true] at h;have e:b2i (x == 1)=x:=by
   have h1:=h.1;unfold b2i;by_cases hx:x=1
   ·subst hx;rfl
   ·have:x=0:=by simpa[hx] using h1
    subst this;rfl
  show b2i (x == 1)::(toB xs).map b2i=x::xs;rw[e,ih h.2]
theorem d2i(bs:List Bool):toB (bs.map b2i)=bs:=by
 unfold toB;rw[List.map_map];have:((λx=>x == (1:Int)) ∘ b2i)=id:=by funext b;cases b <;> rfl
 rw[this,List.map_id]
theorem e1z{bs cs:List Bool}(h:bs.map b2i=cs.map b2i):bs=cs:=by rw[<- d2i bs,<- d2i cs,h]
noncomputable def a2y:List Bool->Nat
 | []=>0
 | b::bs=>1+(bs.takeWhile λx=>x == b).length
noncomputable def a5s(bs:List Bool):Option Nat:=if (bs.drop (a2y bs)).any (λx=>x == bs.headD false) then none else some (((if bs.headD false then bs.length else 0)+a2y bs) % (2*bs.length))
noncomputable def c3r(n t:Nat):List Bool:=List.replicate (t % n) (t / n == 1)++List.replicate (n-t % n) (!(t / n == 1))
noncomputable def d5y:Nat->List (List Bool)
 | 0=>[[]]
 | n+1=>(d5y n).flatMap λbs=>[false::bs,true::bs]
theorem d0c:∀bs:List Bool,bs∈d5y bs.length
 | []=>List.mem_singleton.mpr rfl
 | b::bs=>by
  show b::bs∈(d5y bs.length).flatMap λbs=>[false::bs,true::bs];refine List.mem_flatMap.mpr ⟨bs,d0c bs,?_⟩;cases b <;> simp
noncomputable def d9k:List (List Bool):=d5y 2++d5y 3++d5y 4++d5y 5++d5y 6++d5y 7++d5y 8
theorem d4c{bs:List Bool}(h2:2<=bs.length)(h8:bs.length<=8):bs∈d9k:=by
 have h:=d0c bs;unfold d9k;have:bs.length=2\/bs.length=3\/bs.length=4\/bs.length=5\/bs.length=6\/bs.length=7\/bs.length=8:=by lia
 simp only[List.mem_append];rcases this with e|e|e|e|e|e|e <;> rw[e] at h <;> simp[h]
theorem d5u:d9k.all (λbs=>decide (1<=a2y bs) && decide (a2y bs<=bs.length) && (List.range bs.length).all λj=>!decide (j<=a2y bs) || (if bs[j]?=bs[0]? then decide (j+1<=a2y bs) else decide (j=a2y bs)))=true:=by decide +kernel
theorem d5t{bs:List Bool}(h2:2<=bs.length)(h8:bs.length<=8):1<=a2y bs/\a2y bs<=bs.length/\∀j,j<bs.length->j<=a2y bs->(bs[j]?=bs[0]?->j+1<=a2y bs)/\(bs[j]? ≠ bs[0]?->j=a2y bs):=by
 have h:=List.all_eq_true.mp d5u bs (d4c h2 h8);simp only[Bool.and_eq_true,decide_eq_true_eq,List.all_eq_true,List.mem_range,Bool.or_eq_true,Bool.not_eq_true',decide_eq_false_iff_not] at h;refine⟨h.1.1,h.1.2,λj hj hl=>?_⟩;rcases h.2 j hj with z|z
 ·exact absurd hl z
 ·constructor
  ·intro e
   rw[if_pos e] at z;exact of_decide_eq_true z
  ·intro e
   rw[if_neg e] at z;exact of_decide_eq_true z
theorem d8f{xs:List V}{j:Nat}(h:j<=xs.length):e2i xs (some (j:Int)) none=xs.drop j:=by
 unfold e2i;rw[HT.sIx_nat,HT.sIx_none,Nat.min_eq_left h];exact List.take_of_length_le (by rw[List.length_drop];lia)
theorem d7n(b:Bool)(bs:List Bool):inV (.int (b2i b)) ((bs.map b2i).map V.int)=bs.any λx=>x == b:=by
 unfold inV
 induction bs with
 | nil=>rfl
 | cons c cs ih=>
  simp only[List.map_cons,List.any_cons];rw[ih];cases b <;> cases c <;> rfl
theorem b9d(ns:List Int):(ns.map V.int).all a5b=true:=by simp[a5b]
def b2x(K:↑29)(cl:Cl):Sp:=λvs H Q E=>E2 λa ns=>vs=[.ref a]/\SqL K H a ↑81/\(if 2<=(ns.length:Int)/\(ns.length:Int)<=8 then (if b0t ns=true then Q .non H else False) else False)
abbrev a8v:Stmt:=top 47
theorem b3g:i8 ["bits","bit"] ["bits"] (g9 a8v):=↑1
theorem d5r{ns:List Int}{i:Nat}{x:Int}(h:(ns.map V.int)[i]?=some (.int x))(hx:¬ (0<=x/\x<=1)):b0t ns=false:=by
 rw[List.getElem?_map] at h;cases e:ns[i]? with
 | none=>rw[e] at h;cases h
 | some y=>
  rw[e] at h;cases h;cases hb:b0t ns with
  | false=>rfl
  | true=>
   have hb:=List.all_eq_true.mp hb x (List.mem_of_getElem? e);simp only[Bool.or_eq_true,beq_iff_eq] at hb;lia
theorem d5q{ns:List Int}(h:∀(i:Nat) (x:Int),(ns.map V.int)[i]?=some (.int x)->0<=x/\x<=1):b0t ns=true:=by
 refine List.all_eq_true.mpr λx hx=>?_;obtain⟨i,hi⟩:=List.getElem?_of_mem hx;have:=h i x (by rw[List.getElem?_map,hi];rfl)
 simp only[Bool.or_eq_true,beq_iff_eq];lia
theorem c3l{ns:List Int}{i:Nat}{x:V}(h:(ns.map V.int)[i]?=some x):∃v,x=.int v:=by
 rw[List.getElem?_map] at h;cases e:ns[i]? with
 | none=>rw[e] at h;cases h
 | some y=>rw[e] at h;cases h;exact⟨_,rfl⟩
theorem c2r(D:DefT K mg "check_bits" a8v ["bits"])(T:↑14)(G_check_size:↑70):↑901 "check_bits" 2 ["bits"] (b2x K cl):=by
 refine D.fn b3g ↑8 ↑7
 ·obtain⟨a,ns,rfl,hS,h⟩:=h
  refine⟨_,(d6 (j9 (m3 G_check_size hr ↑4 rfl j4 (d5 ↑32 i9)))
   (d7 (b8l a5o rfl (a2r (K:=K) (pv 0)) (a1b (i:=1) b3g.nd rfl ↑22)
    (d7 (x0 (PW.pt (c4x (l7 b5h (pv 1) i4 ↑43) (b8j (l7 c5d (pv 1) i4 ↑43))))
      (d7 a5n)
      v6))))),?_⟩
  refine⟨_,rfl,a,_,rfl,.inl hS,_,rfl,?_⟩;rw[List.length_map];refine b2p (λc=>?_) (λc=>?_)
  ·rw[if_pos c] at h
   refine⟨_,rfl,a,rfl,⟨_,hS⟩,c3o (xs:=ns.map V.int) (λi σ H'=>∃x,σ=[some (.ref a),x]/\H'=H/\∀(j:Nat)(y:Int),j<i->(ns.map V.int)[j]?=some (.int y)->0<=y/\y<=1) ⟨_,rfl,rfl,λj y hj=>absurd hj (Nat.not_lt_zero _)⟩ ?_ ?_ ?_⟩
   ·rintro i σ H' _ ⟨x,rfl,rfl,_⟩
    exact hS
   ·rintro i x σ H' hx ⟨y,rfl,rfl,hb⟩
    obtain⟨v,rfl⟩:=c3l hx;refine⟨_,rfl,_,_,rfl,rfl,_,rfl,b2p (λd=>?_) (λd=>⟨_,rfl,_,_,rfl,rfl,_,rfl,b2p (λd2=>?_) (λd2=>?_)⟩)⟩
    ·rw[if_neg (by rw[d5r hx (by have:=of_decide_eq_true d;lia)];decide)] at h
     exact b2p (λ_=>h) (λz=>absurd rfl z)
    ·rw[if_neg (by rw[d5r hx (by have:=of_decide_eq_true d2;lia)];decide)] at h
     exact h
    ·simp only[decide_eq_true_eq] at d d2
     refine⟨_,rfl,rfl,λj y hj e=>?_⟩;by_cases hji:j<i
     ·exact hb j y hji e
     ·have:j=i:=by lia
      subst this;rw[hx] at e;cases e;lia
   ·rintro σ H' ⟨x,rfl,rfl,hb⟩
    rw[if_pos (d5q λi x e=>hb i x (List.getElem?_eq_some_iff.mp e).1 e)] at h;exact h
  ·rw[if_neg c] at h
   exact h
def b0n(K:↑29):Sp:=λvs H Q _=>E2 λ(a:Addr)(bs:List Bool)=>vs=[.ref a]/\SqL K H a ((bs.map b2i).map V.int)/\2<=bs.length/\bs.length<=8/\Q (.int (a2y bs:Nat)) H
abbrev a7l:Stmt:=top 49
theorem a5x:i8 ["bits","many"] ["bits"] (g9 a7l):=↑1
theorem e5s{b c:Bool}:(V.int (b2i b)=V.int (b2i c)) ↔ b=c:=by cases b <;> cases c <;> simp[b2i]
theorem b9w(D:DefT K mg "alike_ahead" a7l ["bits"])(T:↑14):↑901 "alike_ahead" 1 ["bits"] (b0n K):=by
 refine D.fn a5x ↑8 ↑7
 ·obtain⟨a,bs,rfl,hS,h2,h8,h⟩:=h
  refine⟨_,(d6 (l9 (i:=1) a5x.nd rfl ↑22 i4)
   (d6 (d6t a5o (PW.pt (c4y (l7 b5h (pv 1) ↑32 ↑43) (b8k (l7 a0m (a0c ↑19 (pv 0) (pv 1) ↑11) ↑134 ↑43))))
     (d7 (e3n (i:=1) a5x.nd rfl ↑22 i4 e4k)))
   (d7 (m8 (pv 1))))),?_⟩
  obtain⟨l1,l2,l3⟩:=d5t h2 h8;have hl:((bs.map b2i).map V.int).length=bs.length:=by rw[List.length_map,List.length_map]
  refine⟨λz σ H'=>∃g:Nat,z=bs.length-g/\1<=g/\g<=a2y bs/\σ=[some (.ref a),some (.int (g:Int))]/\H'=H,⟨_,1,rfl,Nat.le_refl 1,l1,rfl,rfl⟩,?_⟩;rintro z σ H' ⟨g,rfl,g1,ga,rfl,rfl⟩;refine⟨_,rfl,_,rfl,a,_,rfl,.inl hS,_,_,rfl,rfl,_,rfl,b2p (λc=>?_) (λc=>e4j ?_)⟩
  ·have hg:g<bs.length:=by have:=of_decide_eq_true c;rw[hl] at this;lia
   have e1:=b5o (ns:=bs.map b2i) (n:=g) (by rw[List.length_map];exact hg)
   have e0:=b5o (ns:=bs.map b2i) (n:=0) (by rw[List.length_map];lia)
   refine⟨_,rfl,_,rfl,a,_,(g:Int),_,rfl,rfl,hS,e1,_,rfl,a,_,0,_,rfl,rfl,hS,e0,rfl,_,rfl,?_⟩;rw[List.getElem_map,List.getElem_map];refine b2p (λb=>?_) (λb=>?_)
   ·have heq:bs[g]=bs[0]:=e5s.mp (by simpa using b)
    have lt:=(l3 g hg ga).1 (by rw[List.getElem?_eq_getElem hg,List.getElem?_eq_getElem ↑2,heq])
    refine⟨λσ' H'=>σ'=[some (.ref a),some (.int ((g+1:Nat):Int))]/\H'=_,λσ' H' ⟨h1,h2⟩=>⟨bs.length-(g+1),by lia,g+1,rfl,by lia,lt,h1,h2⟩,?_⟩
    exact⟨_,rfl,_,_,rfl,rfl,rfl,rfl⟩
   ·have hne:bs[g]≠bs[0]:=λe=>b (by rw[e];simp)
    have eq:=(l3 g hg ga).2 (by rw[List.getElem?_eq_getElem hg,List.getElem?_eq_getElem ↑2];intro e;exact hne (Option.some.inj e))
    subst eq;exact⟨_,rfl,h⟩
  ·have hg:¬ g<bs.length:=λz=>c (decide_eq_true (by rw[hl];lia))
   have:g=a2y bs:=by lia
   subst this;exact⟨_,rfl,h⟩
noncomputable def d0h(cl:Cl)(ns:List Int)(H:Hp)(E:XK)(k:Nat->Hp->Prop):Prop :=
 if 2<=(ns.length:Int)/\(ns.length:Int)<=8 then (if b0t ns=true then (∀H',Same H H'->(match a5s (toB ns) with|none=>False|some f=>k f H')) else False) else False
def c1g(K:↑29)(cl:Cl):Sp:=λvs H Q E=>E2 λa ns=>vs=[.ref a]/\SqL K H a ↑81/\d0h cl ns H E λf H'=>Q (.int (f:Nat)) H'
abbrev c7t:Stmt:=top 50
theorem c1o:i8 ["bits","many","size"] ["bits"] (g9 c7t):=↑1
theorem d7a(D:DefT K mg "front" c7t ["bits"])(T:↑14)(G_check_bits:↑901 "check_bits" 2 ["bits"] (b2x K cl))(G_alike_ahead:↑901 "alike_ahead" 1 ["bits"] (b0n K))(G_onward:↑45):↑901 "front" 4 ["bits"] (c1g K cl):=by
 refine D.fn c1o ↑8 ↑7
 ·obtain⟨a,ns,rfl,hS,h⟩:=h
  refine⟨_,(d6 (j9 (m3 G_check_bits hr ↑4 rfl j4 ↑48))
   (d6 (l9 (i:=1) c1o.nd rfl ↑22 (m3 G_alike_ahead hr ↑4 rfl j4 ↑48))
   (d6 (x0 (l7 (b6k (K:=K)) ↑134 (d6u (d6m (K:=K)) (pv 0) (e0i (pv 1)) e0j) ↑58)
     (d7 a5n)
     v6)
   (d6 (l9 (i:=2) c1o.nd rfl ↑22 ↑32)
   (d7 (m8 (m3 G_onward hr ↑4 rfl j4 (d5 (pv 2) (d5 (k7 a0p ↑134 (pv 2)) ↑47))))))))),?_⟩
  unfold d0h at h;refine⟨_,rfl,a,ns,rfl,hS,b2p (λc=>b2p (λd=>?_) (λd=>?_)) (λc=>?_)⟩
  ·rw[if_pos c,if_pos d] at h
   have e:=c6y d;have hl:(toB ns).length=ns.length:=d9m ns;generalize hb:toB ns=bs at e hl h;subst e;have h2:2<=bs.length:=by rw[hl];lia
   have h8:bs.length<=8:=by rw[hl];lia
   obtain⟨l1,l2,l3⟩:=d5t h2 h8;have e0:=b5o (ns:=bs.map b2i) (n:=0) (by rw[List.length_map];lia)
   rw[List.getElem_map] at e0;have hh:bs.headD false=bs[0]:=by
    cases bs with
    | nil=>simp at h2
    | cons b bs=>rfl
   refine⟨_,rfl,a,bs,rfl,hS,h2,h8,?_⟩;refine⟨_,rfl,a,_,0,_,rfl,rfl,hS,e0,_,rfl,_,rfl,_,rfl,a,_,rfl,hS,λp hp=>?_⟩;rw[d8f (by rw[List.length_map,List.length_map];exact l2),<- List.map_drop,<- List.map_drop]
   have s1:Same H (upd H p (.lst (((bs.drop (a2y bs)).map b2i).map V.int))):=j1 hp;have hq:=h _ s1;refine⟨p,_,rfl,.inl (SqL.of d9),rfl,b9d _,_,rfl,?_⟩;rw[if_neg Bool.false_ne_true,d7n];unfold a5s at hq;rw[hh] at hq;refine b2p (λz=>?_) (λz=>?_)
   ·rw[if_pos z] at hq
    exact hq
   ·rw[if_neg z] at hq
    refine⟨_,rfl,a,_,rfl,.inl (s1.seq hS),?_⟩;rw[List.length_map,List.length_map];refine⟨_,rfl,_,rfl,a,_,0,_,rfl,rfl,s1.seq hS,e0,_,rfl,_,_,rfl,rfl,.inr ↑109,_,rfl,(bs.length:Int),_,_,rfl,a0h ↑2 ↑2 ?_ ?_ ?_⟩
    ·unfold b2i;split <;> lia
    ·unfold b2i;split <;> lia
    ·have e:(b2i bs[0]*(bs.length:Int)+(a2y bs:Int)) % (2*(bs.length:Int))=((((if bs[0]=true then bs.length else 0)+a2y bs) % (2*bs.length):Nat):Int):=by
      unfold b2i;split
      ·rw[Int.one_mul];push_cast;rfl
      ·rw[Int.zero_mul];push_cast;rfl
     rw[e];exact hq
  ·rw[if_pos c,if_neg d] at h
   exact h
  ·rw[if_neg c] at h
   exact h
theorem c0x:2000<=sizeLine:=by decide
noncomputable def a2u(ns:List Int):Bool:=ns.all λx=>decide (0<=x) && decide (x<=3)
def d7i(m:Int):Int:=m / 2
def tbI(m:Int):Int:=if m / 2=m % 2 then 0 else 1
theorem c6h{ns:List Int}(h:a2u ns=true){x:Int}(hx:x∈ns):0<=x/\x<=3:=by
 have h:=List.all_eq_true.mp h x hx
 simpa using h
theorem d7d{ns:List Int}{i:Nat}{x:Int}(h:(ns.map V.int)[i]?=some (.int x))(hx:¬ (0<=x/\x<=3)):a2u ns=false:=by
 rw[List.getElem?_map] at h;cases e:ns[i]? with
 | none=>rw[e] at h;cases h
 | some y=>
  rw[e] at h;cases h;cases hb:a2u ns with
  | false=>rfl
  | true=>exact absurd (c6h hb (List.mem_of_getElem? e)) hx
theorem d1t{ns:List Int}(h:∀(i:Nat) (x:Int),(ns.map V.int)[i]?=some (.int x)->0<=x/\x<=3):a2u ns=true:=by
 refine List.all_eq_true.mpr λx hx=>?_;obtain⟨i,hi⟩:=List.getElem?_of_mem hx;have:=h i x (by rw[List.getElem?_map,hi];rfl)
 simpa using this
theorem e1b{ns:List Int}(h:a2u ns=true):b0t (ns.map d7i)=true:=by
 refine List.all_eq_true.mpr λx hx=>?_;obtain⟨m,hm,rfl⟩:=List.mem_map.mp hx;have:=c6h h hm;have e:d7i m=0\/d7i m=1:=by unfold d7i;lia
 simpa using e
theorem d6k(ns:List Int):b0t (ns.map tbI)=true:=by
 refine List.all_eq_true.mpr λx hx=>?_;obtain⟨m,hm,rfl⟩:=List.mem_map.mp hx;have e:tbI m=0\/tbI m=1:=by unfold tbI;split <;> simp
 simpa using e
def b0w:Sp:=λvs H Q E=>∃m,vs=[.int m]/\Q (.int (m / 2)) H
def b5s:Sp:=λvs H Q E=>∃m,vs=[.int m]/\Q (.int (m % 2)) H
def b5q:Sp:=λvs H Q E=>∃m,vs=[.int m]/\Q (.int (tbI m)) H
abbrev b4p:Stmt:=top 24
theorem c7n:i8 ["mark"] ["mark"] (g9 b4p):=↑1
theorem c8b(D:DefT K mg "mark_lap" b4p ["mark"])(T:↑14):↑901 "mark_lap" 1 ["mark"] b0w:=by
 refine D.fn c7n ↑8 ↑7
 ·obtain⟨a,rfl,h⟩:=h
  refine⟨_,(d7 (m8 (k7 a2t (pv 0) i4))),?_⟩;exact⟨_,rfl,_,_,rfl,rfl,⟨by decide,e0y 2 ↑4 ↑4⟩,h⟩
abbrev b1j:Stmt:=top 25
theorem c4h:i8 ["mark"] ["mark"] (g9 b1j):=↑1
theorem c5j(D:DefT K mg "mark_side" b1j ["mark"])(T:↑14):↑901 "mark_side" 1 ["mark"] b5s:=by
 refine D.fn c4h ↑8 ↑7
 ·obtain⟨a,rfl,h⟩:=h
  refine⟨_,(d7 (m8 (k7 a0l (pv 0) i4))),?_⟩;exact⟨_,rfl,_,_,rfl,rfl,(by show(0:Int)<2;decide),h⟩
abbrev b1f:Stmt:=top 51
theorem c4d:i8 ["mark"] ["mark"] (g9 b1f):=↑1
theorem c5f(D:DefT K mg "taker_bit" b1f ["mark"])(T:↑14)(G_mark_lap:↑901 "mark_lap" 1 ["mark"] b0w)(G_mark_side:↑901 "mark_side" 1 ["mark"] b5s):↑901 "taker_bit" 2 ["mark"] b5q:=by
 refine D.fn c4d ↑8 ↑7
 ·obtain⟨m,rfl,h⟩:=h
  refine⟨_,(d7 (m8 (a0w (l7 e3u (m3 G_mark_lap hr ↑4 rfl j4 ↑48) (m3 G_mark_side hr ↑4 rfl j4 ↑48) ↑43) i4 i4))),?_⟩;refine⟨_,rfl,m,rfl,_,rfl,m,rfl,rfl,_,rfl,b2p (λc=>?_) (λc=>?_)⟩
  ·have e:tbI m=1:=by
    unfold tbI;rw[if_neg];intro e;rw[e] at c;simp at c
   rw[e] at h;exact h
  ·have e:tbI m=0:=by
    unfold tbI;rw[if_pos]
    simpa using c
   rw[e] at h;exact h
def b4b(cl:Cl)(ns:List Int)(H:Hp)(E:XK)(k:Prop):Prop:=if 2<=(ns.length:Int)/\(ns.length:Int)<=8 then (if a2u ns=true then k else False) else False
theorem c0s{cl:Cl}{ns:List Int}{H:Hp}{E:XK}{k k':Prop}(h:b4b cl ns H E k)(i:2<=ns.length->ns.length<=8->a2u ns=true->k->k'):b4b cl ns H E k':=by
 unfold b4b at h ⊢;by_cases a:2<=(ns.length:Int)/\(ns.length:Int)<=8
 ·rw[if_pos a] at h ⊢
  by_cases b:a2u ns=true
  ·rw[if_pos b] at h ⊢;exact i ↑2 ↑2 b h
  ·rw[if_neg b] at h ⊢;exact h
 ·rw[if_neg a] at h ⊢;exact h
theorem c6i{cl:Cl}{ns:List Int}{H:Hp}{E:XK}{k:Prop}(h2:2<=ns.length)(h8:ns.length<=8)(hm:a2u ns=true)(h:k):b4b cl ns H E k:=by
 unfold b4b;rw[if_pos ↑109,if_pos hm];exact h
def a5u(K:↑29)(cl:Cl):Sp:=λvs H Q E=>E2 λa ns=>vs=[.ref a]/\SqL K H a ↑81/\b4b cl ns H E (Q .non H)
abbrev a7k:Stmt:=top 48
theorem b0r:i8 ["marks","mark"] ["marks"] (g9 a7k):=↑1
theorem b9v(D:DefT K mg "check_marks" a7k ["marks"])(T:↑14)(G_check_size:↑70)(G_check_mark:↑901 "check_mark" 1 ["mark"] (b2w cl)):↑901 "check_marks" 2 ["marks"] (a5u K cl):=by
 refine D.fn b0r ↑8 ↑7
 ·obtain⟨a,ns,rfl,hS,h⟩:=h
  refine⟨_,(d6 (j9 (m3 G_check_size hr ↑4 rfl j4 (d5 ↑32 i9)))
   (d7 (b8l a5o rfl (a2r (K:=K) (pv 0)) (a1b (i:=1) b0r.nd rfl ↑22)
    (d7 (j9 (m3 G_check_mark hr ↑4 rfl j4 ↑47)))))),?_⟩
  unfold b4b at h;refine⟨_,rfl,a,_,rfl,.inl hS,_,rfl,?_⟩;rw[List.length_map];refine b2p (λc=>?_) (λc=>?_)
  ·rw[if_pos c] at h
   refine⟨_,rfl,a,rfl,⟨_,hS⟩,c3o (xs:=ns.map V.int) (λi σ H'=>∃x,σ=[some (.ref a),x]/\H'=H/\∀(j:Nat)(y:Int),j<i->(ns.map V.int)[j]?=some (.int y)->0<=y/\y<=3) ⟨_,rfl,rfl,λj y hj=>absurd hj (Nat.not_lt_zero _)⟩ ?_ ?_ ?_⟩
   ·rintro i σ H' _ ⟨x,rfl,rfl,_⟩
    exact hS
   ·rintro i x σ H' hx ⟨y,rfl,rfl,hb⟩
    obtain⟨v,rfl⟩:=c3l hx;refine⟨_,rfl,v,rfl,b2p (λd=>?_) (λd=>?_)⟩
    ·refine⟨_,rfl,rfl,λj y hj e=>?_⟩
     by_cases hji:j<i
     ·exact hb j y hji e
     ·have:j=i:=by lia
      subst this;rw[hx] at e;cases e;exact d
    ·rw[if_neg (by rw[d7d hx d];decide)] at h
     exact h
   ·rintro σ H' ⟨x,rfl,rfl,hb⟩
    rw[if_pos (d1t λi x e=>hb i x (List.getElem?_eq_some_iff.mp e).1 e)] at h;exact h
  ·rw[if_neg c] at h
   exact h
theorem c6n{ns row:List Int}{H1:Hp}{E:XK}{k:Nat->Hp->Prop}(hl:row.length=ns.length)(h2:2<=ns.length)(h8:ns.length<=8)(hb:b0t row=true)(hs:∀f H',Same H1 H'->a5s (toB row)=some f->k f H')(hn:∀H',Same H1 H'->a5s (toB row)=none->False):d0h cl row H1 E k:=by
 unfold d0h;rw[if_pos ↑109,if_pos hb];intro H' s;cases e:a5s (toB row) with
 | none=>exact hn H' s e
 | some f=>exact hs f H' s e
def d9l(cl:Cl)(row:List Int)(H:Hp)(E:XK)(k:Nat->Hp->Prop):Prop:=(∀f H',Same H H'->a5s (toB row)=some f->k f H')/\∀H',Same H H'->a5s (toB row)=none->False
def b2u(K:↑29)(cl:Cl):Sp:=λvs H Q E=>E2 λa ns=>vs=[.ref a]/\SqL K H a ↑81/\(∃o,H a=some o)/\b4b cl ns H E (d9l cl (ns.map d7i) H E λf H'=>Q (.int (f:Nat)) H')
def b2s(K:↑29)(cl:Cl):Sp:=λvs H Q E=>E2 λa ns=>vs=[.ref a]/\SqL K H a ↑81/\(∃o,H a=some o)/\b4b cl ns H E (d9l cl (ns.map tbI) H E λf H'=>Q (.int (f:Nat)) H')
def onI(f:Int->Int):V->V
 | .int m=>.int (f m)
 | v=>v
theorem d4d(f:Int->Int)(ns:List Int):(ns.map V.int).map (onI f)=(ns.map f).map V.int:=by rw[List.map_map,List.map_map];rfl
abbrev a8q:Stmt:=top 52
theorem c1n:i8 ["marks"] ["marks"] (g9 a8q):=↑1
theorem c2m(D:DefT K mg "giver_turn" a8q ["marks"])(T:↑14)(G_check_marks:↑901 "check_marks" 2 ["marks"] (a5u K cl))(G_mark_lap:↑901 "mark_lap" 1 ["mark"] b0w)(G_front:↑901 "front" 4 ["bits"] (c1g K cl)):↑901 "giver_turn" 5 ["marks"] (b2u K cl):=by
 refine D.fn c1n ↑8 ↑7
 ·obtain⟨a,ns,rfl,hS,ha,h⟩:=h
  refine⟨_,(d6 (j9 (m3 G_check_marks hr ↑4 rfl j4 ↑48))
   (d7 (m8 (m3 G_front hr ↑4 rfl j4 (d5 (a9h (N:=["mark"]) (nt:=1) (fr:=[]) rfl ↑38 (a2r (K:=K) (pv 0)) (a6d ↑4) (λ_ _ _ _ _=>a1b (i:=0) (show(["mark"]:List Str).Nodup by decide +kernel) rfl (Or.inl rfl) (Or.inr rfl)) (λ_ _ _ _ _=>(m3 G_mark_lap hr ↑4 rfl d3n ↑48))) i9))))),?_⟩
  refine⟨_,rfl,a,ns,rfl,hS,c0s h λh2 h8 hm q=>?_⟩;refine⟨_,rfl,a,rfl,⟨_,hS⟩,c6t (xs:=ns.map V.int) (f:=onI d7i) hS (by rw[List.length_map];have:=c0x;lia) ha ?_ ?_⟩
  ·intro i x H' kk hx _ q
   obtain⟨v,rfl⟩:=c3l hx;exact⟨_,rfl,v,rfl,q⟩
  ·intro c hc
   rw[d4d];exact⟨c,ns.map d7i,rfl,SqL.of d9,c6n (ns:=ns) (List.length_map _) h2 h8 (e1b hm) (λf H' s e=>q.1 f H' ((j1 hc).trans s) e) (λH' s e=>q.2 H' ((j1 hc).trans s) e)⟩
abbrev a8n:Stmt:=top 53
theorem c1k:i8 ["marks"] ["marks"] (g9 a8n):=↑1
theorem c2j(D:DefT K mg "taker_turn" a8n ["marks"])(T:↑14)(G_check_marks:↑901 "check_marks" 2 ["marks"] (a5u K cl))(G_taker_bit:↑901 "taker_bit" 2 ["mark"] b5q)(G_front:↑901 "front" 4 ["bits"] (c1g K cl)):↑901 "taker_turn" 5 ["marks"] (b2s K cl):=by
 refine D.fn c1k ↑8 ↑7
 ·obtain⟨a,ns,rfl,hS,ha,h⟩:=h
  refine⟨_,(d6 (j9 (m3 G_check_marks hr ↑4 rfl j4 ↑48))
   (d7 (m8 (m3 G_front hr ↑4 rfl j4 (d5 (a9h (N:=["mark"]) (nt:=1) (fr:=[]) rfl ↑38 (a2r (K:=K) (pv 0)) (a6d ↑4) (λ_ _ _ _ _=>a1b (i:=0) (show(["mark"]:List Str).Nodup by decide +kernel) rfl (Or.inl rfl) (Or.inr rfl)) (λ_ _ _ _ _=>(m3 G_taker_bit hr ↑4 rfl d3n ↑48))) i9))))),?_⟩
  refine⟨_,rfl,a,ns,rfl,hS,c0s h λh2 h8 hm q=>?_⟩;refine⟨_,rfl,a,rfl,⟨_,hS⟩,c6t (xs:=ns.map V.int) (f:=onI tbI) hS (by rw[List.length_map];have:=c0x;lia) ha ?_ ?_⟩
  ·intro i x H' kk hx _ q
   obtain⟨v,rfl⟩:=c3l hx;exact⟨_,rfl,v,rfl,q⟩
  ·intro c hc
   rw[d4d];exact⟨c,ns.map tbI,rfl,SqL.of d9,c6n (ns:=ns) (List.length_map _) h2 h8 (d6k ns) (λf H' s e=>q.1 f H' ((j1 hc).trans s) e) (λH' s e=>q.2 H' ((j1 hc).trans s) e)⟩
theorem But.nw{w:Addr}{H0 H:Hp}{p:Addr}{o:HO}(s:But w H0 H)(n:H p=none):But w H0 (L2.upd H p o):=s.trans (But.of (j1 n))
theorem But.free{w p:Addr}{H0 H:Hp}(s:But w H0 H)(hw:Well H w)(n:H p=none):H0 p=none:=by
 cases e:H0 p with
 | none=>rfl
 | some o=>
  have:=s p o e (hw.ne n);rw[n] at this;cases this
theorem _root_.L2.Same.set{H H':Hp}{p:Addr}{o:HO}(s:Same H H')(n:H p=none):Same H (upd H' p o):=λb u e=>by rw[d8 (k8 e n)];exact s b u e
theorem e4i{l j:Nat}(h:j<l):ixN l (j:Int)=some j:=by
 unfold ixN;rw[if_pos ↑2,if_pos ↑2];exact congrArg some ↑2
def Kp(ps:List Addr)(H H':Hp):Prop:=∀c o,H c=some o->c ∉ ps->H' c=some o
theorem Kp.trans{ps:List Addr}{H H1 H2:Hp}(a:Kp ps H H1)(b:Kp ps H1 H2):Kp ps H H2:=λc o e n=>b c o (a c o e n) n
theorem Kp.mono{ps qs:List Addr}{H H1:Hp}(a:Kp ps H H1)(h:∀c∈ps,c∈qs):Kp qs H H1:=λc o e n=>a c o e λz=>n (h c z)
theorem Kp.of{ps:List Addr}{H H1:Hp}(a:Same H H1):Kp ps H H1:=λc o e _=>a c o e
theorem Kp.upd{ps:List Addr}{H:Hp}{p:Addr}{o:HO}(h:p∈ps):Kp ps H (L2.upd H p o):=λc u e n=>by rw[d8 λz:c=p=>n (by rw[z];exact h)];exact e
noncomputable def a9l(n:Nat):List Int:=(List.replicate n [2,-1,0,0]).flatten++[-1,-1,0,0]
theorem c0q(n:Nat):(a9l n).length=4*n+4:=by
 unfold a9l;rw[List.length_append,c8v];show n*4+4=_;lia
theorem e0g(n:Nat)(ns:List Int):(List.replicate n ↑81).flatten=((List.replicate n ns).flatten).map V.int:=by
 induction n with
 | zero=>rfl
 | succ n ih=>rw[List.replicate_succ,List.replicate_succ,List.flatten_cons,List.flatten_cons,List.map_append,ih]
noncomputable def Brd(cl:Cl)(H:Hp)(b l:Addr)(n:Nat)(row:List Int)(many:Int)(last:V):Prop :=
 (∃dx,H b=some (.ins cl.Board dx [("size",.int n),("numbers",.ref l),("many_touches",.int many),("newest_touch",last)]))/\H l=some (.lst (row.map V.int))/\row.length=4*n+4/\2<=n/\n<=8
theorem Brd.keep{cl:Cl}{H H':Hp}{b l:Addr}{n:Nat}{row:List Int}{many:Int}{last:V}{ps:List Addr}(h:Brd cl H b l n row many last)(k:Kp ps H H')(hb:b ∉ ps)(hl:l ∉ ps):Brd cl H' b l n row many last:=by
 obtain⟨⟨dx,e⟩,e',z⟩:=h;exact⟨⟨dx,k _ _ e hb⟩,k _ _ e' hl,z⟩
def a4g(cl:Cl):Sp:=λvs H Q E=>∃h:Str,vs=[.str h]/\(if h="giver"\/h="taker" then Q .non H else False)
def a0b(d:Int):Sp:=λvs H Q _=>∃p,vs=[.int p]/\Q (.int (4*p+d)) H
def c9h(cl:Cl)(n:Int)(h:Str)(H:Hp)(E:XK)(k:Prop):Prop:=if 2<=n/\n<=8 then (if h="giver"\/h="taker" then k else False) else False
def d1z(h:Str):Int:=if h="giver" then 0 else 1
def a5d(cl:Cl):Sp:=λvs H Q E=>E2 λ(n:Int)(h:Str)=>vs=[.int n,.str h]/\c9h cl n h H E (Q (.int (4*n+d1z h)) H)
def a5e(cl:Cl):Sp:=λvs H Q E=>E2 λ(n:Int)(h:Str)=>vs=[.int n,.str h]/\c9h cl n h H E (Q (.int (4*n+d1z h+2)) H)
def b5r:Sp:=λvs H Q _=>∃n:Nat,vs=[.int n]/\n<=8/\∀l H',H l=none->Same H H'->H' l=some (.lst ((a9l n).map V.int))->Q (.ref l) H'
theorem a9p(x y:Str):eqV (.str x) (.str y)=decide (x=y):=by
 first
  | rfl
  | (unfold eqV;simp)
abbrev a8u:Stmt:=top 37
theorem c1s:i8 ["hand"] ["hand"] (g9 a8u):=↑1
theorem c2q(D:DefT K mg "check_hand" a8u ["hand"])(T:↑14):↑901 "check_hand" 1 ["hand"] (a4g cl):=by
 refine D.fn c1s ↑8 ↑7
 ·obtain⟨n,rfl,h⟩:=h
  refine⟨_,(d7 (x0 (l7 (c5c (K:=K)) (pv 0) (a7q T.r_HANDS rfl) ↑58)
    (d7 a5n)
    v6)),?_⟩
  fail "";refine⟨_,_,rfl,.inr T.kt_HANDS.sq,rfl,rfl,?_⟩;fail "";have e:inV (.str n) [.str "giver",.str "taker"]=decide (n="giver"\/n="taker"):=by
   unfold inV;simp only[List.any_cons,List.any_nil,a9p,Bool.or_false];rw[Bool.eq_iff_iff];simp only[Bool.or_eq_true,decide_eq_true_eq];exact or_congr eq_comm eq_comm
  simp only[if_true,e];refine d8y (λc=>?_) (λc=>?_)
  ·rw[if_neg c] at h
   fail "av"
  ·rw[if_pos c] at h
   fail "av"
abbrev b1k:Stmt:=top 38
theorem c4i:i8 ["place"] ["place"] (g9 b1k):=↑1
theorem c5k(D:DefT K mg "mark_cell" b1k ["place"])(T:↑14):↑901 "mark_cell" 1 ["place"] (a0b 0):=by
 refine D.fn c4i ↑8 ↑7
 ·obtain⟨n,rfl,h⟩:=h
  refine⟨_,(d7 (m8 ↑73)),?_⟩;fail "";rw[Int.add_zero] at h;exact h
abbrev a7g:Stmt:=top 39
theorem b9k:i8 ["place"] ["place"] (g9 a7g):=↑1
theorem b9s(D:DefT K mg "number_cell" a7g ["place"])(T:↑14):↑901 "number_cell" 1 ["place"] (a0b 1):=by
 refine D.fn b9k ↑8 ↑7
 ·obtain⟨n,rfl,h⟩:=h
  refine⟨_,(d7 (m8 (k7 v3 ↑73 i4))),?_⟩;fail "av"
abbrev b1l:Stmt:=top 40
theorem c4j:i8 ["place"] ["place"] (g9 b1l):=↑1
theorem c5l(D:DefT K mg "left_cell" b1l ["place"])(T:↑14):↑901 "left_cell" 1 ["place"] (a0b 2):=by
 refine D.fn c4j ↑8 ↑7
 ·obtain⟨n,rfl,h⟩:=h
  refine⟨_,(d7 (m8 (k7 v3 ↑73 i4))),?_⟩;fail "av"
abbrev a8m:Stmt:=top 41
theorem c1j:i8 ["place"] ["place"] (g9 a8m):=↑1
theorem c2i(D:DefT K mg "thing_cell" a8m ["place"])(T:↑14):↑901 "thing_cell" 1 ["place"] (a0b 3):=by
 refine D.fn c1j ↑8 ↑7
 ·obtain⟨n,rfl,h⟩:=h
  refine⟨_,(d7 (m8 (k7 v3 ↑73 i4))),?_⟩;fail "av"
abbrev b1w:Stmt:=top 42
theorem c4n:i8 ["size","hand"] ["size","hand"] (g9 b1w):=↑1
theorem c5x(D:DefT K mg "card_cell" b1w ["size","hand"])(T:↑14)(G_check_size:↑70)(G_check_hand:↑901 "check_hand" 1 ["hand"] (a4g cl)):↑901 "card_cell" 2 ["size","hand"] (a5d cl):=by
 refine D.fn c4n ↑8 ↑7
 ·obtain⟨n,x,rfl,h⟩:=h
  refine⟨_,(d6 (j9 (m3 G_check_size hr ↑4 rfl j4 ↑48))
   (d6 (j9 (m3 G_check_hand hr ↑4 rfl j4 ↑47))
   (d7 (m8 (k7 v3 ↑73 (d1h (K:=K) (a7q T.r_HANDS rfl) ↑47)))))),?_⟩
  unfold c9h at h;fail "";refine⟨n,rfl,b2p (λa=>?_) (λa=>?_)⟩
  ·rw[if_pos a] at h
   fail "";refine⟨x,rfl,b2p (λb=>?_) (λb=>?_)⟩
   ·rw[if_pos b] at h
    fail "";refine⟨T.kt_HANDS.ty,?_⟩;fail "";refine⟨_,_,_,_,rfl,rfl,T.kt_HANDS,rfl,rfl,rfl,?_,?_⟩
    ·rw[a9p,a9p,decide_eq_true_eq,decide_eq_true_eq]
     exact b.imp Eq.symm Eq.symm
    ·fail ""
     have e:(if eqV (.str "giver") (.str x)=true then (0:Int) else 1)=d1z x:=by
      unfold d1z;rw[a9p];simp only[decide_eq_true_eq];by_cases c:x="giver"
      ·rw[if_pos c,if_pos c.symm]
      ·rw[if_neg c,if_neg λz=>c z.symm]
     rw[e];exact h
   ·rw[if_neg b] at h
    exact h
  ·rw[if_neg a] at h
   exact h
abbrev b1x:Stmt:=top 43
theorem c4o:i8 ["size","hand"] ["size","hand"] (g9 b1x):=↑1
theorem c5y(D:DefT K mg "bell_cell" b1x ["size","hand"])(T:↑14)(G_card_cell:↑901 "card_cell" 2 ["size","hand"] (a5d cl)):↑901 "bell_cell" 3 ["size","hand"] (a5e cl):=by
 refine D.fn c4o ↑8 ↑7
 ·obtain⟨n,x,rfl,h⟩:=h
  refine⟨_,(d7 (m8 (k7 v3 (m3 G_card_cell hr ↑4 rfl j4 (d5 (pv 0) ↑47)) (v7 ↑42 (by rfl) T.z_len PySem.boot_len (d5 (a7q T.r_HANDS rfl) i9))))),?_⟩
  unfold c9h at h;fail "";refine⟨n,x,rfl,?_⟩;unfold c9h;refine b2p (λa=>b2p (λb=>?_) (λb=>?_)) (λa=>?_)
  ·rw[if_pos a,if_pos b] at h
   fail "";refine⟨_,_,rfl,.inr T.kt_HANDS.sq,?_⟩;fail "av"
  ·rw[if_pos a,if_neg b] at h
   exact h
  ·rw[if_neg a] at h
   exact h
abbrev b1h:Stmt:=top 44
theorem c4f:i8 ["size"] ["size"] (g9 b1h):=↑1
theorem c5h(D:DefT K mg "new_cells" b1h ["size"])(T:↑14):↑901 "new_cells" 1 ["size"] b5r:=by
 refine D.fn c4f ↑8 ↑7
 ·obtain⟨n,rfl,h8,k⟩:=h
  refine⟨_,(d7 (m8 (k7 c5e (k7 c0o (v5 (d5 (a0k T.m_NEW_MARK rfl) (d5 (a0k T.m_NO_ORDER rfl) (d5 i4 ↑25)))) (pv 0)) (v5 (d5 (a0k T.m_NO_TURN rfl) (d5 (a0k T.m_NO_TURN rfl) (d5 (a0k T.m_STILL rfl) (d5 (a0k T.m_STILL rfl) i9)))))))),?_⟩;have h20:2000<=sizeLine:=by decide
  fail "";refine⟨by show 4<=sizeLine;lia,λp1 h1=>?_⟩
  fail "";refine⟨p1,n,_,rfl,rfl,d9,by lia,by lia,by show 4*(n:Int).toNat<=sizeLine;lia,λp2 h2=>?_⟩
  fail "";refine⟨by show 4<=sizeLine;lia,λp3 h3=>?_⟩
  refine d4y (j1 h3 _ _ d9) d9 ?_ (λp4 h4=>?_)
  ·rw[c8v]
   show(n:Int).toNat*4+4<=sizeLine;lia
  refine k p4 _ ((((j1 h1).trans (j1 h2)).trans (j1 h3)).free h4) ((((j1 h1).trans (j1 h2)).trans (j1 h3)).trans (j1 h4)) ?_;rw[d9];unfold a9l;rw[List.map_append,show((n:Int)).toNat=n by lia]
  rw[<- e0g n [2,-1,0,0]]
  rfl
inductive ExB(R:Addr->Addr->Nat->List Int->Int->V->Prop):Prop
 | mk (b l:Addr) (n:Nat) (row:List Int) (many:Int) (last:V) (h:R b l n row many last):ExB R
def b3e(cl:Cl):Sp:=λvs H Q E=>E3 λ(x dx:Addr)(n:Int)=>vs=[.ref x,.int n]/\H x=some (.ins cl.Board dx []) /\
 (if 2<=n/\n<=8 then ∀l H',H l=none->Kp [x] H H'->Brd cl H' x l n.toNat (a9l n.toNat) 0 .non->Q .non H' else False)
def a1w(cl:Cl):Sp:=λvs H Q E=>ExB λb l n row many last=>∃(c:Int),vs=[.ref b,.int c]/\Brd cl H b l n row many last/\(if 0<=c/\c<row.length then Q .non H else False)
def a1u(cl:Cl):Sp:=λvs H Q _=>ExB λb l n row many last=>E3 λ(d:Str)(c x:Int)=>vs=[.ref b,.str d,.int c,.int x]/\Brd cl H b l n row many last /\
 ∀t H',H t=none->Kp [b] H H'->H' t=some (.tup [.str d,.int c,.int x])->Brd cl H' b l n row (many+1) (.ref t)->Q .non H'
def b3d(cl:Cl):Sp:=λvs H Q E=>ExB λb l n row many last=>∃(c:Int),vs=[.ref b,.int c]/\Brd cl H b l n row many last /\
 (if 0<=c/\c<row.length then ∀t H',H t=none->Kp [b] H H'->H' t=some (.tup [.str "read",.int c,.int (row.getD c.toNat 0)])->Brd cl H' b l n row (many+1) (.ref t)->Q (.int (row.getD c.toNat 0)) H' else False)
def b0p(cl:Cl):Sp:=λvs H Q E=>ExB λb l n row many last=>E2 λ(c x:Int)=>vs=[.ref b,.int c,.int x]/\Brd cl H b l n row many last /\
 (if 0<=c/\c<row.length then ∀t H',H t=none->Kp [b,l] H H'->H' t=some (.tup [.str "write",.int c,.int x])->Brd cl H' b l n (row.set c.toNat x) (many+1) (.ref t)->Q .non H' else False)
def a5k(cl:Cl):Sp:=λvs H Q _=>ExB λb l n row many last=>vs=[.ref b]/\Brd cl H b l n row many last/\∀p,H p=none->Q (.ref p) (upd H p (.lst (row.map V.int)))
def a1v(cl:Cl):Sp:=λvs H Q _=>ExB λb l n row many last=>vs=[.ref b]/\Brd cl H b l n row many last/\Q last H
theorem c7d{row:List Int}{c:Int}(h0:0<=c)(h1:c<row.length):atI (row.map V.int) c=some (.int (row.getD c.toNat 0)):=by
 have hn:c.toNat<row.length:=by lia
 have e:=b5o hn;rw[show((c.toNat:Nat):Int)=c by lia] at e
 rw[e,List.getD_eq_getElem?_getD,List.getElem?_eq_getElem hn]
 rfl
theorem d8u{l:Nat}{c:Int}(h0:0<=c)(h1:c<l):ixN l c=some c.toNat:=by
 unfold ixN;rw[if_pos h0,if_pos h1]
noncomputable abbrev a9f:Stmt:=o9 (top 45) 0
theorem c2b:i8 ["self","size"] ["self","size"] (g9 a9f):=↑1
theorem c3c(D:DefM K cl.Board "__init__" "Board.__init__" a9f ["self","size"])(T:↑14)(G_check_size:↑70)(G_new_cells:↑901 "new_cells" 1 ["size"] b5r):↑904 cl.Board "__init__" 2 ["self","size"] (b3e cl):=by
 refine D.fn c2b ↑8 ↑7
 ·obtain⟨x,dx,n,rfl,ex,h⟩:=h
  refine⟨_,(d6 (j9 (m3 G_check_size hr ↑4 rfl j4 ↑47))
   (d6 (o8 (K:=K) (pv 0) (pv 1))
   (d6 (o8 (K:=K) (pv 0) (m3 G_new_cells hr ↑4 rfl j4 ↑47))
   (d6 (o8 (K:=K) (pv 0) i4)
   (d7 (o8 (K:=K) (pv 0) b3q)))))),?_⟩
  fail "";refine⟨n,rfl,b2p (λa=>?_) (λa=>?_)⟩
  ·rw[if_pos a] at h
   fail "";refine⟨n.toNat,by rw[show((n.toNat:Nat):Int)=n by lia],by lia,λl H1 hl s1 e1=>?_⟩
   have nx:l≠x:=by
    rintro rfl;rw[d9] at hl;cases hl
   have ex1:=s1 _ _ d9;fail "";have el:H l=none:=by rw[d8 nx] at hl;exact hl
   refine h l _ el ?_ ⟨⟨dx,?_⟩,?_,c0q _,by lia,by lia⟩
   ·intro c o e n
    have nc:c≠x:=λz=>n (by simp[z])
    rw[d8 nc,d8 nc,d8 nc];exact s1 _ _ (by rw[d8 nc];exact e)
   ·rw[d9,show((n.toNat:Nat):Int)=n by lia]
    rfl
   ·rw[d8 nx,d8 nx,d8 nx]
    exact e1
  ·rw[if_neg a] at h
   exact h
noncomputable abbrev a2q:Stmt:=o9 (top 45) 1
theorem b1e:i8 ["self","cell"] ["self","cell"] (g9 a2q):=↑1
theorem b2n(D:DefM K cl.Board "check_cell" "Board.check_cell" a2q ["self","cell"])(T:↑14):↑904 cl.Board "check_cell" 1 ["self","cell"] (a1w cl):=by
 refine D.fn b1e ↑8 ↑7
 ·obtain⟨b,l,n,row,many,last,c,rfl,⟨⟨dx,eb⟩,el,hl,n2,n8⟩,h⟩:=h
  refine⟨_,(d7 (x0 (PW.pt (c4x (l7 b5h (pv 1) i4 ↑43) (b8j (l7 d3s (pv 1) (v7 ↑42 (by rfl) T.z_len PySem.boot_len (d5 (a4x (K:=K) (pv 0)) i9)) ↑43))))
    (d7 a5n)
    v6)),?_⟩
  fail "";refine a4j (λa=>?_) (λa=>?_)
  ·rw[if_neg ↑2] at h
   fail "av"
  ·fail ""
   rw[List.length_map];refine a4j (λd=>?_) (λd=>?_)
   ·rw[if_neg ↑2] at h
    fail "av"
   ·rw[if_pos ↑2] at h
    fail "av"
noncomputable abbrev a2o:Stmt:=o9 (top 45) 2
theorem b1c:i8 ["self","deed","cell","value"] ["self","deed","cell","value"] (g9 a2o):=↑1
theorem b2l(D:DefM K cl.Board "note_touch" "Board.note_touch" a2o ["self","deed","cell","value"])(T:↑14):↑904 cl.Board "note_touch" 1 ["self","deed","cell","value"] (a1u cl):=by
 refine D.fn b1c ↑8 ↑7
 ·obtain⟨b,l,n,row,many,last,d,c,x,rfl,⟨⟨dx,eb⟩,el,hl,n2,n8⟩,h⟩:=h
  refine⟨_,(d6 (d1f (K:=K) (pv 0) i4 e4l)
   (d7 (o8 (K:=K) (pv 0) (a2x (d5 (pv 1) (d5 (pv 2) (d5 (pv 3) i9))))))),?_⟩
  have nbl:l≠b:=(e1a eb el (by intro z;cases z)).symm
  fail "";refine⟨by show 3<=sizeLine;decide,λt ht=>?_⟩
  have nt:t≠b:=by
   rintro rfl;rw[d9] at ht;cases ht
  have et:H t=none:=by rw[d8 nt] at ht;exact ht
  fail "";refine h t _ et ?_ ?_ ⟨⟨dx,d9⟩,?_,hl,n2,n8⟩
  ·intro c o e n
   have nc:c≠b:=λz=>n (by simp[z])
   rw[d8 nc,d8 (k8 e et),d8 nc];exact e
  ·rw[d8 nt,d9]
  ·rw[d8 nbl,d8 (k8 el et),d8 nbl]
   exact el
noncomputable abbrev a9e:Stmt:=o9 (top 45) 3
theorem c2a:i8 ["self","cell"] ["self","cell"] (g9 a9e):=↑1
theorem c3b(D:DefM K cl.Board "read" "Board.read" a9e ["self","cell"])(T:↑14)(G_Board_check_cell:↑904 cl.Board "check_cell" 1 ["self","cell"] (a1w cl))(G_Board_note_touch:↑904 cl.Board "note_touch" 1 ["self","deed","cell","value"] (a1u cl)):↑904 cl.Board "read" 2 ["self","cell"] (b3d cl):=by
 refine D.fn c2a ↑8 ↑7
 ·obtain⟨b,l,n,row,many,last,c,rfl,hB,h⟩:=h
  refine⟨_,(d6 (j9 (a2s (pv 0) T.k_Board G_Board_check_cell hr ↑4 j4 ↑47))
   (d6 (j9 (a2s (pv 0) T.k_Board G_Board_note_touch hr ↑4 j4 (d5 m4 (d5 (pv 1) (d5 (a0c ↑19 (a4x (K:=K) (pv 0)) (pv 1) ↑11) i9)))))
   (d7 (m8 (a0c ↑19 (a4x (K:=K) (pv 0)) (pv 1) ↑11))))),?_⟩
  have hB':=hB;obtain⟨⟨dx,eb⟩,el,hl,n2,n8⟩:=hB';fail "";refine⟨b,l,n,row,many,last,c,rfl,hB,b2p (λa=>?_) (λa=>?_)⟩
  ·rw[if_pos a] at h
   fail "";refine a1c el (c7d a.1 a.2) ?_;fail "";refine⟨b,l,n,row,many,last,_,c,_,rfl,hB,λt H' ht k et hB1=>?_⟩;obtain⟨⟨dx1,eb1⟩,el1,_⟩:=id hB1;fail "";exact a1c el1 (c7d a.1 a.2) (h t H' ht k et hB1)
  ·rw[if_neg a] at h
   exact h
noncomputable abbrev a7p:Stmt:=o9 (top 45) 4
theorem b9n:i8 ["self","cell","number"] ["self","cell","number"] (g9 a7p):=↑1
theorem c0a(D:DefM K cl.Board "write" "Board.write" a7p ["self","cell","number"])(T:↑14)(G_Board_check_cell:↑904 cl.Board "check_cell" 1 ["self","cell"] (a1w cl))(G_Board_note_touch:↑904 cl.Board "note_touch" 1 ["self","deed","cell","value"] (a1u cl)):↑904 cl.Board "write" 2 ["self","cell","number"] (b0p cl):=by
 refine D.fn b9n ↑8 ↑7
 ·obtain⟨b,l,n,row,many,last,c,x,rfl,hB,h⟩:=h
  refine⟨_,(d6 (j9 (a2s (pv 0) T.k_Board G_Board_check_cell hr ↑4 j4 ↑47))
   (d6 (c0l (pv 2) (c5a (a4x (K:=K) (pv 0)) (pv 1) b3f))
   (d7 (j9 (a2s (pv 0) T.k_Board G_Board_note_touch hr ↑4 j4 (d5 m4 (d5 (pv 1) (d5 (pv 2) i9)))))))),?_⟩
  have hB':=hB;obtain⟨⟨dx,eb⟩,el,hl,n2,n8⟩:=hB';have nbl:b≠l:=e1a eb el (by intro z;cases z)
  fail "";refine⟨b,l,n,row,many,last,c,rfl,hB,b2p (λa=>?_) (λa=>?_)⟩
  ·rw[if_pos a] at h
   fail "";refine d4t el (by rw[List.length_map];exact d8u a.1 a.2) ?_
   fail "";refine⟨b,l,n,row.set c.toNat x,many,last,_,c,x,rfl,⟨⟨dx,?_⟩,?_,?_,n2,n8⟩,λt H' ht k et hB1=>?_⟩
   ·rw[d8 nbl];exact eb
   ·rw[d9,List.map_set]
   ·rw[List.length_set];exact hl
   ·fail ""
    refine h t H' ?_ ?_ et hB1
    ·rw[d8] at ht
     ·exact ht
     ·rintro rfl
      rw[d9] at ht;cases ht
    ·exact(Kp.upd (by simp)).trans (k.mono (by simp))
  ·rw[if_neg a] at h
   exact h
noncomputable abbrev a3j:Stmt:=o9 (top 45) 6
theorem b3o:i8 ["self"] ["self"] (g9 a3j):=↑1
theorem b3z(D:DefM K cl.Board "all_cells" "Board.all_cells" a3j ["self"])(T:↑14):↑904 cl.Board "all_cells" 1 ["self"] (a5k cl):=by
 refine D.fn b3o ↑8 ↑7
 ·obtain⟨b,l,n,row,many,last,rfl,⟨⟨dx,eb⟩,el,hl,n2,n8⟩,h⟩:=h
  refine⟨_,(d7 (m8 (v2 (a4l (K:=K)) (by rfl) T.z_list PyProof.Rows.boot_list (d5 (a4x (K:=K) (pv 0)) i9)))),?_⟩
  fail "av"
noncomputable abbrev a9d:Stmt:=o9 (top 45) 7
noncomputable abbrev a2p:Stmt:=o9 (top 45) 8
theorem b1d:i8 ["self"] ["self"] (g9 a2p):=↑1
theorem b2m(D:DefM K cl.Board "last_touch" "Board.last_touch" a2p ["self"])(T:↑14):↑904 cl.Board "last_touch" 1 ["self"] (a1v cl):=by
 refine D.fn b1d ↑8 ↑7
 ·obtain⟨b,l,n,row,many,last,rfl,⟨⟨dx,eb⟩,el,hl,n2,n8⟩,h⟩:=h
  refine⟨_,(d7 (m8 (a4x (K:=K) (pv 0)))),?_⟩;fail "av"
theorem d6d:(0:Int)<10 ^ 59/\(10:Int) ^ 59<2 ^ 200-1/\(5:Int)*10 ^ 58+5*10 ^ 58=10 ^ 59/\(8:Int)<5*10 ^ 58:=by decide
def d8m(x:Int):Prop:=-(5*10 ^ 58)<=x/\x<=5*10 ^ 58
def b5w:Sp:=λvs H Q _=>E2 λ(w:Addr)(n:Int)=>vs=[.ref w,.int n]/\Well H w/\1<=n/\n<=8/\∀(p:Addr)(H':Hp)(row:List Int),H p=none->H' p=some (.lst (row.map V.int))->1<=row.length->(row.length:Int)<=n->(∀x∈row,d8m x)->Well H' w->But w H H'->Q (.ref p) H'
abbrev b1q:Stmt:=top 107
theorem a3r:i8 ["well","size","way","order","k","far"] ["well","size"] (g9 b1q):=↑1
theorem c5q(D:DefT K mg "_law_order" b1q ["well","size"])(T:↑14)(G_law_take:↑901 "_law_take" 1 ["well","many"] a6u):↑901 "_law_order" 2 ["well","size"] b5w:=by
 refine D.fn a3r ↑8 ↑7
 ·obtain⟨w,n,rfl,hw,n1,n8,k⟩:=h
  refine⟨_,(d6 (l9 (i:=2) a3r.nd rfl ↑22 (m3 G_law_take hr ↑4 rfl j4 (d5 (pv 0) ↑25)))
   (d6 (l9 (i:=3) a3r.nd rfl ↑22 (v5 i9))
   (d6 (b8l a5o rfl (b3p rfl T.z_range (d5 (a0c ↑19 (v5 (d5 i4 (d5 (pv 1) (d5 (k7 v3 i4 (m3 G_law_take hr ↑4 rfl j4 (d5 (pv 0) ↑47))) i9)))) (pv 2) ↑11) i9)) (a1b (i:=4) a3r.nd rfl ↑22)
     (
     d6 (l9 (i:=5) a3r.nd rfl ↑22 (k7 a2g (m3 G_law_take hr ↑4 rfl j4 (d5 (pv 0) (d5 (k7 d3o i4 i4) i9))) (k7 a0p i4 (k7 d3o i4 i4))))
     (d7 (j9 (z9 (K:=K) (pv 3) (d5 (a0c ↑19 (v5 (d5 (k7 a2g (m3 G_law_take hr ↑4 rfl j4 (d5 (pv 0) ↑25)) i4) (d5 (pv 5) i9))) (k7 a2t (m3 G_law_take hr ↑4 rfl j4 (d5 (pv 0) ↑25)) i4) ↑11) i9))))))
   (d7 (m8 (pv 3)))))),?_⟩
  have h20:2000<=sizeLine:=by decide
  fail "";refine⟨w,3,rfl,hw,by decide,by decide,λway H1 a1 c1 w1 b1=>?_⟩
  fail "";refine⟨Nat.zero_le _,λp hp=>?_⟩;have hp0:H p=none:=b1.free w1 hp;have np:p≠w:=w1.ne hp;fail "";refine⟨w,n,rfl,w1.same (j1 hp),by lia,by lia,λr H2 a2 c2 w2 b2=>?_⟩
  have e2:H2 p=some (.lst (([]:List Int).map V.int)):=b2 p _ d9 np;have bb2:But w H H2:=b1.trans ((But.of (j1 hp)).trans b2);fail "";refine⟨by show 3<=sizeLine;lia,λq hq=>?_⟩
  obtain⟨N,hN,g1,g8⟩:=d3f (ns:=[1,n,1+r]) (Pr:=λv=>1<=v/\v<=n) (by intro v hv;simp only[List.mem_cons,List.not_mem_nil,or_false] at hv;lia) a1 c1
  fail "";refine a1c d9 hN ?_;fail "";refine b0c (n:=N.toNat) (λi σ H'=>E3 λx4 x5 row=>σ=[some (.ref w),some (.int n),some (.int way),some (.ref p),x4,x5]/\H' p=some (.lst ((row:List Int).map V.int))/\row.length=i/\(∀x∈row,d8m x)/\Well H' w/\But w H H') ⟨_,_,[],rfl,j1 hq _ _ e2,rfl,by simp,w2.same (j1 hq),bb2.nw hq⟩ ?_ ?_
  ·rintro i σ H3 hi ⟨x4,x5,row,rfl,e3,hl,hs,w3,b3⟩
   fail "";refine⟨w,_,rfl,w3,d6d.1,Int.lt_trans d6d.2.1 ↑4,λr4 H4 a4 c4 w4 b4=>?_⟩;have c4:r4<10 ^ 59:=c4;have e4:H4 p=_:=b4 p _ e3 np;fail "";refine⟨w,9,rfl,w4,by decide,by decide,λr5 H5 a5 c5 w5 b5=>?_⟩
   have e5:H5 p=_:=b5 p _ e4 np;fail "";refine⟨by show 2<=sizeLine;lia,λq hq=>?_⟩
   have nq:q≠w:=w5.ne hq;have e5':upd H5 q (.lst [.int (r5-4),.int (r4-5*10 ^ 58)]) p=_:=j1 hq _ _ e5;fail "";refine⟨w,5,rfl,w5.same (j1 hq),by decide,by decide,λr6 H6 a6 c6 w6 b6=>?_⟩
   have e6:H6 p=_:=b6 p _ e5' np;have e6q:H6 q=_:=b6 q _ d9 nq;fail "";obtain⟨y,hy,sy⟩:=d3f (ns:=[r5-4,r4-5*10 ^ 58]) (Pr:=d8m) (by
    have z1:=d6d.2.2.1;have z2:=d6d.2.2.2;intro v hv;simp only[List.mem_cons,List.not_mem_nil,or_false] at hv;unfold d8m;rcases hv with rfl|rfl <;> constructor <;> lia) (r:=r6 / 4) ↑2 (by show r6 / 4<2;lia)
   refine a1c e6q hy ?_;fail "";refine d2c e6 (by rw[List.length_map];lia) ?_
   fail "";refine⟨_,_,row++[y],rfl,by rw[d9,List.map_append];rfl,by rw[List.length_append];show row.length+1=_;lia,?_,?_,?_⟩
   ·intro x hx
    rcases List.mem_append.mp hx with h|h
    ·exact hs x h
    ·rw[List.mem_singleton.mp h];exact sy
   ·obtain⟨a,b,pr,z,zz⟩:=w6
    exact⟨a,b,pr,(d8 np.symm).trans z,zz⟩
   ·have:But w H H6:=b3.trans (b4.trans (b5.trans ((But.of (j1 hq)).trans b6)))
    intro c o e ne;rw[d8 (k8 e hp0)];exact this c o e ne
  ·rintro σ H3 ⟨x4,x5,row,rfl,e3,hl,hs,w3,b3⟩
   fail "";exact k p H3 row hp0 e3 ↑2 ↑2 hs w3 b3
def Rws(H:Hp)(a:Addr)(os:List ↑28):Prop:=∃ps:List Addr,H a=some (.lst (ps.map V.ref))/\ps.length=os.length/\∀(i:Nat)(p:Addr)(o:List Int),ps[i]?=some p->os[i]?=some o->H p=some ↑53
theorem Rws.same{H H':Hp}{a:Addr}{os:List ↑28}(h:Rws H a os)(s:Same H H'):Rws H' a os:=by
 obtain⟨ps,e,l,r⟩:=h;exact⟨ps,s _ _ e,l,λi p o hp ho=>s _ _ (r i p o hp ho)⟩
def c9p(K:↑29):Sp:=λvs H Q _=>E2 λ(a:Addr)(ns:List Int)=>vs=[.ref a]/\SqL K H a ↑81/\ns.length<=63/\∀H',Q (.bl true) H'
theorem _root_.L2.op_catTK{X:Cx}{K:Frag}(h:autoParam (X.K=K) q4):OpR X (binaryOp .Add) (e3l K):=h ▸ e0v
structure Ad where
 o:Nat->Addr
 mg:Addr
 mt:Addr
 fo:Addr->Prop
abbrev Ad.bd(A:Ad):Addr:=A.o 0
abbrev Ad.l(A:Ad):Addr:=A.o 1
abbrev Ad.gv(A:Ad):Addr:=A.o 2
abbrev Ad.tk(A:Ad):Addr:=A.o 3
abbrev Ad.kt(A:Ad):Addr:=A.o 4
abbrev Ad.kg(A:Ad):Addr:=A.o 5
abbrev Ad.kk(A:Ad):Addr:=A.o 6
abbrev Ad.pa(A:Ad):Addr:=A.o 7
inductive Hr where
 | non
 | int (i:Int)
@[reducible] def Hr.v:Hr->V
 | .non=>.non
 | .int i=>.int i
structure Gm where
 st:Str
 he:Hr
 nu:Int
 le:Int
structure Tm where
 st:Str
 he:Hr
 nf:Hr
 nu:Int
 le:Int
noncomputable abbrev gvO(cl:Cl)(dx:Addr)(A:Ad)(G:Gm):HO:=.ins cl.Giver dx [("kept",.ref A.kg),("board",.ref A.bd),("name",.str "giver"),("other",.str "taker"),("stage_behind_marks",.str "told"),("stage_now",.str G.st),("marks_read",.ref A.mg),("here",G.he.v),("touched",.ref A.kt),("number",.int G.nu),("left",.int G.le)]
noncomputable abbrev tkO(cl:Cl)(dx:Addr)(A:Ad)(T:Tm):HO:=.ins cl.Taker dx [("taken",.ref A.kk),("board",.ref A.bd),("name",.str "taker"),("other",.str "giver"),("stage_behind_marks",.str "look"),("stage_now",.str T.st),("marks_read",.ref A.mt),("here",T.he.v),("touched",.ref A.kt),("not_freed",T.nf.v),("number",.int T.nu),("left",.int T.le),("parts",.ref A.pa)]
def RwsX(A:Ad)(H:Hp)(a:Addr)(os:List ↑28):Prop:=∃ps:List Addr,H a=some (.lst (ps.map V.ref))/\ps.length=os.length/\∀(i:Nat)(p:Addr)(o:List Int),ps[i]?=some p->os[i]?=some o->(∀j,j<8->p≠A.o j)/\H p=some ↑53
noncomputable def b8i(n:Nat)(c:Pr.Cells):List Int:=(List.range (4*n+4)).map c
theorem c9s(n:Nat)(c:Pr.Cells):(b8i n c).length=4*n+4:=by unfold b8i;rw[List.length_map,List.length_range]
theorem a0i{n k:Nat}(c:Pr.Cells)(h:k<4*n+4):(b8i n c).getD k 0=c k:=by
 unfold b8i;rw[List.getD_eq_getElem?_getD,List.getElem?_map,List.getElem?_range h]
 rfl
theorem c9q{n k:Nat}(c:Pr.Cells)(x:Int)(h:k<4*n+4):(b8i n c).set k x=b8i n (Pr.put c k x):=by
 apply List.ext_getElem?;intro j;unfold b8i;by_cases e:j=k
 ·subst e
  rw[List.getElem?_set_self (by rw[List.length_map,List.length_range];exact h),List.getElem?_map,List.getElem?_range h]
  show some x=some (Pr.put c j x j);rw[Pr.put_same]
 ·rw[List.getElem?_set_ne (Ne.symm e),List.getElem?_map,List.getElem?_map]
  by_cases hj:j<4*n+4
  ·rw[List.getElem?_range hj]
   show some (c j)=some (Pr.put c k x j);rw[Pr.put_ne _ _ e]
  ·rw[List.getElem?_eq_none (by rw[List.length_range];lia)]
   rfl
structure Tc where
 w:Bool
 k:Nat
 x:Int
def Tc.d(t:Tc):Str:=if t.w then "write" else "read"
structure Lt where
 m:Int
 o:Option Tc
noncomputable def Lt.rd(lt:Lt)(k:Nat)(x:Int):Lt:=⟨lt.m+1,some ⟨false,k,x⟩⟩
noncomputable def Lt.wr(lt:Lt)(k:Nat)(x:Int):Lt:=⟨lt.m+1,some ⟨true,k,x⟩⟩
def Lt.tch(lt:Lt)(t:Tc):Lt:=⟨lt.m+1,some t⟩
abbrev Tr:Type:=Bool×Tc
noncomputable def d6b(t:Tr):HO:=.tup [.str (if t.1 then "giver" else "taker"),.str t.2.d,.int t.2.k,.int t.2.x]
def LastOk(A:Ad)(H:Hp)(lt:Lt)(many:Int)(last:V):Prop:=many=lt.m/\(lt.o=none->last=.non)/\∀q,lt.o=some q->∃t,last=.ref t/\(∀j,j<8->t≠A.o j)/\H t=some (.tup [.str q.d,.int q.k,.int q.x])
def TrX(A:Ad)(H:Hp)(a:Addr)(tl:List Tr):Prop:=∃ps:List Addr,H a=some (.lst (ps.map V.ref))/\ps.length=tl.length/\∀(i:Nat)(p:Addr)(t:Tr),ps[i]?=some p->tl[i]?=some t->(∀j,j<8->p≠A.o j)/\¬ A.fo p/\H p=some (d6b t)
theorem TrX.gen{A A':Ad}{H H':Hp}{a a':Addr}{tl:List Tr}(h:TrX A H a tl)(ea:∀o,H a=some o->H' a'=some o)(k:∀p t,H p=some (d6b t)->(∀j,j<8->p≠A.o j)->¬ A.fo p->(∀j,j<8->p≠A'.o j)/\¬ A'.fo p/\H' p=some (d6b t)):TrX A' H' a' tl:=by
 obtain⟨ps,e,l,r⟩:=h;refine⟨ps,ea _ e,l,λi p t hp ht=>?_⟩;obtain⟨r1,r2,r3⟩:=r i p t hp ht;exact k p _ r3 r1 r2
def Unr(H:Hp)(a x:Addr):Prop:=∀xs,H a=some (.lst xs)->V.ref x ∉ xs
def Unl(H:Hp)(b x:Addr):Prop:=∀C dx fs,H b=some ↑66->fs.lookup ("newest_touch":Str)≠some (V.ref x)
def Fo(H:Hp)(A:Ad):Prop:=∀x,A.fo x->(∃o,H x=some o)/\(∀j,j<8->x≠A.o j)/\x≠A.mg/\x≠A.mt/\Unr H A.kg x/\Unr H A.kk x/\Unl H A.bd x
theorem Fo.keep{H H':Hp}{A:Ad}(h:Fo H A)(ks:∀x o,H x=some o->(∀j,j<8->x≠A.o j)->∃o,H' x=some o)(e5:H' A.kg=H A.kg)(e6:H' A.kk=H A.kk)(e0:H' A.bd=H A.bd):Fo H' A:=λx hx=>by
 obtain⟨⟨o,a⟩,b,c,d,e,f,g⟩:=h x hx;exact⟨ks x o a b,b,c,d,(λxs z=>e xs (e5 ▸ z)),(λxs z=>f xs (e6 ▸ z)),(λC dx fs z=>g C dx fs (e0 ▸ z))⟩
theorem Fo.updO{H:Hp}{A:Ad}{u:HO}(h:Fo H A)(nd:∀i j,i<8->j<8->i≠j->A.o i≠A.o j)(j:Nat)(hj:j<8)(j0:j≠0)(j5:j≠5)(j6:j≠6):Fo (upd H (A.o j) u) A :=
 h.keep (λx o e n=>⟨o,by rw[d8 (n j hj)];exact e⟩) (d8 (nd 5 j ↑2 hj (Ne.symm j5))) (d8 (nd 6 j ↑2 hj (Ne.symm j6))) (d8 (nd 0 j ↑2 hj (Ne.symm j0)))
inductive ExL(R:Ad->Nat->Pr.Cells->List ↑28->List ↑28->List Int->List Int->List Int->Gm->Tm->List Tr->Lt->Prop):Prop
 | mk (A:Ad) (n:Nat) (c:Pr.Cells) (os bk:List ↑28) (gs ts ps:List Int) (G:Gm) (T:Tm) (tl:List Tr) (lt:Lt) (h:R A n c os bk gs ts ps G T tl lt):ExL R
inductive ExN(R:Addr->Ad->Pr.Ln->List Tr->Prop):Prop
 | mk (la:Addr) (A:Ad) (L:Pr.Ln) (tl:List Tr) (h:R la A L tl):ExN R
structure LH(cl:Cl)(H:Hp)(A:Ad)(n:Nat)(c:Pr.Cells)(os bk:List ↑28)(gs ts ps:List Int)(G:Gm)(T:Tm)(tl:List Tr)(lt:Lt):Prop where
 brd:∃many last,Brd cl H A.bd A.l n (b8i n c) many last/\LastOk A H lt many last
 gv:∃dx,H A.gv=some (gvO cl dx A G)
 tk:∃dx,H A.tk=some (tkO cl dx A T)
 mg:H A.mg=some (.lst (gs.map V.int))
 mt:H A.mt=some (.lst (ts.map V.int))
 kept:RwsX A H A.kg os
 book:RwsX A H A.kk bk
 pa:H A.pa=some (.lst (ps.map V.int))
 tr:TrX A H A.kt tl
 nd:∀i j,i<8->j<8->i≠j->A.o i≠A.o j
 om:∀i,i<8->A.mg≠A.o i/\A.mt≠A.o i
 fo:Fo H A
section
variable{H H':Hp}{A:Ad}{n:Nat}{c:Pr.Cells}{os bk:List ↑28}{gs ts ps:List Int}{G:Gm}{T:Tm}{tl:List Tr}{lt:Lt}
theorem RwsX.kp{a:Addr}{S:List Addr}(h:RwsX A H a os)(k:Kp S H H')(ha:a ∉ S)(hS:∀x∈S,(∃j,j<8/\x=A.o j)):RwsX A H' a os:=by
 obtain⟨ps,e,l,r⟩:=h;refine⟨ps,k _ _ e ha,l,λi p o hp ho=>⟨(r i p o hp ho).1,k _ _ (r i p o hp ho).2 λz=>?_⟩⟩;obtain⟨j,hj,e⟩:=hS p z;exact(r i p o hp ho).1 j hj e
def KpA(A:Ad)(H H':Hp):Prop:=∀x o,H x=some o->(∀j,j<8->x≠A.o j)->H' x=some o
theorem KpA.trans{H1 H2:Hp}(a:KpA A H H1)(b:KpA A H1 H2):KpA A H H2:=λx o e n=>b x o (a x o e n) n
theorem KpA.of(s:Same H H'):KpA A H H':=λx o e _=>s x o e
theorem KpA.kp{S:List Addr}(k:Kp S H H')(hS:∀x∈S,(∃j,j<8/\x=A.o j)):KpA A H H':=λx o e n=>k x o e λz=>by
 obtain⟨j,hj,q⟩:=hS x z;exact n j hj q
theorem KpA.upd{j:Nat}{o:HO}(hj:j<8):KpA A H (L2.upd H (A.o j) o):=λx u e n=>by rw[d8 (n j hj)];exact e
theorem LastOk.kpa{many:Int}{last:V}{lt:Lt}(h:LastOk A H lt many last)(k:KpA A H H'):LastOk A H' lt many last:=⟨h.1,h.2.1,λq z=>by
 obtain⟨t,e,n,u⟩:=h.2.2 q z;exact⟨t,e,n,k _ _ u n⟩⟩
theorem TrX.kpa{a:Addr}{tl:List Tr}(h:TrX A H a tl)(k:KpA A H H')(ea:∀o,H a=some o->H' a=some o):TrX A H' a tl:=h.gen ea λp o e n f=>⟨n,f,k _ _ e n⟩
theorem LH.has(h:↑55):∀j,j<8->∃o,H (A.o j)=some o:=by
 intro j hj;obtain⟨_,_,⟨⟨_,e0⟩,e1,_⟩,_⟩:=h.brd;obtain⟨_,e2⟩:=h.gv;obtain⟨_,e3⟩:=h.tk;obtain⟨_,e4,_⟩:=h.tr;obtain⟨_,e5,_⟩:=h.kept;obtain⟨_,e6,_⟩:=h.book;have:j=0\/j=1\/j=2\/j=3\/j=4\/j=5\/j=6\/j=7:=by lia
 rcases this with rfl|rfl|rfl|rfl|rfl|rfl|rfl|rfl
 ·exact⟨_,e0⟩
 ·exact⟨_,e1⟩
 ·exact⟨_,e2⟩
 ·exact⟨_,e3⟩
 ·exact⟨_,e4⟩
 ·exact⟨_,e5⟩
 ·exact⟨_,e6⟩
 ·exact⟨_,h.pa⟩
theorem LH.same(h:↑55)(s:Same H H'):LH cl H' A n c os bk gs ts ps G T tl lt where
 brd:=let ⟨m,l,z,y⟩:=h.brd;⟨m,l,z.keep (Kp.of (ps:=[]) s) (by simp) (by simp),y.kpa (KpA.of s)⟩
 gv:=let ⟨d,z⟩:=h.gv;⟨d,s _ _ z⟩
 tk:=let ⟨d,z⟩:=h.tk;⟨d,s _ _ z⟩
 mg:=s _ _ h.mg
 mt:=s _ _ h.mt
 kept:=h.kept.kp (Kp.of (ps:=[]) s) (by simp) (by simp)
 book:=h.book.kp (Kp.of (ps:=[]) s) (by simp) (by simp)
 pa:=s _ _ h.pa
 tr:=h.tr.kpa (KpA.of s) λo z=>s _ _ z
 nd:=h.nd
 om:=h.om
 fo:=by
  have e:∀j,j<8->H' (A.o j)=H (A.o j):=λj hj=>by
   obtain⟨o,z⟩:=h.has j hj;rw[z];exact s _ _ z
  exact h.fo.keep (λx o z _=>⟨o,s _ _ z⟩) (e 5 ↑2) (e 6 ↑2) (e 0 ↑2)
theorem LH.nfo(h:↑55){t:Addr}(ht:H t=none):¬ A.fo t:=λz=>by
 obtain⟨⟨o,e⟩,_⟩:=h.fo t z;rw[ht] at e;cases e
theorem LH.off(h:↑55){t:Addr}(ht:H t=none):∀j,j<8->t≠A.o j:=λj hj z=>by
 obtain⟨o,e⟩:=h.has j hj;rw[<- z,ht] at e;cases e
theorem e0t:∀x∈[A.bd,A.l],(∃j,j<8/\x=A.o j):=λx hx=>by
 simp only[List.mem_cons,List.not_mem_nil,or_false] at hx;rcases hx with rfl|rfl
 ·exact⟨0,by lia,rfl⟩
 ·exact⟨1,by lia,rfl⟩
theorem LH.board{c':Pr.Cells}{many:Int}{last:V}{lt':Lt}(h:↑55)(k:Kp [A.bd,A.l] H H')(hB:Brd cl H' A.bd A.l n (b8i n c') many last)(hL:LastOk A H' lt' many last)(hf:∀x,A.fo x->last≠.ref x):LH cl H' A n c' os bk gs ts ps G T tl lt':=by
 have ne:∀i,2<=i->i<8->A.o i ∉ [A.bd,A.l]:=λi h2 h8=>by
  simp only[List.mem_cons,List.not_mem_nil,or_false,not_or];exact⟨h.nd i 0 h8 ↑2 ↑2,h.nd i 1 h8 ↑2 ↑2⟩
 have hS:∀x∈[A.bd,A.l],(∃j,j<8/\x=A.o j):=λx hx=>by
  simp only[List.mem_cons,List.not_mem_nil,or_false] at hx;rcases hx with rfl|rfl
  ·exact⟨0,by lia,rfl⟩
  ·exact⟨1,by lia,rfl⟩
 have nm:A.mg ∉ [A.bd,A.l]/\A.mt ∉ [A.bd,A.l]:=by
  simp only[List.mem_cons,List.not_mem_nil,or_false,not_or];exact⟨⟨(h.om 0 ↑2).1,(h.om 1 ↑2).1⟩,⟨(h.om 0 ↑2).2,(h.om 1 ↑2).2⟩⟩
 refine⟨⟨_,_,hB,hL⟩,(let ⟨d,z⟩:=h.gv;⟨d,k _ _ z (ne 2 ↑2 ↑2)⟩),(let ⟨d,z⟩:=h.tk;⟨d,k _ _ z (ne 3 ↑2 ↑2)⟩),k _ _ h.mg nm.1,k _ _ h.mt nm.2,h.kept.kp k (ne 5 ↑2 ↑2) hS,h.book.kp k (ne 6 ↑2 ↑2) hS,k _ _ h.pa (ne 7 ↑2 ↑2),(h.tr.kpa (KpA.kp k hS) λo z=>k _ _ z (ne 4 ↑2 ↑2)),h.nd,h.om,λx hx=>?_⟩
 obtain⟨⟨o,a⟩,b,c1,d,e,f,g⟩:=h.fo x hx;obtain⟨o5,z5⟩:=h.has 5 ↑2;obtain⟨o6,z6⟩:=h.has 6 ↑2;have y5:H' A.kg=H A.kg:=(k _ _ z5 (ne 5 ↑2 ↑2)).trans z5.symm;have y6:H' A.kk=H A.kk:=(k _ _ z6 (ne 6 ↑2 ↑2)).trans z6.symm;refine⟨⟨o,k _ _ a ?_⟩,b,c1,d,(λxs z=>e xs (y5 ▸ z)),(λxs z=>f xs (y6 ▸ z)),λC dx fs z=>?_⟩
 ·simp only[List.mem_cons,List.not_mem_nil,or_false,not_or];exact⟨b 0 ↑2,b 1 ↑2⟩
 ·obtain⟨⟨dxb,eb⟩,_⟩:=hB
  rw[eb] at z;cases z;exact λz2=>hf x hx (Option.some.inj z2)
theorem LH.wrote{k:Nat}{x:Int}{many:Int}{t:Addr}(h:↑55)(hk:k<4*n+4)(ht:H t=none)(kp:Kp [A.bd,A.l] H H')(et:H' t=some (.tup [.str "write",.int (k:Int),.int x]))(hB:Brd cl H' A.bd A.l n ((b8i n c).set k x) (many+1) (.ref t))(hm:many=lt.m):
  LH cl H' A n (Pr.put c k x) os bk gs ts ps G T tl (lt.wr k x)/\KpA A H H':=by
 rw[c9q c x hk] at hB;exact⟨h.board kp hB ⟨by rw[hm];rfl,(λz=>↑94),(λq z=>by cases z;exact⟨t,rfl,h.off ht,et⟩)⟩ (λx hx z=>h.nfo ht (V.ref.inj z ▸ hx)),KpA.kp kp e0t⟩
theorem LH.wasRead{ki:Int}{many:Int}{t:Addr}(h:↑55)(ht:H t=none)(kp:Kp [A.bd] H H')(et:H' t=some (.tup [.str "read",.int ki,.int ((b8i n c).getD ki.toNat 0)]))(hB:Brd cl H' A.bd A.l n (b8i n c) (many+1) (.ref t))(hm:many=lt.m)(k:Nat)(hk:k<4*n+4)(ek:ki=(k:Int)):
  LH cl H' A n c os bk gs ts ps G T tl (lt.rd k (c k))/\KpA A H H':=by
 subst ek;rw[Int.toNat_natCast,a0i c hk] at et;have kp':Kp [A.bd,A.l] H H':=kp.mono (by simp)
 exact⟨h.board kp' hB ⟨by rw[hm];rfl,(λz=>↑94),(λq z=>by cases z;exact⟨t,rfl,h.off ht,et⟩)⟩ (λx hx z=>h.nfo ht (V.ref.inj z ▸ hx)),KpA.kp kp' e0t⟩
theorem RwsX.set{a x:Addr}{o:HO}{j:Nat}(h:RwsX A H a os)(hj:j<8)(hx:x=A.o j)(ne:a≠x):RwsX A (upd H x o) a os :=
 h.kp (S:=[x]) (Kp.upd (by simp)) (by simpa using ne) λy hy=>⟨j,hj,by rw[List.mem_singleton.mp hy];exact hx⟩
theorem LH.setG{G':Gm}{dx:Addr}(h:↑55):LH cl (upd H A.gv (gvO cl dx A G')) A n c os bk gs ts ps G' T tl lt:=by
 have ne:∀i,i<8->i≠2->A.o i≠A.gv:=λi h8 h2=>h.nd i 2 h8 ↑2 h2;obtain⟨m,l,hB,hL⟩:=h.brd;refine⟨⟨m,l,hB.keep (ps:=[A.gv]) (Kp.upd (by simp)) ↑142 ↑141,hL.kpa (KpA.upd (j:=2) ↑2)⟩,⟨dx,d9⟩,?_,?_,?_,h.kept.set (j:=2) ↑2 rfl (ne 5 ↑2 ↑2),h.book.set (j:=2) ↑2 rfl (ne 6 ↑2 ↑2),?_,?_,h.nd,h.om,h.fo.updO h.nd 2 ↑2 ↑2 ↑2 ↑2⟩
 fail "ae"
 ·rw[d8 (h.om 2 ↑2).1];exact h.mg
 ·rw[d8 (h.om 2 ↑2).2];exact h.mt
 fail "ao"
 ·exact h.tr.kpa (KpA.upd (j:=2) ↑2) λo z=>by rw[d8 (ne 4 ↑2 ↑2)];exact z
theorem LH.setT{T':Tm}{dx:Addr}(h:↑55):LH cl (upd H A.tk (tkO cl dx A T')) A n c os bk gs ts ps G T' tl lt:=by
 have ne:∀i,i<8->i≠3->A.o i≠A.tk:=λi h8 h2=>h.nd i 3 h8 ↑2 h2;obtain⟨m,l,hB,hL⟩:=h.brd;refine⟨⟨m,l,hB.keep (ps:=[A.tk]) (Kp.upd (by simp)) ↑142 ↑141,hL.kpa ↑143⟩,?_,⟨dx,d9⟩,?_,?_,h.kept.set (j:=3) ↑2 rfl (ne 5 ↑2 ↑2),h.book.set (j:=3) ↑2 rfl (ne 6 ↑2 ↑2),?_,?_,h.nd,h.om,h.fo.updO h.nd 3 ↑2 ↑2 ↑2 ↑2⟩
 fail "af"
 ·rw[d8 (h.om 3 ↑2).1];exact h.mg
 ·rw[d8 (h.om 3 ↑2).2];exact h.mt
 fail "ao"
 ·exact h.tr.kpa ↑143 λo z=>by rw[d8 (ne 4 ↑2 ↑2)];exact z
end
def HOf(A:Ad)(b:Bool)(h:Addr):Prop:=(b=true/\h=A.gv)\/(b=false/\h=A.tk)
def b6u(b:Bool):Nat:=if b then 0 else 1
def a6c(b:Bool):Nat:=if b then 2 else 3
def b4a(b:Bool):Nat:=if b then 3 else 2
theorem e1y{n:Nat}{x:Str}{H:Hp}{E:XK}{k:Prop}(n2:2<=n)(n8:n<=8)(hx:x="giver"\/x="taker")(h:k):c9h cl n x H E k:=by
 unfold c9h;rw[if_pos ↑2,if_pos hx];exact h
theorem hI0:d1z "giver" = 0:=by decide
theorem hI1:d1z "taker" = 1:=by decide
def a4e(cl:Cl):Sp:=λvs H Q _=>ExL λA n c os bk gs ts ps Gq Tq tl lt=>E3 λ(b:Bool)(h:Addr)(x:Int)=>vs=[.ref h,.int x]/\HOf A b h/\↑905/\∀H',LH cl H' A n (Pr.put c (4*n+b6u b) x) os bk gs ts ps Gq Tq tl (lt.wr (4*n+b6u b) x)->KpA A H H'->Q .non H'
abbrev a8l:Stmt:=top 55
theorem c1i:i8 ["hand","number"] ["hand","number"] (g9 a8l):=↑1
theorem c2h(D:DefT K mg "write_card" a8l ["hand","number"])(T:↑14)(G_Board_write:↑20)(G_card_cell:↑901 "card_cell" 2 ["size","hand"] (a5d cl)):↑901 "write_card" 3 ["hand","number"] (a4e cl):=by
 refine D.fn c1i ↑8 ↑3
 ·obtain⟨A,n,c,os,bk,gs,ts,ps,Gq,Tq,tl,lt,b,h,x,rfl,ho,hL,k⟩:=h
  refine⟨_,(d7 (j9 (a2s ↑5 T.k_Board G_Board_write hr ↑4 j4 (d5 (m3 G_card_cell hr ↑4 rfl j4 ↑129) ↑64)))),?_⟩;fail "m";fail "c";rcases ho with ⟨rfl,rfl⟩|⟨rfl,rfl⟩
  all_goals
   fail "u"
   first|rw[hI0] | rw[hI1]
   fail "aj";rw[if_pos ⟨by lia,by rw[hlen];lia⟩]
   intro t H' ht kp ett hB'
  ·rw[show(4*(n:Int)+0).toNat=4*n+b6u true by show _=4*n+0;lia] at hB'
   obtain⟨z1,z2⟩:=hL.wrote (k:=4*n+b6u true) (by show 4*n+0<_;lia) ht kp (by rw[ett];show _=some (HO.tup [_,.int ((4*n+0:Nat):Int),_]);congr) hB' hLast.1
   exact k H' z1 z2
  ·rw[show(4*(n:Int)+1).toNat=4*n+b6u false by show _=4*n+1;lia] at hB'
   obtain⟨z1,z2⟩:=hL.wrote (k:=4*n+b6u false) (by show 4*n+1<_;lia) ht kp (by rw[ett];show _=some (HO.tup [_,.int ((4*n+1:Nat):Int),_]);congr) hB' hLast.1
   exact k H' z1 z2
def a6s(cl:Cl):Sp:=λvs H Q _=>ExL λA n c os bk gs ts ps Gq Tq tl lt=>E2 λ(b:Bool)(h:Addr)=>vs=[.ref h]/\HOf A b h/\↑905/\∀H',LH cl H' A n (Pr.put c (4*n+b4a b) 1) os bk gs ts ps Gq Tq tl (lt.wr (4*n+b4a b) 1)->KpA A H H'->Q .non H'
abbrev a8p:Stmt:=top 56
theorem c1m:i8 ["hand"] ["hand"] (g9 a8p):=↑1
theorem c2l(D:DefT K mg "ring_other" a8p ["hand"])(T:↑14)(G_Board_write:↑20)(G_bell_cell:↑901 "bell_cell" 3 ["size","hand"] (a5e cl)):↑901 "ring_other" 4 ["hand"] (a6s cl):=by
 refine D.fn c1m ↑8 ↑3
 ·obtain⟨A,n,c,os,bk,gs,ts,ps,Gq,Tq,tl,lt,b,h,rfl,ho,hL,k⟩:=h
  refine⟨_,(d7 (j9 (a2s ↑5 T.k_Board G_Board_write hr ↑4 j4 (d5 (m3 G_bell_cell hr ↑4 rfl j4 ↑129) (d5 (a0k T.m_RUNG rfl) i9))))),?_⟩;fail "m";fail "c";rcases ho with ⟨rfl,rfl⟩|⟨rfl,rfl⟩
  all_goals
   fail "u"
   first|rw[hI0] | rw[hI1]
   fail "aj";rw[if_pos ⟨by lia,by rw[hlen];lia⟩]
   intro t H' ht kp ett hB'
  ·rw[show(4*(n:Int)+1+2).toNat=4*n+b4a true by show _=4*n+3;lia] at hB'
   obtain⟨z1,z2⟩:=hL.wrote (k:=4*n+b4a true) (by show 4*n+3<_;lia) ht kp (by rw[ett];show _=some (HO.tup [_,.int ((4*n+3:Nat):Int),_]);congr) hB' hLast.1
   exact k H' z1 z2
  ·rw[show(4*(n:Int)+0+2).toNat=4*n+b4a false by show _=4*n+2;lia] at hB'
   obtain⟨z1,z2⟩:=hL.wrote (k:=4*n+b4a false) (by show 4*n+2<_;lia) ht kp (by rw[ett];show _=some (HO.tup [_,.int ((4*n+2:Nat):Int),_]);congr) hB' hLast.1
   exact k H' z1 z2
def a6r(cl:Cl):Sp:=λvs H Q _=>ExL λA n c os bk gs ts ps Gq Tq tl lt=>E2 λ(b:Bool)(h:Addr)=>vs=[.ref h]/\HOf A b h/\↑905/\∀H',LH cl H' A n (Pr.put c (4*n+a6c b) 0) os bk gs ts ps Gq Tq tl (lt.wr (4*n+a6c b) 0)->KpA A H H'->Q .non H'
abbrev a8o:Stmt:=top 57
theorem c1l:i8 ["hand"] ["hand"] (g9 a8o):=↑1
theorem c2k(D:DefT K mg "still_bell" a8o ["hand"])(T:↑14)(G_Board_write:↑20)(G_bell_cell:↑901 "bell_cell" 3 ["size","hand"] (a5e cl)):↑901 "still_bell" 4 ["hand"] (a6r cl):=by
 refine D.fn c1l ↑8 ↑3
 ·obtain⟨A,n,c,os,bk,gs,ts,ps,Gq,Tq,tl,lt,b,h,rfl,ho,hL,k⟩:=h
  refine⟨_,(d7 (j9 (a2s ↑5 T.k_Board G_Board_write hr ↑4 j4 (d5 (m3 G_bell_cell hr ↑4 rfl j4 ↑129) (d5 (a0k T.m_STILL rfl) i9))))),?_⟩;fail "m";fail "c";rcases ho with ⟨rfl,rfl⟩|⟨rfl,rfl⟩
  all_goals
   fail "u"
   first|rw[hI0] | rw[hI1]
   fail "aj";rw[if_pos ⟨by lia,by rw[hlen];lia⟩]
   intro t H' ht kp ett hB'
  ·rw[show(4*(n:Int)+0+2).toNat=4*n+a6c true by show _=4*n+2;lia] at hB'
   obtain⟨z1,z2⟩:=hL.wrote (k:=4*n+a6c true) (by show 4*n+2<_;lia) ht kp (by rw[ett];show _=some (HO.tup [_,.int ((4*n+2:Nat):Int),_]);congr) hB' hLast.1
   exact k H' z1 z2
  ·rw[show(4*(n:Int)+1+2).toNat=4*n+a6c false by show _=4*n+3;lia] at hB'
   obtain⟨z1,z2⟩:=hL.wrote (k:=4*n+a6c false) (by show 4*n+3<_;lia) ht kp (by rw[ett];show _=some (HO.tup [_,.int ((4*n+3:Nat):Int),_]);congr) hB' hLast.1
   exact k H' z1 z2
def a6y(cl:Cl):Sp:=λvs H Q _=>ExL λA n c os bk gs ts ps Gq Tq tl lt=>E2 λ(b:Bool)(h:Addr)=>vs=[.ref h]/\HOf A b h/\↑905/\∀H',LH cl H' A n (Pr.put c (4*n+b4a b) 1) os bk gs ts ps Gq Tq tl (lt.wr (4*n+b4a b) 1)->KpA A H H'->Q (.str "clear") H'
abbrev b4z:Stmt:=top 59
theorem c7p:i8 ["hand"] ["hand"] (g9 b4z):=↑1
theorem c8l(D:DefT K mg "at_rouse" b4z ["hand"])(T:↑14)(G_ring_other:↑901 "ring_other" 4 ["hand"] (a6s cl)):↑901 "at_rouse" 5 ["hand"] (a6y cl):=by
 refine D.fn c7p ↑8 ↑3
 ·obtain⟨A,n,c,os,bk,gs,ts,ps,Gq,Tq,tl,lt,b,h,rfl,ho,hL,k⟩:=h
  refine⟨_,(d6 (j9 (m3 G_ring_other hr ↑4 rfl j4 ↑49))
   ↑34),?_⟩
  fail "";refine⟨A,n,c,os,bk,gs,ts,ps,Gq,Tq,tl,lt,b,h,rfl,ho,hL,λH1 z1 z2=>?_⟩;fail "";exact k H1 z1 z2
def a7a(cl:Cl):Sp:=λvs H Q _=>ExL λA n c os bk gs ts ps Gq Tq tl lt=>E2 λ(b:Bool)(h:Addr)=>vs=[.ref h]/\HOf A b h/\↑905/\∀H',LH cl H' A n (Pr.put c (4*n+b6u b) (-1)) os bk gs ts ps Gq Tq tl (lt.wr (4*n+b6u b) (-1))->KpA A H H'->Q (.str "mute") H'
abbrev b5c:Stmt:=top 60
theorem c7r:i8 ["hand"] ["hand"] (g9 b5c):=↑1
theorem c8o(D:DefT K mg "at_clear" b5c ["hand"])(T:↑14)(G_write_card:↑901 "write_card" 3 ["hand","number"] (a4e cl)):↑901 "at_clear" 4 ["hand"] (a7a cl):=by
 refine D.fn c7r ↑8 ↑3
 ·obtain⟨A,n,c,os,bk,gs,ts,ps,Gq,Tq,tl,lt,b,h,rfl,ho,hL,k⟩:=h
  refine⟨_,(d6 (j9 (m3 G_write_card hr ↑4 rfl j4 (d5 (pu 0) (d5 (a0k T.m_NO_TURN rfl) i9))))
   ↑34),?_⟩
  fail "";refine⟨A,n,c,os,bk,gs,ts,ps,Gq,Tq,tl,lt,b,h,_,rfl,ho,hL,λH1 z1 z2=>?_⟩;fail "";exact k H1 z1 z2
def a9t(cl:Cl):Sp:=λvs H Q _=>ExL λA n c os bk gs ts ps Gq Tq tl lt=>E2 λ(b:Bool)(h:Addr)=>vs=[.ref h]/\HOf A b h/\↑905/\∀H',LH cl H' A n (Pr.put c (4*n+a6c b) 0) os bk gs ts ps Gq Tq tl (lt.wr (4*n+a6c b) 0)->KpA A H H'->Q (.str "marks") H'
abbrev b8a:Stmt:=top 61
theorem d1b:i8 ["hand"] ["hand"] (g9 b8a):=↑1
theorem d1m(D:DefT K mg "at_mute" b8a ["hand"])(T:↑14)(G_still_bell:↑901 "still_bell" 4 ["hand"] (a6r cl)):↑901 "at_mute" 5 ["hand"] (a9t cl):=by
 refine D.fn d1b ↑8 ↑3
 ·obtain⟨A,n,c,os,bk,gs,ts,ps,Gq,Tq,tl,lt,b,h,rfl,ho,hL,k⟩:=h
  refine⟨_,(d6 (j9 (m3 G_still_bell hr ↑4 rfl j4 ↑49))
   ↑34),?_⟩
  fail "";refine⟨A,n,c,os,bk,gs,ts,ps,Gq,Tq,tl,lt,b,h,rfl,ho,hL,λH1 z1 z2=>?_⟩;fail "";exact k H1 z1 z2
def a9v(cl:Cl):Sp:=λvs H Q _=>ExL λA n c os bk gs ts ps Gq Tq tl lt=>E2 λ(b:Bool)(h:Addr)=>vs=[.ref h]/\HOf A b h/\↑905/\∀H',LH cl H' A n (Pr.put c (4*n+a6c b) 0) os bk gs ts ps Gq Tq tl (lt.wr (4*n+a6c b) 0)->KpA A H H'->Q (.str "unwish") H'
abbrev b8d:Stmt:=top 67
theorem d1e:i8 ["hand"] ["hand"] (g9 b8d):=↑1
theorem d1p(D:DefT K mg "at_hush" b8d ["hand"])(T:↑14)(G_still_bell:↑901 "still_bell" 4 ["hand"] (a6r cl)):↑901 "at_hush" 5 ["hand"] (a9v cl):=by
 refine D.fn d1e ↑8 ↑3
 ·obtain⟨A,n,c,os,bk,gs,ts,ps,Gq,Tq,tl,lt,b,h,rfl,ho,hL,k⟩:=h
  refine⟨_,(d6 (j9 (m3 G_still_bell hr ↑4 rfl j4 ↑49))
   ↑34),?_⟩
  fail "";refine⟨A,n,c,os,bk,gs,ts,ps,Gq,Tq,tl,lt,b,h,rfl,ho,hL,λH1 z1 z2=>?_⟩;fail "";exact k H1 z1 z2
def a5f(cl:Cl):Sp:=λvs H Q _=>ExL λA n c os bk gs ts ps Gq Tq tl lt=>E2 λ(b:Bool)(h:Addr)=>vs=[.ref h]/\HOf A b h/\↑905/\∀H',LH cl H' A n (Pr.put c (4*n+b6u b) (-1)) os bk gs ts ps Gq Tq tl (lt.wr (4*n+b6u b) (-1))->KpA A H H'->Q (.str "look") H'
abbrev b1y:Stmt:=top 68
theorem c4p:i8 ["hand"] ["hand"] (g9 b1y):=↑1
theorem c5z(D:DefT K mg "at_unwish" b1y ["hand"])(T:↑14)(G_write_card:↑901 "write_card" 3 ["hand","number"] (a4e cl)):↑901 "at_unwish" 4 ["hand"] (a5f cl):=by
 refine D.fn c4p ↑8 ↑3
 ·obtain⟨A,n,c,os,bk,gs,ts,ps,Gq,Tq,tl,lt,b,h,rfl,ho,hL,k⟩:=h
  refine⟨_,(d6 (j9 (m3 G_write_card hr ↑4 rfl j4 (d5 (pu 0) (d5 (a0k T.m_NO_TURN rfl) i9))))
   ↑34),?_⟩
  fail "";refine⟨A,n,c,os,bk,gs,ts,ps,Gq,Tq,tl,lt,b,h,_,rfl,ho,hL,λH1 z1 z2=>?_⟩;fail "";exact k H1 z1 z2
def a6x(cl:Cl):Sp:=λvs H Q _=>ExL λA n c os bk gs ts ps Gq Tq tl lt=>E2 λ(b:Bool)(h:Addr)=>vs=[.ref h]/\HOf A b h/\↑905/\∀H',LH cl H' A n c os bk gs ts ps Gq Tq tl (lt.rd (4*n+a6c b) (c (4*n+a6c b)))->KpA A H H'->Q (.str (if c (4*n+a6c b)=0 then "sleep" else "hush")) H'
abbrev b4y:Stmt:=top 66
theorem b7s:i8 ["hand","bell"] ["hand"] (g9 b4y):=↑1
theorem c8k(D:DefT K mg "at_sleep" b4y ["hand"])(T:↑14)(G_Board_read:↑24)(G_bell_cell:↑901 "bell_cell" 3 ["size","hand"] (a5e cl)):↑901 "at_sleep" 4 ["hand"] (a6x cl):=by
 refine D.fn b7s ↑8 ↑3
 ·obtain⟨A,n,c,os,bk,gs,ts,ps,Gq,Tq,tl,lt,b,h,rfl,ho,hL,k⟩:=h
  refine⟨_,(d6 (l9 (i:=1) b7s.nd rfl ↑22 (a2s ↑5 T.k_Board G_Board_read hr ↑4 j4 (d5 (m3 G_bell_cell hr ↑4 rfl j4 ↑129) i9)))
   (d7 (m8 (a0w (l7 a0m (pu 1) (a0k T.m_STILL rfl) ↑43) m4 m4)))),?_⟩
  fail "m";fail "c";rcases ho with ⟨rfl,rfl⟩|⟨rfl,rfl⟩
  all_goals
   fail "u"
   first|rw[hI0] | rw[hI1]
   refine⟨A.bd,A.l,n,_,many,last,_,rfl,hB,?_⟩;rw[if_pos ⟨by lia,by rw[hlen];lia⟩]
   intro t H' ht kp ett hB';have q:=k H' (by first|exact(hL.wasRead ht kp ett hB' hLast.1 (4*n+a6c true) (by show 4*n+2<_;lia) (by show _=((4*n+2:Nat):Int);lia)).1|exact(hL.wasRead ht kp ett hB' hLast.1 (4*n+a6c false) (by show 4*n+3<_;lia) (by show _=((4*n+3:Nat):Int);lia)).1) (KpA.kp (kp.mono (by simp)) e0t)
   fail ""
  ·rw[show(4*(n:Int)+0+2).toNat=4*n+a6c true by show _=4*n+2;lia,a0i c (by show 4*n+2<_;lia)]
   refine a4j (λa=>?_) (λa=>?_)
   ·rw[if_pos (V.int.inj a)] at q;fail "";exact q
   ·rw[if_neg λy=>a (by rw[y])] at q;fail "";exact q
  ·rw[show(4*(n:Int)+1+2).toNat=4*n+a6c false by show _=4*n+3;lia,a0i c (by show 4*n+3<_;lia)]
   refine a4j (λa=>?_) (λa=>?_)
   ·rw[if_pos (V.int.inj a)] at q;fail "";exact q
   ·rw[if_neg λy=>a (by rw[y])] at q;fail "";exact q
noncomputable def b8y(b:Bool)(Gq:Gm)(Tq:Tm):Hr:=if b then Gq.he else Tq.he
noncomputable def a3o(b:Bool)(n t:Int):Int:=if b then 2*(1-t / n)+0 else 2*(t / n)+1
def a1f(cl:Cl):Sp:=λvs H Q _=>ExL λA n c os bk gs ts ps Gq Tq tl lt=>E3 λ(b:Bool)(h:Addr)(t:Int)=>vs=[.ref h]/\HOf A b h/\↑905/\b8y b Gq Tq=.int t/\0<=t/\t<2*(n:Int)/\Q (.int ↑114) H
noncomputable abbrev a5m:Stmt:=o9 (top 72) 3
theorem c1x:i8 ["self"] ["self"] (g9 a5m):=↑1
theorem b3v{C:Addr}(D:DefM K C "place" "Hand.place" a5m ["self"])(T:↑14)(G_place_of:↑901 "place_of" 3 ["size","turn"] (a6t cl)):↑904 C "place" 4 ["self"] (a1f cl):=by
 refine D.fn c1x ↑8 ↑3
 ·obtain⟨A,n,c,os,bk,gs,ts,ps,Gq,Tq,tl,lt,b,h,t,rfl,ho,hL,he,t0,t1,k⟩:=h
  refine⟨_,(d7 (m8 (m3 G_place_of hr ↑4 rfl j4 ↑129))),?_⟩;fail "m";fail "c";rcases ho with ⟨rfl,rfl⟩|⟨rfl,rfl⟩
  ·have he:Gq.he=.int t:=he
   fail "as";exact⟨n,t,rfl,a0h ↑2 ↑2 t0 t1 k⟩
  ·have he:Tq.he=.int t:=he
   fail "as";exact⟨n,t,rfl,a0h ↑2 ↑2 t0 t1 k⟩
def a3q(cl:Cl):Sp:=λvs H Q _=>ExL λA n c os bk gs ts ps Gq Tq tl lt=>E3 λ(b:Bool)(h:Addr)(t:Int)=>vs=[.ref h]/\HOf A b h/\↑905/\b8y b Gq Tq=.int t/\0<=t/\t<2*(n:Int)/\b=true/\Q (.int (a3o true n t)) H
noncomputable abbrev a1m:Stmt:=o9 (top 88) 13
theorem a8k:i8 ["self"] ["self"] (g9 a1m):=↑1
theorem a9k(D:DefM K cl.Giver "awaited_mark" "Giver.awaited_mark" a1m ["self"])(T:↑14)(G_mark_to_give:↑901 "mark_to_give" 4 ["size","turn"] (a8a cl)):↑902 "awaited_mark" 5 ["self"] (a3q cl):=by
 refine D.fn a8k ↑8 ↑3
 ·obtain⟨A,n,c,os,bk,gs,ts,ps,Gq,Tq,tl,lt,b,h,t,rfl,ho,hL,he,t0,t1,rfl,k⟩:=h
  refine⟨_,(d7 (m8 (m3 G_mark_to_give hr ↑4 rfl j4 ↑129))),?_⟩;fail "m";fail "c";rcases ho with ⟨hb,rfl⟩|⟨hb,rfl⟩
  all_goals cases hb
  have he:Gq.he=.int t:=he;fail "as";exact⟨n,t,rfl,a0h ↑2 ↑2 t0 t1 k⟩
def a3p(cl:Cl):Sp:=λvs H Q _=>ExL λA n c os bk gs ts ps Gq Tq tl lt=>E3 λ(b:Bool)(h:Addr)(t:Int)=>vs=[.ref h]/\HOf A b h/\↑905/\b8y b Gq Tq=.int t/\0<=t/\t<2*(n:Int)/\b=false/\Q (.int (a3o false n t)) H
noncomputable abbrev a1k:Stmt:=o9 (top 98) 7
theorem a8i:i8 ["self"] ["self"] (g9 a1k):=↑1
theorem a9i(D:DefM K cl.Taker "awaited_mark" "Taker.awaited_mark" a1k ["self"])(T:↑14)(G_full_mark:↑901 "full_mark" 4 ["size","turn"] (a8d cl)):↑903 "awaited_mark" 5 ["self"] (a3p cl):=by
 refine D.fn a8i ↑8 ↑3
 ·obtain⟨A,n,c,os,bk,gs,ts,ps,Gq,Tq,tl,lt,b,h,t,rfl,ho,hL,he,t0,t1,rfl,k⟩:=h
  refine⟨_,(d7 (m8 (m3 G_full_mark hr ↑4 rfl j4 ↑129))),?_⟩;fail "m";fail "c";rcases ho with ⟨hb,rfl⟩|⟨hb,rfl⟩
  all_goals cases hb
  have he:Tq.he=.int t:=he;fail "as";exact⟨n,t,rfl,a0h ↑2 ↑2 t0 t1 k⟩
def a7z(cl:Cl):Sp:=λvs H Q _=>ExL λA n c os bk gs ts ps Gq Tq tl lt=>E3 λ(b:Bool)(h:Addr)(t:Int)=>vs=[.ref h]/\HOf A b h/\↑905/\b8y b Gq Tq=.int t/\0<=t/\t<2*(n:Int)/\∀H',LH cl H' A n c os bk gs ts ps Gq Tq tl (lt.rd ↑52 (c ↑52))->KpA A H H'->Q (.bl (decide (c ↑52=a3o b n t))) H'
abbrev b1i:Stmt:=top 58
theorem c4g:i8 ["hand"] ["hand"] (g9 b1i):=↑1
theorem c5i(D:DefT K mg "may_go_on" b1i ["hand"])(T:↑14)(G_Board_read:↑24)(G_mark_cell:↑901 "mark_cell" 1 ["place"] (a0b 0))(GP:↑61)(TP:↑903 "place" 4 ["self"] (a1f cl))(GA:↑902 "awaited_mark" 5 ["self"] (a3q cl))(TA:↑903 "awaited_mark" 5 ["self"] (a3p cl)):↑901 "may_go_on" 6 ["hand"] (a7z cl):=by
 refine D.fn c4g ↑8 ↑3
 ·obtain⟨A,n,c,os,bk,gs,ts,ps,Gq,Tq,tl,lt,b,h,t,rfl,ho,hL,he,t0,t1,k⟩:=h
  refine⟨_,(d7 (m8 (a3k a0m (a2s ↑5 T.k_Board G_Board_read hr ↑4 j4 (d5 (m3 G_mark_cell hr ↑4 rfl j4 ↑147) i9)) (a1n (k:=5) (pu 0) hr ↑4 j4) ↑43))),?_⟩;fail "m";fail "c";fail "f";have ho':=ho;rcases ho' with ⟨rfl,rfl⟩|⟨rfl,rfl⟩
  ·fail ""
   refine d7z ?_;fail "";refine⟨A.gv,cl.Giver,dxg,_,_,_,rfl,eg,rfl,T.k_Giver,GP,?_⟩;fail "";refine⟨A,n,c,os,bk,gs,ts,ps,Gq,Tq,tl,lt,true,A.gv,t,rfl,ho,hL,he,t0,t1,?_⟩;fail "";fail "h";obtain⟨z1,z2⟩:=hL.wasRead ht kp ett hB' hLast.1 ↑52 ↑2 ↑2;obtain⟨dxg2,eg2⟩:=z1.gv;rw[show(4 * ↑114+0).toNat=4*(t % (n:Int)).toNat by lia,a0i c ↑2]
   fail "e";refine⟨A.gv,cl.Giver,dxg2,_,_,_,rfl,eg2,rfl,T.k_Giver,GA,?_⟩;fail "";refine⟨A,n,c,os,bk,gs,ts,ps,Gq,Tq,tl,_,true,A.gv,t,rfl,ho,z1,he,t0,t1,rfl,?_⟩;fail "";rw[show decide (V.int (c ↑52)=V.int (a3o true n t))=decide (c ↑52=a3o true n t) by simp]
   exact k H' z1 z2
  ·fail ""
   refine d7z ?_;fail "";refine⟨A.tk,cl.Taker,dxt,_,_,_,rfl,et,rfl,T.k_Taker,TP,?_⟩;fail "";refine⟨A,n,c,os,bk,gs,ts,ps,Gq,Tq,tl,lt,false,A.tk,t,rfl,ho,hL,he,t0,t1,?_⟩;fail "";fail "h";obtain⟨z1,z2⟩:=hL.wasRead ht kp ett hB' hLast.1 ↑52 ↑2 ↑2;obtain⟨dxt2,et2⟩:=z1.tk;rw[show(4 * ↑114+0).toNat=4*(t % (n:Int)).toNat by lia,a0i c ↑2]
   fail "e";refine⟨A.tk,cl.Taker,dxt2,_,_,_,rfl,et2,rfl,T.k_Taker,TA,?_⟩;fail "";refine⟨A,n,c,os,bk,gs,ts,ps,Gq,Tq,tl,_,false,A.tk,t,rfl,ho,z1,he,t0,t1,rfl,?_⟩;fail "";rw[show decide (V.int (c ↑52)=V.int (a3o false n t))=decide (c ↑52=a3o false n t) by simp]
   exact k H' z1 z2
def a9u(cl:Cl):Sp:=λvs H Q _=>ExL λA n c os bk gs ts ps Gq Tq tl lt=>E3 λ(b:Bool)(h:Addr)(t:Int)=>vs=[.ref h]/\HOf A b h/\↑905/\b8y b Gq Tq=.int t/\0<=t/\t<2*(n:Int)/\∀H',LH cl H' A n c os bk gs ts ps Gq Tq tl (lt.rd ↑52 (c ↑52))->KpA A H H'->Q (.str (if c ↑52=a3o b n t then "number" else "wish")) H'
abbrev b8c:Stmt:=top 63
theorem d1d:i8 ["hand"] ["hand"] (g9 b8c):=↑1
theorem d1o(D:DefT K mg "at_look" b8c ["hand"])(T:↑14)(G_may_go_on:↑901 "may_go_on" 6 ["hand"] (a7z cl)):↑901 "at_look" 7 ["hand"] (a9u cl):=by
 refine D.fn d1d ↑8 ↑3
 ·obtain⟨A,n,c,os,bk,gs,ts,ps,Gq,Tq,tl,lt,b,h,t,rfl,ho,hL,he,t0,t1,k⟩:=h
  refine⟨_,(d7 (m8 (a0w (a9g (m3 G_may_go_on hr ↑4 rfl j4 ↑49)) m4 m4))),?_⟩;fail "";refine⟨A,n,c,os,bk,gs,ts,ps,Gq,Tq,tl,lt,b,h,t,rfl,ho,hL,he,t0,t1,λH' z1 z2=>?_⟩;have q:=k H' z1 z2;fail "";fail "y"
  ·rw[if_pos y] at q;fail "";exact q
  ·rw[if_neg y] at q;fail "";exact q
def a7b(cl:Cl):Sp:=λvs H Q _=>ExL λA n c os bk gs ts ps Gq Tq tl lt=>E3 λ(b:Bool)(h:Addr)(t:Int)=>vs=[.ref h]/\HOf A b h/\↑905/\b8y b Gq Tq=.int t/\0<=t/\t<2*(n:Int)/\∀H',LH cl H' A n c os bk gs ts ps Gq Tq tl (lt.rd ↑52 (c ↑52))->KpA A H H'->Q (.str (if c ↑52=a3o b n t then "unwish" else "sleep")) H'
abbrev b5d:Stmt:=top 65
theorem c7s:i8 ["hand"] ["hand"] (g9 b5d):=↑1
theorem c8p(D:DefT K mg "at_again" b5d ["hand"])(T:↑14)(G_may_go_on:↑901 "may_go_on" 6 ["hand"] (a7z cl)):↑901 "at_again" 7 ["hand"] (a7b cl):=by
 refine D.fn c7s ↑8 ↑3
 ·obtain⟨A,n,c,os,bk,gs,ts,ps,Gq,Tq,tl,lt,b,h,t,rfl,ho,hL,he,t0,t1,k⟩:=h
  refine⟨_,(d7 (m8 (a0w (a9g (m3 G_may_go_on hr ↑4 rfl j4 ↑49)) m4 m4))),?_⟩;fail "";refine⟨A,n,c,os,bk,gs,ts,ps,Gq,Tq,tl,lt,b,h,t,rfl,ho,hL,he,t0,t1,λH' z1 z2=>?_⟩;have q:=k H' z1 z2;fail "";fail "y"
  ·rw[if_pos y] at q;fail "";exact q
  ·rw[if_neg y] at q;fail "";exact q
def a9r(cl:Cl):Sp:=λvs H Q _=>ExL λA n c os bk gs ts ps Gq Tq tl lt=>E3 λ(b:Bool)(h:Addr)(t:Int)=>vs=[.ref h]/\HOf A b h/\↑905/\b8y b Gq Tq=.int t/\0<=t/\t<2*(n:Int)/\∀H',LH cl H' A n (Pr.put c (4*n+b6u b) t) os bk gs ts ps Gq Tq tl (lt.wr (4*n+b6u b) t)->KpA A H H'->Q (.str "again") H'
abbrev b7x:Stmt:=top 64
theorem d0y:i8 ["hand"] ["hand"] (g9 b7x):=↑1
theorem d1j(D:DefT K mg "at_wish" b7x ["hand"])(T:↑14)(G_write_card:↑901 "write_card" 3 ["hand","number"] (a4e cl)):↑901 "at_wish" 4 ["hand"] (a9r cl):=by
 refine D.fn d0y ↑8 ↑3
 ·obtain⟨A,n,c,os,bk,gs,ts,ps,Gq,Tq,tl,lt,b,h,t,rfl,ho,hL,he,t0,t1,k⟩:=h
  refine⟨_,(d6 (j9 (m3 G_write_card hr ↑4 rfl j4 (d5 (pu 0) ↑130)))
   ↑34),?_⟩
  fail "m";fail "c";have ho':=ho;rcases ho' with ⟨rfl,rfl⟩|⟨rfl,rfl⟩
  ·have he:Gq.he=.int t:=he
   fail "as";refine⟨A,n,c,os,bk,gs,ts,ps,Gq,Tq,tl,lt,true,A.gv,t,rfl,ho,hL,λH' z1 z2=>?_⟩;fail "";exact k H' z1 z2
  ·have he:Tq.he=.int t:=he
   fail "as";refine⟨A,n,c,os,bk,gs,ts,ps,Gq,Tq,tl,lt,false,A.tk,t,rfl,ho,hL,λH' z1 z2=>?_⟩;fail "";exact k H' z1 z2
theorem MethT.lift{C:Addr}{m:Str}{j k:Nat}{qs:List Str}{sp:Sp}(M:↑904 C m j qs sp)(h:j<=k):↑904 C m k qs sp:=by
 obtain⟨f,fd,F,hm,hb⟩:=M.ex;exact⟨f,fd,F.mono h,hm,hb⟩
theorem RwsX.pick{A:Ad}{H:Hp}{a:Addr}{os:List ↑28}(h:RwsX A H a os){i:Int}(h0:0<=i)(hi:i<os.length):∃xs p,H a=some (.lst xs)/\atI xs i=some (.ref p)/\H p=some (.lst ((os.getD i.toNat []).map V.int)):=by
 obtain⟨ps,e,l,r⟩:=h;have hp:i.toNat<ps.length:=by lia
 have ho:i.toNat<os.length:=by lia
 refine⟨_,ps[i.toNat],e,?_,?_⟩
 ·unfold atI
  rw[List.length_map,d8u h0 ↑2];show(ps.map V.ref)[i.toNat]?=_;rw[List.getElem?_map,List.getElem?_eq_getElem hp]
  rfl
 ·have z:=(r _ _ _ (List.getElem?_eq_getElem hp) (List.getElem?_eq_getElem ho)).2
  rw[z,List.getD_eq_getElem?_getD,List.getElem?_eq_getElem ho]
  rfl
theorem RwsX.len{A:Ad}{H:Hp}{a:Addr}{os:List ↑28}(h:RwsX A H a os):∃xs,H a=some (.lst xs)/\xs.length=os.length:=by
 obtain⟨ps,e,l,_⟩:=h;exact⟨_,e,by rw[List.length_map];exact l⟩
def a7w(nu le:Int):Bool:=decide (nu=-1) || decide (le<=0)
def a3m(nu le:Int):Int:=if a7w nu le then nu+1 else nu
noncomputable def b0k(os:List ↑28)(nu le:Int):Int:=if a7w nu le then 0 else ((os.getD nu.toNat []).length:Int)-le
noncomputable def a7x(os:List ↑28)(nu le:Int):Int:=((os.getD (a3m nu le).toNat []).length:Int)-b0k os nu le-1
noncomputable def b2q(os:List ↑28)(nu le:Int):Bool:=decide (0<=a3m nu le/\a3m nu le<os.length) && decide (0<=b0k os nu le/\b0k os nu le<((os.getD (a3m nu le).toNat []).length:Int))
def b5p(os:List ↑28)(nu le:Int):Prop:=a7w nu le=true\/(0<=nu/\nu<os.length)
def a0y(cl:Cl):Sp:=λvs H Q _=>ExL λA n c os bk gs ts ps Gq Tq tl lt=>vs=[.ref A.gv]/\↑905/\Q (.bl (a7w Gq.nu Gq.le)) H
noncomputable abbrev a1l:Stmt:=o9 (top 88) 4
theorem a8j:i8 ["self"] ["self"] (g9 a1l):=↑1
theorem a9j(D:DefM K cl.Giver "begins_order" "Giver.begins_order" a1l ["self"])(T:↑14):↑902 "begins_order" 1 ["self"] (a0y cl):=by
 refine D.fn a8j ↑8 ↑3
 ·obtain⟨A,n,c,os,bk,gs,ts,ps,Gq,Tq,tl,lt,rfl,hL,k⟩:=h
  refine⟨_,(d7 (m8 (e0o (a3k a0m ↑5 (a0k T.m_NO_ORDER rfl) ↑43) (c0m (a3k e6x ↑5 i4 ↑43))))),?_⟩;fail "q";fail "c";unfold a7w at k;fail "";rw[show decide (V.int Gq.nu=V.int (-1))=decide (Gq.nu=-1) by simp]
  fail "y"
  ·rw[decide_eq_true y,Bool.true_or] at k;exact k
  ·rw[decide_eq_false y,Bool.false_or] at k
   fail "";exact k
def a4o(cl:Cl):Sp:=λvs H Q _=>ExL λA n c os bk gs ts ps Gq Tq tl lt=>vs=[.ref A.gv]/\↑905/\Q (.int (a3m Gq.nu Gq.le)) H
noncomputable abbrev a2n:Stmt:=o9 (top 88) 5
theorem b1b:i8 ["self"] ["self"] (g9 a2n):=↑1
theorem b2k(D:DefM K cl.Giver "next_order" "Giver.next_order" a2n ["self"])(T:↑14)(G_begins_order:↑902 "begins_order" 1 ["self"] (a0y cl)):↑902 "next_order" 2 ["self"] (a4o cl):=by
 refine D.fn b1b ↑8 ↑3
 ·obtain⟨A,n,c,os,bk,gs,ts,ps,Gq,Tq,tl,lt,rfl,hL,k⟩:=h
  refine⟨_,(d7 (m8 (a0w (a9g (a1n (k:=1) (pu 0) hr ↑4 j4)) (k7 v3 ↑5 i4) ↑5))),?_⟩;fail "q";fail "c";unfold a3m at k;fail "e";refine⟨A.gv,cl.Giver,dxg,_,_,_,rfl,eg,rfl,T.k_Giver,G_begins_order,?_⟩;fail "";refine⟨A,n,c,os,bk,gs,ts,ps,Gq,Tq,tl,lt,rfl,hL,?_⟩;fail "";refine d4w (λy=>?_) (λy=>?_)
  ·rw[y] at k;fail "";exact k
  ·rw[y] at k;fail "";exact k
def a0f(cl:Cl):Sp:=λvs H Q _=>ExL λA n c os bk gs ts ps Gq Tq tl lt=>vs=[.ref A.gv]/\↑905/\b5p os Gq.nu Gq.le/\Q (.int (b0k os Gq.nu Gq.le)) H
noncomputable abbrev a3g:Stmt:=o9 (top 88) 6
theorem b3l:i8 ["self"] ["self"] (g9 a3g):=↑1
theorem b3w(D:DefM K cl.Giver "next_part" "Giver.next_part" a3g ["self"])(T:↑14)(G_begins_order:↑902 "begins_order" 1 ["self"] (a0y cl)):↑902 "next_part" 2 ["self"] (a0f cl):=by
 refine D.fn b3l ↑8 ↑3
 ·obtain⟨A,n,c,os,bk,gs,ts,ps,Gq,Tq,tl,lt,rfl,hL,kn,k⟩:=h
  refine⟨_,(d7 (m8 (a0w (a9g (a1n (k:=1) (pu 0) hr ↑4 j4)) i4 (k7 a2g (v7 ↑42 (by rfl) T.z_len PySem.boot_len (d5 (a0c ↑19 ↑5 ↑5 ↑11) i9)) ↑5)))),?_⟩
  fail "q";fail "c";unfold b0k at k;fail "e";refine⟨A.gv,cl.Giver,dxg,_,_,_,rfl,eg,rfl,T.k_Giver,G_begins_order,?_⟩;fail "";refine⟨A,n,c,os,bk,gs,ts,ps,Gq,Tq,tl,lt,rfl,hL,?_⟩;fail "";refine d4w (λy=>?_) (λy=>?_)
  ·rw[y] at k;fail "";exact k
  ·rw[y] at k
   rcases kn with kn|kn
   ·rw[y] at kn;cases kn
   obtain⟨xs,p,ex,hp,ep⟩:=hL.kept.pick kn.1 kn.2;fail "";refine a1c ex hp ?_;fail "aq";exact k
def a2j(cl:Cl):Sp:=λvs H Q _=>ExL λA n c os bk gs ts ps Gq Tq tl lt=>vs=[.ref A.gv]/\↑905/\↑54/\Q (.int (a7x os Gq.nu Gq.le)) H
noncomputable abbrev a3h:Stmt:=o9 (top 88) 7
theorem b3m:i8 ["self"] ["self"] (g9 a3h):=↑1
theorem b3x(D:DefM K cl.Giver "next_left" "Giver.next_left" a3h ["self"])(T:↑14)(G_next_order:↑39)(G_next_part:↑902 "next_part" 2 ["self"] (a0f cl)):↑902 "next_left" 3 ["self"] (a2j cl):=by
 refine D.fn b3m ↑8 ↑3
 ·obtain⟨A,n,c,os,bk,gs,ts,ps,Gq,Tq,tl,lt,rfl,hL,kn,k⟩:=h
  refine⟨_,(d7 (m8 (k7 a2g (k7 a2g (v7 ↑42 (by rfl) T.z_len PySem.boot_len (d5 (a0c ↑19 ↑5 ↑131 ↑11) i9)) ↑131) i4))),?_⟩
  fail "q";fail "c";unfold a7x at k;obtain⟨xs,p,ex,hp,ep⟩:=hL.kept.pick kn.2.1 kn.2.2;fail "e";fail "p";refine a1c ex hp ?_;fail "aq";refine d7z ?_;fail "";refine⟨A.gv,cl.Giver,dxg,_,_,_,rfl,eg,rfl,T.k_Giver,G_next_part,?_⟩;fail "";refine⟨A,n,c,os,bk,gs,ts,ps,Gq,Tq,tl,lt,rfl,hL,kn.1,?_⟩;fail "";exact k
def a2z(cl:Cl):Sp:=λvs H Q _=>ExL λA n c os bk gs ts ps Gq Tq tl lt=>vs=[.ref A.gv]/\↑905/\b5p os Gq.nu Gq.le/\Q (.bl (b2q os Gq.nu Gq.le)) H
noncomputable abbrev a4b:Stmt:=o9 (top 88) 8
theorem a6m:i8 ["self","order"] ["self"] (g9 a4b):=↑1
theorem b5m(D:DefM K cl.Giver "has_part" "Giver.has_part" a4b ["self"])(T:↑14)(G_next_order:↑39)(G_next_part:↑902 "next_part" 2 ["self"] (a0f cl)):↑902 "has_part" 3 ["self"] (a2z cl):=by
 refine D.fn a6m ↑8 ↑3
 ·obtain⟨A,n,c,os,bk,gs,ts,ps,Gq,Tq,tl,lt,rfl,hL,kn,k⟩:=h
  refine⟨_,(d6 (l9 (i:=1) a6m.nd rfl ↑22 ↑131)
   (d7 (m8 (c9z (c9x rfl T.z_range (pu 1) (d5 ↑146 i9)) (c0m (c9x rfl T.z_range ↑131 (d5 (v7 ↑42 (by rfl) T.z_len PySem.boot_len (d5 (a0c ↑19 ↑5 (pu 1) ↑11) i9)) i9))))))),?_⟩
  fail "q";fail "c";unfold b2q at k;obtain⟨xs,ex,lx⟩:=hL.kept.len;fail "e";fail "p";fail "";refine d4x ?_;fail "";rw[lx];refine d0f ?_;fail "";fail "y"
  ·rw[show decide (0<=a3m Gq.nu Gq.le/\a3m Gq.nu Gq.le<os.length)=true from decide_eq_true y,Bool.true_and] at k
   fail "";refine d4x ?_;fail "e";refine⟨A.gv,cl.Giver,dxg,_,_,_,rfl,eg,rfl,T.k_Giver,G_next_part,?_⟩;fail "";refine⟨A,n,c,os,bk,gs,ts,ps,Gq,Tq,tl,lt,rfl,hL,kn,?_⟩;obtain⟨xs',p,ex',hp,ep⟩:=hL.kept.pick y.1 y.2;fail "";refine a1c ex' hp ?_;fail "aq";refine d0f ?_;exact k
  ·rw[show decide (0<=a3m Gq.nu Gq.le/\a3m Gq.nu Gq.le<os.length)=false from decide_eq_false y,Bool.false_and] at k
   exact k
def a7v(cl:Cl):Sp:=λvs H Q _=>ExL λA n c os bk gs ts ps Gq Tq tl lt=>vs=[.ref A.gv]/\↑905/\(Gq.st="look"->b5p os Gq.nu Gq.le)/\Q (.bl (decide (Gq.st="look") && !b2q os Gq.nu Gq.le)) H
noncomputable abbrev a4w:Stmt:=o9 (top 88) 16
theorem b6p:i8 ["self"] ["self"] (g9 a4w):=↑1
theorem b6t(D:DefM K cl.Giver "resting" "Giver.resting" a4w ["self"])(T:↑14)(G_has_part:↑902 "has_part" 3 ["self"] (a2z cl)):↑902 "resting" 4 ["self"] (a7v cl):=by
 refine D.fn b6p ↑8 ↑3
 ·obtain⟨A,n,c,os,bk,gs,ts,ps,Gq,Tq,tl,lt,rfl,hL,kn,k⟩:=h
  refine⟨_,(d7 (m8 (c9z (a3k a0m ↑5 m4 ↑43) (c0m (d8s ↑140))))),?_⟩;fail "q";fail "c";fail "";rw[show decide (V.str Gq.st=V.str "look")=decide (Gq.st="look") by simp]
  fail "y"
  ·rw[decide_eq_true y,Bool.true_and] at k
   fail "e";refine⟨A.gv,cl.Giver,dxg,_,_,_,rfl,eg,rfl,T.k_Giver,G_has_part,?_⟩;fail "";refine⟨A,n,c,os,bk,gs,ts,ps,Gq,Tq,tl,lt,rfl,hL,kn y,?_⟩;fail "";exact k
  ·rw[decide_eq_false y,Bool.false_and] at k
   exact k
structure DefV(K:↑29)(f:Addr)(x:Str)(st:Stmt)(ps:List Str):Prop where
 ex:∃fd:FuncData,Fun K x x st f fd/\Binds K fd ps []
theorem DefV.fn{f:Addr}{x:Str}{st:Stmt}{N ps:List Str}{k:Nat}{sp:Sp}(D:DefV K f x st ps)(S:i8 N ps ↑89)(len:∀vs H Q E,sp vs H Q E->vs.length=ps.length)(hbody:∀(f:Addr) (cdv:Value) (A:Around) (outer:List Env) (s:Shared) (H:Hp) (vs:List V) (Q:VK) (E:XK),Room k (A.deeper (PyProof.Rows.envOfC x ↑89 s.heap.objs.size f cdv))->sp vs H Q E ->
   ∃t,PSs (c9d (CXK P w) P w K mg base N x ↑89 f cdv A outer s H E) ↑125 t/\t { nx:=λ_ H'=>Q .non H',rt:=Q } (L2.start N vs) H):FnV P w K mg base f (k+1) ps sp:=by
 obtain⟨fd,F,hb⟩:=D.ex;exact⟨fd,F.okX S len (hbody f),F.kp,hb⟩
theorem FnT.toV{x:Str}{k:Nat}{ps:List Str}{sp:Sp}{f:Addr}(F:↑901 x k ps sp)(hm:mg x=some (.ref f)):FnV P w K mg base f k ps sp:=by
 obtain⟨f',fd,F,hm',hk,hb⟩:=F.ex;rw[hm] at hm';cases hm';exact⟨fd,F,hk,hb⟩
theorem d8z{f:Str}{ta:TE}{v:V}{σ:St}{H:Hp}{Q:St->Hp->Prop}(q:ta σ H λx H1=>∃a C dx fs,x=.ref a/\H1 a=some ↑66/\Cls K C/\NoAttr K C f/\fs.length<1000/\Q σ (upd H1 a (.ins C dx (b9q f v fs)))):e8w K ta f v σ H Q:=q
abbrev ahd(n t:Int):Int:=((t + -1) % (2*n)) % n
def a1j(cl:Cl):Sp:=λvs H Q _=>ExL λA n c os bk gs ts ps Gq Tq tl lt=>∃(t:Int),vs=[.ref A.gv]/\↑905/\Gq.he=.int t/\0<=t/\t<2*(n:Int)/\Q (.int (ahd n t)) H
noncomputable abbrev a2a:Stmt:=o9 (top 88) 3
theorem a4d:i8 ["self","size"] ["self"] (g9 a2a):=↑1
theorem b0j(D:DefM K cl.Giver "place_ahead" "Giver.place_ahead" a2a ["self"])(T:↑14)(G_place_of:↑901 "place_of" 3 ["size","turn"] (a6t cl))(G_onward:↑45):↑902 "place_ahead" 4 ["self"] (a1j cl):=by
 refine D.fn a4d ↑8 ↑3
 ·obtain⟨A,n,c,os,bk,gs,ts,ps,Gq,Tq,tl,lt,t,rfl,hL,he,t0,t1,k⟩:=h
  refine⟨_,(d6 (l9 (i:=1) a4d.nd rfl ↑22 ↑133)
   (d7 (m8 (m3 G_place_of hr ↑4 rfl j4 (d5 (pu 1) (d5 (m3 G_onward hr ↑4 rfl j4 (d5 (pu 1) (d5 ↑5 (d5 (d1g c0c i4) i9)))) i9)))))),?_⟩
  fail "q";fail "a";fail "as";refine⟨n,t,_,rfl,a0h ↑2 ↑2 t0 t1 ?_⟩;fail "";exact⟨n,_,rfl,a0h ↑2 ↑2 o0 o1 k⟩
def b4f(cl:Cl):Sp:=λvs H Q _=>ExL λA n c os bk gs ts ps Gq Tq tl lt=>∃(t:Int),vs=[.ref A.gv]/\↑905/\Gq.he=.int t/\0<=t/\t<2*(n:Int)/\∀H',LH cl H' A n c os bk gs ts ps { Gq with nu:=c (4*(ahd n t).toNat+1) } Tq tl (lt.rd (4*(ahd n t).toNat+1) (c (4*(ahd n t).toNat+1)))->KpA A H H'->Q (.str "lacks") H'
abbrev b7y:Stmt:=top 78
theorem d0z:i8 ["giver"] ["giver"] (g9 b7y):=↑1
theorem d1k(D:DefT K mg "at_told" b7y ["giver"])(T:↑14)(G_Board_read:↑24)(G_number_cell:↑901 "number_cell" 1 ["place"] (a0b 1))(G_Giver_place_ahead:↑902 "place_ahead" 4 ["self"] (a1j cl)):↑901 "at_told" 5 ["giver"] (b4f cl):=by
 refine D.fn d0z ↑8 ↑3
 ·obtain⟨A,n,c,os,bk,gs,ts,ps,Gq,Tq,tl,lt,t,rfl,hL,he,t0,t1,k⟩:=h
  refine⟨_,(d6 (o8 (K:=K) (pu 0) (a2s ↑5 T.k_Board G_Board_read hr ↑4 j4 (d5 (m3 G_number_cell hr ↑4 rfl j4 ↑147) i9)))
   ↑34),?_⟩
  fail "q";fail "a";fail "e";refine⟨A.gv,cl.Giver,dxg,_,_,_,rfl,eg,rfl,T.k_Giver,G_Giver_place_ahead,?_⟩;fail "";refine⟨A,n,c,os,bk,gs,ts,ps,Gq,Tq,tl,lt,t,rfl,hL,he,t0,t1,?_⟩;fail "";fail "h";obtain⟨z1,z2⟩:=hL.wasRead ht kp ett hB' hLast.1 (4*(ahd n t).toNat+1) ↑2 ↑2;obtain⟨dxg2,eg2⟩:=z1.gv;rw[show(4*ahd n t+1).toNat=4*(ahd n t).toNat+1 by lia,a0i c ↑2]
  fail "";exact k _ (z1.setG (dx:=dxg2) (G':={ Gq with nu:=c (4*(ahd n t).toNat+1) })) (z2.trans (KpA.upd (j:=2) (by lia)))
def b0y(cl:Cl):Sp:=λvs H Q _=>ExL λA n c os bk gs ts ps Gq Tq tl lt=>∃(t:Int),vs=[.ref A.gv]/\↑905/\Gq.he=.int t/\0<=t/\t<2*(n:Int)/\∀H',LH cl H' A n c os bk gs ts ps { Gq with le:=c (4*(ahd n t).toNat+2) } Tq tl (lt.rd (4*(ahd n t).toNat+2) (c (4*(ahd n t).toNat+2)))->KpA A H H'->Q (.str "look") H'
abbrev b5b:Stmt:=top 79
theorem c7q:i8 ["giver"] ["giver"] (g9 b5b):=↑1
theorem c8n(D:DefT K mg "at_lacks" b5b ["giver"])(T:↑14)(G_Board_read:↑24)(G_left_cell:↑901 "left_cell" 1 ["place"] (a0b 2))(G_Giver_place_ahead:↑902 "place_ahead" 4 ["self"] (a1j cl)):↑901 "at_lacks" 5 ["giver"] (b0y cl):=by
 refine D.fn c7q ↑8 ↑3
 ·obtain⟨A,n,c,os,bk,gs,ts,ps,Gq,Tq,tl,lt,t,rfl,hL,he,t0,t1,k⟩:=h
  refine⟨_,(d6 (o8 (K:=K) (pu 0) (a2s ↑5 T.k_Board G_Board_read hr ↑4 j4 (d5 (m3 G_left_cell hr ↑4 rfl j4 ↑147) i9)))
   ↑34),?_⟩
  fail "q";fail "a";fail "e";refine⟨A.gv,cl.Giver,dxg,_,_,_,rfl,eg,rfl,T.k_Giver,G_Giver_place_ahead,?_⟩;fail "";refine⟨A,n,c,os,bk,gs,ts,ps,Gq,Tq,tl,lt,t,rfl,hL,he,t0,t1,?_⟩;fail "";fail "h";obtain⟨z1,z2⟩:=hL.wasRead ht kp ett hB' hLast.1 (4*(ahd n t).toNat+2) ↑2 ↑2;obtain⟨dxg2,eg2⟩:=z1.gv;rw[show(4*ahd n t+2).toNat=4*(ahd n t).toNat+2 by lia,a0i c ↑2]
  fail "";exact k _ (z1.setG (dx:=dxg2) (G':={ Gq with le:=c (4*(ahd n t).toNat+2) })) (z2.trans (KpA.upd (j:=2) (by lia)))
def a0u(cl:Cl):Sp:=λvs H Q _=>ExL λA n c os bk gs ts ps Gq Tq tl lt=>∃(t:Int),vs=[.ref A.gv]/\↑905/\Gq.he=.int t/\0<=t/\t<2*(n:Int)/\∀H',LH cl H' A n (Pr.put c (4*(t % (n:Int)).toNat+1) (a3m Gq.nu Gq.le)) os bk gs ts ps Gq Tq tl (lt.wr (4*(t % (n:Int)).toNat+1) (a3m Gq.nu Gq.le))->KpA A H H'->Q (.str "left") H'
abbrev a3d:Stmt:=top 80
theorem b3i:i8 ["giver"] ["giver"] (g9 a3d):=↑1
theorem b3s{fa:Addr}(D:DefV K fa "at_number" a3d ["giver"])(T:↑14)(G_Board_write:↑20)(G_number_cell:↑901 "number_cell" 1 ["place"] (a0b 1))(GP:↑61)(G_next_order:↑39):FnV P w K mg base fa 5 ["giver"] (a0u cl):=by
 refine D.fn b3i ↑8 ↑3
 ·obtain⟨A,n,c,os,bk,gs,ts,ps,Gq,Tq,tl,lt,t,rfl,hL,he,t0,t1,k⟩:=h
  refine⟨_,(d6 (j9 (a2s ↑5 T.k_Board G_Board_write hr ↑4 j4 (d5 (m3 G_number_cell hr ↑4 rfl j4 ↑147) (d5 ↑131 i9))))
   ↑34),?_⟩
  fail "q";fail "a";fail "e";fail "o";fail "e";fail "p";fail "";fail "aj";fail "j";rw[show(4 * ↑114+1).toNat=4*(t % (n:Int)).toNat+1 by lia] at hB'
  obtain⟨z1,z2⟩:=hL.wrote (k:=4*(t % (n:Int)).toNat+1) ↑2 ht kp (by rw[ett];rw[show(4 * ↑114+1)=((4*(t % (n:Int)).toNat+1:Nat):Int) by lia]) hB' hLast.1
  fail "";exact k H' z1 z2
def a1r(cl:Cl):Sp:=λvs H Q _=>ExL λA n c os bk gs ts ps Gq Tq tl lt=>∃(t:Int),vs=[.ref A.gv]/\↑905/\Gq.he=.int t/\0<=t/\t<2*(n:Int)/\↑54/\∀H',LH cl H' A n (Pr.put c (4*(t % (n:Int)).toNat+2) (a7x os Gq.nu Gq.le)) os bk gs ts ps Gq Tq tl (lt.wr (4*(t % (n:Int)).toNat+2) (a7x os Gq.nu Gq.le))->KpA A H H'->Q (.str "thing") H'
abbrev a4t:Stmt:=top 82
theorem b6n:i8 ["giver"] ["giver"] (g9 a4t):=↑1
theorem b6r{fa:Addr}(D:DefV K fa "at_left" a4t ["giver"])(T:↑14)(G_Board_write:↑20)(G_left_cell:↑901 "left_cell" 1 ["place"] (a0b 2))(GP:↑61)(G_next_left:↑902 "next_left" 3 ["self"] (a2j cl)):FnV P w K mg base fa 5 ["giver"] (a1r cl):=by
 refine D.fn b6n ↑8 ↑3
 ·obtain⟨A,n,c,os,bk,gs,ts,ps,Gq,Tq,tl,lt,t,rfl,hL,he,t0,t1,kn,k⟩:=h
  refine⟨_,(d6 (j9 (a2s ↑5 T.k_Board G_Board_write hr ↑4 j4 (d5 (m3 G_left_cell hr ↑4 rfl j4 ↑147) (d5 ↑140 i9))))
   ↑34),?_⟩
  fail "q";fail "a";fail "e";fail "o";fail "e";refine⟨A.gv,cl.Giver,dxg,_,_,_,rfl,eg,rfl,T.k_Giver,G_next_left,?_⟩;fail "";refine⟨A,n,c,os,bk,gs,ts,ps,Gq,Tq,tl,lt,rfl,hL,kn,?_⟩;fail "";fail "aj";fail "j";rw[show(4 * ↑114+2).toNat=4*(t % (n:Int)).toNat+2 by lia] at hB'
  obtain⟨z1,z2⟩:=hL.wrote (k:=4*(t % (n:Int)).toNat+2) ↑2 ht kp (by rw[ett];rw[show(4 * ↑114+2)=((4*(t % (n:Int)).toNat+2:Nat):Int) by lia]) hB' hLast.1
  fail "";exact k H' z1 z2
def a1e(cl:Cl):Sp:=λvs H Q _=>ExL λA n c os bk gs ts ps Gq Tq tl lt=>∃(t:Int),vs=[.ref A.gv]/\↑905/\Gq.he=.int t/\0<=t/\t<2*(n:Int)/\(b5p os Gq.nu Gq.le/\(0<=a3m Gq.nu Gq.le/\a3m Gq.nu Gq.le<os.length)/\0<=b0k os Gq.nu Gq.le/\b0k os Gq.nu Gq.le<((os.getD (a3m Gq.nu Gq.le).toNat []).length:Int))/\∀H',LH cl H' A n (Pr.put c ↑51 ((os.getD (a3m Gq.nu Gq.le).toNat []).getD (b0k os Gq.nu Gq.le).toNat 0)) os bk gs ts ps Gq Tq tl (lt.wr ↑51 ((os.getD (a3m Gq.nu Gq.le).toNat []).getD (b0k os Gq.nu Gq.le).toNat 0))->KpA A H H'->Q (.str "mark") H'
abbrev a3y:Stmt:=top 84
theorem a6j:i8 ["giver","order"] ["giver"] (g9 a3y):=↑1
theorem b5j{fa:Addr}(D:DefV K fa "at_thing" a3y ["giver"])(T:↑14)(G_Board_write:↑20)(G_thing_cell:↑901 "thing_cell" 1 ["place"] (a0b 3))(GP:↑61)(G_next_order:↑39)(G_next_part:↑902 "next_part" 2 ["self"] (a0f cl)):FnV P w K mg base fa 5 ["giver"] (a1e cl):=by
 refine D.fn a6j ↑8 ↑3
 ·obtain⟨A,n,c,os,bk,gs,ts,ps,Gq,Tq,tl,lt,t,rfl,hL,he,t0,t1,kn,k⟩:=h
  refine⟨_,(d6 (l9 (i:=1) a6j.nd rfl ↑22 (a0c ↑19 ↑5 ↑131 ↑11))
   (d6 (j9 (a2s ↑5 T.k_Board G_Board_write hr ↑4 j4 (d5 (m3 G_thing_cell hr ↑4 rfl j4 ↑147) (d5 (a0c ↑19 (pu 1) ↑131 ↑11) i9))))
   ↑34)),?_⟩
  fail "q";fail "a";obtain⟨xs,p,ex,hp,ep⟩:=hL.kept.pick kn.2.1.1 kn.2.1.2;fail "e";fail "p";refine a1c ex hp ?_;fail "e";fail "o";fail "e";refine⟨A.gv,cl.Giver,dxg,_,_,_,rfl,eg,rfl,T.k_Giver,G_next_part,?_⟩;fail "";refine⟨A,n,c,os,bk,gs,ts,ps,Gq,Tq,tl,lt,rfl,hL,kn.1,?_⟩;refine a1c ep (c7d kn.2.2.1 kn.2.2.2) ?_;fail "";fail "aj";fail "j";rw[show(4 * ↑114+3).toNat=4*(t % (n:Int)).toNat+3 by lia] at hB'
  obtain⟨z1,z2⟩:=hL.wrote (k:=4*(t % (n:Int)).toNat+3) ↑2 ht kp (by rw[ett];rw[show(4 * ↑114+3)=((4*(t % (n:Int)).toNat+3:Nat):Int) by lia]) hB' hLast.1
  fail "";exact k H' z1 z2
def b4g(cl:Cl):Sp:=λvs H Q _=>ExL λA n c os bk gs ts ps Gq Tq tl lt=>∃(t:Int),vs=[.ref A.gv]/\↑905/\Gq.he=.int t/\0<=t/\t<2*(n:Int)/\∀H',LH cl H' A n (Pr.put c (4*(t % (n:Int)).toNat+0) (2*(t / (n:Int))+1)) os bk gs ts ps Gq Tq tl (lt.wr (4*(t % (n:Int)).toNat+0) (2*(t / (n:Int))+1))->KpA A H H'->Q (.str "card") H'
abbrev b8b:Stmt:=top 86
theorem d1c:i8 ["giver"] ["giver"] (g9 b8b):=↑1
theorem d1n(D:DefT K mg "at_mark" b8b ["giver"])(T:↑14)(G_Board_write:↑20)(G_mark_cell:↑901 "mark_cell" 1 ["place"] (a0b 0))(GP:↑61)(G_full_mark:↑901 "full_mark" 4 ["size","turn"] (a8d cl)):↑901 "at_mark" 5 ["giver"] (b4g cl):=by
 refine D.fn d1c ↑8 ↑3
 ·obtain⟨A,n,c,os,bk,gs,ts,ps,Gq,Tq,tl,lt,t,rfl,hL,he,t0,t1,k⟩:=h
  refine⟨_,(d6 (j9 (a2s ↑5 T.k_Board G_Board_write hr ↑4 j4 (d5 (m3 G_mark_cell hr ↑4 rfl j4 ↑147) (d5 (m3 G_full_mark hr ↑4 rfl j4 ↑129) i9))))
   ↑34),?_⟩
  fail "q";fail "a";fail "e";fail "o";fail "as";refine⟨n,t,rfl,a0h ↑2 ↑2 t0 t1 ?_⟩;fail "";fail "aj";fail "j";rw[show(4 * ↑114+0).toNat=4*(t % (n:Int)).toNat+0 by lia] at hB'
  obtain⟨z1,z2⟩:=hL.wrote (k:=4*(t % (n:Int)).toNat+0) ↑2 ht kp (by rw[ett];rw[show(4 * ↑114+0)=((4*(t % (n:Int)).toNat+0:Nat):Int) by lia]) hB' hLast.1
  fail "";exact k H' z1 z2
def a1i(cl:Cl):Sp:=λvs H Q _=>ExL λA n c os bk gs ts ps Gq Tq tl lt=>∃(t:Int),vs=[.ref A.gv]/\↑905/\Gq.he=.int t/\0<=t/\t<2*(n:Int)/\Q (.int t) H
noncomputable abbrev a1z:Stmt:=o9 (top 88) 14
theorem b0g:i8 ["self"] ["self"] (g9 a1z):=↑1
theorem b0i(D:DefM K cl.Giver "turn_served" "Giver.turn_served" a1z ["self"])(T:↑14):↑902 "turn_served" 1 ["self"] (a1i cl):=by
 refine D.fn b0g ↑8 ↑3
 ·obtain⟨A,n,c,os,bk,gs,ts,ps,Gq,Tq,tl,lt,t,rfl,hL,he,t0,t1,k⟩:=h
  refine⟨_,(d7 (m8 ↑5)),?_⟩;fail "q";fail "a";fail "as";exact k
theorem c9m{row:List Int}{H:Hp}{E:XK}{k:Nat->Hp->Prop}{f:Nat}(h:a5s (toB row)=some f)(q:∀H',Same H H'->k f H'):d9l cl row H E k:=by
 refine⟨λf' H' s e=>?_,λH' s e=>?_⟩
 ·rw[h] at e;cases e;exact q H' s
 ·rw[h] at e;cases e
def a5j(K:↑29)(cl:Cl):Sp:=λvs H Q _=>ExL λA n c os bk gs ts ps Gq Tq tl lt=>E4 λ(t:Int)(m:Addr)(ms:List Int)(f:Nat)=>vs=[.ref A.gv,.ref m]/\↑905/\H m=some (.lst (ms.map V.int))/\ms.length=n/\a2u ms=true/\a5s (toB (ms.map d7i))=some f/\∀H',LH cl H' A n c os bk gs ts ps { Gq with he:=.int (f:Nat) } Tq tl lt->KpA A H H'->Q .non H'
noncomputable abbrev a3i:Stmt:=o9 (top 88) 12
theorem b3n:i8 ["self","marks"] ["self","marks"] (g9 a3i):=↑1
theorem b3y(D:DefM K cl.Giver "know_turn" "Giver.know_turn" a3i ["self","marks"])(T:↑14)(G_giver_turn:↑901 "giver_turn" 5 ["marks"] (b2u K cl)):↑902 "know_turn" 6 ["self","marks"] (a5j K cl):=by
 refine D.fn b3n ↑8 ↑3
 ·obtain⟨A,n,c,os,bk,gs,ts,ps,Gq,Tq,tl,lt,t,m,ms,f,rfl,hL,em,lm,mo,fr,k⟩:=h
  refine⟨_,(d7 (o8 (K:=K) (pu 0) (m3 G_giver_turn hr ↑4 rfl j4 ↑64))),?_⟩;fail "q";fail "c";fail "";refine⟨m,ms,rfl,SqL.of em,⟨_,em⟩,c6i ↑2 ↑2 mo (c9m fr λH1 s1=>?_)⟩;have z1:=hL.same s1;obtain⟨dxg2,eg2⟩:=z1.gv;fail "";exact k _ (z1.setG (dx:=dxg2) (G':={ Gq with he:=.int (f:Nat) })) ((KpA.of s1).trans (KpA.upd (j:=2) (by lia)))
def a5w(cl:Cl):Sp:=λvs H Q _=>ExL λA n c os bk gs ts ps Gq Tq tl lt=>∃(t:Int),vs=[.ref A.gv]/\↑905/\Gq.he=.int t/\0<=t/\t<2*(n:Int)/\↑54/\∀H',LH cl H' A n c os bk gs ts ps { Gq with he:=.int ((t+1) % (2*(n:Int))),nu:=a3m Gq.nu Gq.le,le:=a7x os Gq.nu Gq.le } Tq tl lt->KpA A H H'->Q (.str "look") H'
noncomputable abbrev a7o:Stmt:=o9 (top 88) 15
theorem b9m:i8 ["self"] ["self"] (g9 a7o):=↑1
theorem b9z(D:DefM K cl.Giver "go_on" "Giver.go_on" a7o ["self"])(T:↑14)(G_next_order:↑39)(G_next_left:↑902 "next_left" 3 ["self"] (a2j cl))(G_onward:↑45):↑902 "go_on" 4 ["self"] (a5w cl):=by
 refine D.fn b9m ↑8 ↑3
 ·obtain⟨A,n,c,os,bk,gs,ts,ps,Gq,Tq,tl,lt,t,rfl,hL,he,t0,t1,kn,k⟩:=h
  refine⟨_,(d6 (c0l (a2x (d5 ↑131 (d5 ↑140 i9))) (e0n (K:=K) rfl (c9w (d3h (K:=K) (pu 0)) (c9w (d3h (K:=K) (pu 0)) e0m))))
   (d6 (o8 (K:=K) (pu 0) (m3 G_onward hr ↑4 rfl j4 (d5 ↑133 (d5 ↑5 ↑25))))
   ↑34)),?_⟩
  fail "q";fail "a";fail "e";fail "p";fail "e";refine⟨A.gv,cl.Giver,dxg,_,_,_,rfl,eg,rfl,T.k_Giver,G_next_left,?_⟩;fail "";refine⟨A,n,c,os,bk,gs,ts,ps,Gq,Tq,tl,lt,rfl,hL,kn,?_⟩;fail "";refine⟨by show 2<=sizeLine;decide,λp hp=>?_⟩
  have z1:=hL.same (j1 (o:=.tup [.int (a3m Gq.nu Gq.le),.int (a7x os Gq.nu Gq.le)]) hp);obtain⟨dxg2,eg2⟩:=z1.gv;refine⟨p,_,rfl,SqT.of d9,rfl,_,_,rfl,d8z ?_⟩;fail "";refine⟨_,_,rfl,d8z ?_⟩;fail "";refine⟨rfl,?_⟩;have z2:=z1.setG (dx:=dxg2) (G':={ Gq with nu:=a3m Gq.nu Gq.le })
  have z3:=z2.setG (dx:=dxg2) (G':={ Gq with nu:=a3m Gq.nu Gq.le,le:=a7x os Gq.nu Gq.le })
  have ka:KpA A H _:=((KpA.of (j1 (o:=.tup [.int (a3m Gq.nu Gq.le),.int (a7x os Gq.nu Gq.le)]) hp)).trans (KpA.upd (A:=A) (j:=2) (o:=gvO cl dxg2 A { Gq with nu:=a3m Gq.nu Gq.le }) (by lia))).trans (KpA.upd (A:=A) (j:=2) (o:=gvO cl dxg2 A { Gq with nu:=a3m Gq.nu Gq.le,le:=a7x os Gq.nu Gq.le }) (by lia))
  refine b9b (by assumption) ?_
  revert z3 ka
  change _->_->e5v _ _ _ _ (upd (upd (upd H p (.tup [.int (a3m Gq.nu Gq.le),.int (a7x os Gq.nu Gq.le)])) A.gv (gvO cl dxg2 A { Gq with nu:=a3m Gq.nu Gq.le })) A.gv (gvO cl dxg2 A { Gq with nu:=a3m Gq.nu Gq.le,le:=a7x os Gq.nu Gq.le }))
  generalize upd (upd (upd H p (.tup [.int (a3m Gq.nu Gq.le),.int (a7x os Gq.nu Gq.le)])) A.gv (gvO cl dxg2 A { Gq with nu:=a3m Gq.nu Gq.le })) A.gv (gvO cl dxg2 A { Gq with nu:=a3m Gq.nu Gq.le,le:=a7x os Gq.nu Gq.le })=H3
  intro z3 ka;obtain⟨dxg3,eg3⟩:=z3.gv;obtain⟨many3,last3,hB3,hLast3⟩:=z3.brd;obtain⟨⟨dxb3,eb3⟩,el3,hlen3,_,_⟩:=id hB3;fail "as";refine⟨n,t,_,rfl,a0h ↑2 ↑2 t0 t1 ?_⟩;fail "";exact k _ (z3.setG (dx:=dxg3) (G':={ Gq with he:=.int ((t+1) % (2*(n:Int))),nu:=a3m Gq.nu Gq.le,le:=a7x os Gq.nu Gq.le })) (ka.trans (KpA.upd (j:=2) (by lia)))
section
variable{H H':Hp}{A:Ad}{n:Nat}{c:Pr.Cells}{os bk:List ↑28}{gs ts ps:List Int}{Gq:Gm}{Tq:Tm}{tl:List Tr}{lt:Lt}
theorem LH.setPa{qs:List Int}(h:↑46):LH cl (upd H A.pa (.lst (qs.map V.int))) A n c os bk gs ts qs Gq Tq tl lt:=by
 have ne:∀i,i<8->i≠7->A.o i≠A.pa:=λi h8 h2=>h.nd i 7 h8 ↑2 h2;obtain⟨m,l,hB,hL⟩:=h.brd;refine⟨⟨m,l,hB.keep (ps:=[A.pa]) (Kp.upd (by simp)) ↑142 ↑141,hL.kpa (KpA.upd (j:=7) ↑2)⟩,?_,?_,?_,?_,h.kept.set (j:=7) ↑2 rfl (ne 5 ↑2 ↑2),h.book.set (j:=7) ↑2 rfl (ne 6 ↑2 ↑2),d9,?_,h.nd,h.om,h.fo.updO h.nd 7 ↑2 ↑2 ↑2 ↑2⟩
 fail "af";fail "ae"
 ·rw[d8 (h.om 7 ↑2).1];exact h.mg
 ·rw[d8 (h.om 7 ↑2).2];exact h.mt
 ·exact h.tr.kpa (KpA.upd (j:=7) ↑2) λo z=>by rw[d8 (ne 4 ↑2 ↑2)];exact z
theorem LH.setTr{xs:List V}{p:Addr}{t:Tr}(h:↑46)(ex:H A.kt=some (.lst xs))(op:∀j,j<8->p≠A.o j)(fp:¬ A.fo p)(ep:H p=some (d6b t)):LH cl (upd H A.kt (.lst (xs++[.ref p]))) A n c os bk gs ts ps Gq Tq (tl++[t]) lt:=by
 have ne:∀i,i<8->i≠4->A.o i≠A.kt:=λi h8 h2=>h.nd i 4 h8 ↑2 h2;obtain⟨m,l,hB,hL⟩:=h.brd;refine⟨⟨m,l,hB.keep (ps:=[A.kt]) (Kp.upd (by simp)) ↑142 ↑141,hL.kpa (KpA.upd (j:=4) ↑2)⟩,?_,?_,?_,?_,h.kept.set (j:=4) ↑2 rfl (ne 5 ↑2 ↑2),h.book.set (j:=4) ↑2 rfl (ne 6 ↑2 ↑2),?_,?_,h.nd,h.om,h.fo.updO h.nd 4 ↑2 ↑2 ↑2 ↑2⟩
 fail "af";fail "ae"
 ·rw[d8 (h.om 4 ↑2).1];exact h.mg
 ·rw[d8 (h.om 4 ↑2).2];exact h.mt
 fail "ao"
 ·obtain⟨qs,e,l,r⟩:=h.tr
  rw[e] at ex;cases ex;refine⟨qs++[p],by rw[d9,List.map_append];rfl,by rw[List.length_append,List.length_append,l];rfl,λi q u hq hu=>?_⟩
  by_cases y:i<qs.length
  ·rw[List.getElem?_append_left y] at hq
   rw[List.getElem?_append_left ↑2] at hu;obtain⟨r1,r2,r3⟩:=r i q u hq hu;exact⟨r1,r2,by rw[d8 (r1 4 ↑2)];exact r3⟩
  ·rw[List.getElem?_append_right ↑2] at hq hu
   have i0:i-qs.length=0:=by
    by_cases z:i-qs.length=0
    ·exact z
    ·rw[List.getElem?_eq_none (by simp;lia)] at hq;cases hq
   rw[i0] at hq;rw[<- l,i0] at hu;cases hq;cases hu;exact⟨op,fp,by rw[d8 (op 4 ↑2)];exact ep⟩
noncomputable def Ad.setPa(A:Ad)(p:Addr):Ad:={ A with o:=λj=>if j=7 then p else A.o j }
theorem Ad.setPa_o{A:Ad}{p:Addr}{j:Nat}(h:j≠7):(A.setPa p).o j=A.o j:=if_neg h
theorem Ad.setPa_7{A:Ad}{p:Addr}:(A.setPa p).o 7=p:=by
 show(if 7=7 then p else A.o 7)=p;exact if_pos rfl
theorem LH.move{p dx:Addr}{bk':List ↑28}(h:↑46)(k:Kp [A.kk,A.tk] H H')(hp:H p=none)(ep:H' p=some (.lst []))(et:H' A.tk=some (tkO cl dx (A.setPa p) Tq))(hk:RwsX (A.setPa p) H' A.kk bk')(hf:∀x,A.fo x->Unr H' A.kk x):LH cl H' (A.setPa p) n c os bk' gs ts [] Gq Tq tl lt:=by
 have ne:∀i,i<8->i≠6->i≠3->A.o i ∉ [A.kk,A.tk]:=λi h8 h6 h3=>by
  simp only[List.mem_cons,List.not_mem_nil,or_false,not_or];exact⟨h.nd i 6 h8 ↑2 h6,h.nd i 3 h8 ↑2 h3⟩
 have offp:=h.off hp;obtain⟨m,l,hB,hL⟩:=h.brd;have kz:KpA A H H':=KpA.kp k λx hx=>by
  simp only[List.mem_cons,List.not_mem_nil,or_false] at hx;rcases hx with rfl|rfl
  ·exact⟨6,by lia,rfl⟩
  ·exact⟨3,by lia,rfl⟩
 refine⟨⟨m,l,hB.keep k (ne 0 ↑2 ↑2 ↑2) (ne 1 ↑2 ↑2 ↑2),hL.1,hL.2.1,λq0 z=>?_⟩,?_,⟨dx,et⟩,k _ _ h.mg ?_,k _ _ h.mt ?_,?_,hk,ep,?_,?_,?_,?_⟩
 ·obtain⟨t,e,n1,q⟩:=hL.2.2 q0 z
  refine⟨t,e,λj hj=>?_,kz _ _ q n1⟩;by_cases e7:j=7
  ·subst e7;rw[Ad.setPa_7];exact k8 q hp
  ·rw[Ad.setPa_o e7];exact n1 j hj
 ·obtain⟨d,z⟩:=h.gv
  exact⟨d,k _ _ z (ne 2 ↑2 ↑2 ↑2)⟩
 ·simp only[List.mem_cons,List.not_mem_nil,or_false,not_or];exact⟨(h.om 6 ↑2).1,(h.om 3 ↑2).1⟩
 ·simp only[List.mem_cons,List.not_mem_nil,or_false,not_or];exact⟨(h.om 6 ↑2).2,(h.om 3 ↑2).2⟩
 ·obtain⟨qs,e,l,r⟩:=h.kept
  refine⟨qs,k _ _ e (ne 5 ↑2 ↑2 ↑2),l,λi q o hq ho=>?_⟩;obtain⟨a,b⟩:=r i q o hq ho;refine⟨λj hj=>?_,kz _ _ b a⟩;by_cases e7:j=7
  ·subst e7;rw[Ad.setPa_7];exact k8 b hp
  ·rw[Ad.setPa_o e7];exact a j hj
 ·refine h.tr.gen (λo z=>k _ _ z (ne 4 ↑2 ↑2 ↑2)) λq o e n1 f=>⟨λj hj=>?_,f,kz _ _ e n1⟩
  by_cases e7:j=7
  ·subst e7;rw[Ad.setPa_7];exact k8 e hp
  ·rw[Ad.setPa_o e7];exact n1 j hj
 ·intro i j hi hj hij
  by_cases i7:i=7
  ·subst i7
   rw[Ad.setPa_7,Ad.setPa_o (Ne.symm hij)];exact offp j hj
  ·rw[Ad.setPa_o i7]
   by_cases j7:j=7
   ·subst j7
    rw[Ad.setPa_7];exact(offp i hi).symm
   ·rw[Ad.setPa_o j7]
    exact h.nd i j hi hj hij
 ·intro i hi
  by_cases i7:i=7
  ·subst i7
   rw[Ad.setPa_7];exact⟨k8 h.mg hp,k8 h.mt hp⟩
  ·rw[Ad.setPa_o i7]
   exact h.om i hi
 ·intro x hx
  obtain⟨⟨o,a⟩,b,c1,d,e,f,g⟩:=h.fo x hx;obtain⟨o5,z5⟩:=h.has 5 ↑2;obtain⟨o0,z0⟩:=h.has 0 ↑2;have y5:H' A.kg=H A.kg:=(k _ _ z5 (ne 5 ↑2 ↑2 ↑2)).trans z5.symm;have y0:H' A.bd=H A.bd:=(k _ _ z0 (ne 0 ↑2 ↑2 ↑2)).trans z0.symm;refine⟨⟨o,kz _ _ a b⟩,λj hj=>?_,c1,d,(λxs z=>e xs (y5 ▸ z)),hf x hx,(λC dx fs z=>g C dx fs (y0 ▸ z))⟩;by_cases e7:j=7
  ·subst e7;rw[Ad.setPa_7];exact k8 a hp
  ·rw[Ad.setPa_o e7];exact b j hj
def Nx(A A':Ad)(H:Hp):Prop:=(∀j,j<7->A'.o j=A.o j)/\(A'.o 7=A.o 7\/H (A'.o 7)=none)/\A'.fo=A.fo
theorem Nx.refl(A:Ad)(H:Hp):Nx A A H:=⟨λ_ _=>rfl,.inl rfl,rfl⟩
theorem Nx.pa{p:Addr}(hp:H p=none):Nx A (A.setPa p) H:=⟨λj hj=>Ad.setPa_o ↑2,.inr (by rw[Ad.setPa_7];exact hp),rfl⟩
end
def a0t(cl:Cl):Sp:=λvs H Q _=>ExL λA n c os bk gs ts ps Gq Tq tl lt=>∃(t:Int),vs=[.ref A.tk]/\↑905/\Tq.he=.int t/\0<=t/\t<2*(n:Int)/\∀H',LH cl H' A n c os bk gs ts ps Gq { Tq with nu:=c (4*(t % (n:Int)).toNat+1) } tl (lt.rd (4*(t % (n:Int)).toNat+1) (c (4*(t % (n:Int)).toNat+1)))->KpA A H H'->Q (.str "left") H'
abbrev a3c:Stmt:=top 90
theorem b3h:i8 ["taker"] ["taker"] (g9 a3c):=↑1
theorem b3r{fa:Addr}(D:DefV K fa "at_number" a3c ["taker"])(T:↑14)(G_Board_read:↑24)(G_number_cell:↑901 "number_cell" 1 ["place"] (a0b 1))(TP:↑903 "place" 4 ["self"] (a1f cl)):FnV P w K mg base fa 5 ["taker"] (a0t cl):=by
 refine D.fn b3h ↑8 ↑3
 ·obtain⟨A,n,c,os,bk,gs,ts,ps,Gq,Tq,tl,lt,t,rfl,hL,he,t0,t1,k⟩:=h
  refine⟨_,(d6 (o8 (K:=K) (pu 0) (a2s ↑5 T.k_Board G_Board_read hr ↑4 j4 (d5 (m3 G_number_cell hr ↑4 rfl j4 ↑147) i9)))
   ↑34),?_⟩
  obtain⟨dxt,et⟩:=hL.tk;fail "c";fail "f";fail "e";refine⟨A.tk,cl.Taker,dxt,_,_,_,rfl,et,rfl,T.k_Taker,TP,?_⟩;fail "";refine⟨A,n,c,os,bk,gs,ts,ps,Gq,Tq,tl,lt,false,A.tk,t,rfl,.inr ⟨rfl,rfl⟩,hL,he,t0,t1,?_⟩;fail "";fail "h";obtain⟨z1,z2⟩:=hL.wasRead ht kp ett hB' hLast.1 (4*(t % (n:Int)).toNat+1) ↑2 ↑2;obtain⟨dxt2,et2⟩:=z1.tk;rw[show(4 * ↑114+1).toNat=4*(t % (n:Int)).toNat+1 by lia,a0i c ↑2]
  fail "";exact k _ (z1.setT (dx:=dxt2) (T':={ Tq with nu:=c (4*(t % (n:Int)).toNat+1) })) (z2.trans (KpA.upd (j:=3) (by lia)))
def a1q(cl:Cl):Sp:=λvs H Q _=>ExL λA n c os bk gs ts ps Gq Tq tl lt=>∃(t:Int),vs=[.ref A.tk]/\↑905/\Tq.he=.int t/\0<=t/\t<2*(n:Int)/\∀H',LH cl H' A n c os bk gs ts ps Gq { Tq with le:=c (4*(t % (n:Int)).toNat+2) } tl (lt.rd (4*(t % (n:Int)).toNat+2) (c (4*(t % (n:Int)).toNat+2)))->KpA A H H'->Q (.str "thing") H'
abbrev a4s:Stmt:=top 92
theorem b6m:i8 ["taker"] ["taker"] (g9 a4s):=↑1
theorem b6q{fa:Addr}(D:DefV K fa "at_left" a4s ["taker"])(T:↑14)(G_Board_read:↑24)(G_left_cell:↑901 "left_cell" 1 ["place"] (a0b 2))(TP:↑903 "place" 4 ["self"] (a1f cl)):FnV P w K mg base fa 5 ["taker"] (a1q cl):=by
 refine D.fn b6m ↑8 ↑3
 ·obtain⟨A,n,c,os,bk,gs,ts,ps,Gq,Tq,tl,lt,t,rfl,hL,he,t0,t1,k⟩:=h
  refine⟨_,(d6 (o8 (K:=K) (pu 0) (a2s ↑5 T.k_Board G_Board_read hr ↑4 j4 (d5 (m3 G_left_cell hr ↑4 rfl j4 ↑147) i9)))
   ↑34),?_⟩
  obtain⟨dxt,et⟩:=hL.tk;fail "c";fail "f";fail "e";refine⟨A.tk,cl.Taker,dxt,_,_,_,rfl,et,rfl,T.k_Taker,TP,?_⟩;fail "";refine⟨A,n,c,os,bk,gs,ts,ps,Gq,Tq,tl,lt,false,A.tk,t,rfl,.inr ⟨rfl,rfl⟩,hL,he,t0,t1,?_⟩;fail "";fail "h";obtain⟨z1,z2⟩:=hL.wasRead ht kp ett hB' hLast.1 (4*(t % (n:Int)).toNat+2) ↑2 ↑2;obtain⟨dxt2,et2⟩:=z1.tk;rw[show(4 * ↑114+2).toNat=4*(t % (n:Int)).toNat+2 by lia,a0i c ↑2]
  fail "";exact k _ (z1.setT (dx:=dxt2) (T':={ Tq with le:=c (4*(t % (n:Int)).toNat+2) })) (z2.trans (KpA.upd (j:=3) (by lia)))
def b4h(cl:Cl):Sp:=λvs H Q _=>ExL λA n c os bk gs ts ps Gq Tq tl lt=>∃(t:Int),vs=[.ref A.tk]/\↑905/\Tq.nf=.int t/\0<=t/\t<2*(n:Int)/\∀H',LH cl H' A n (Pr.put c (4*(t % (n:Int)).toNat+0) (2*(t / (n:Int))+0)) os bk gs ts ps Gq Tq tl (lt.wr (4*(t % (n:Int)).toNat+0) (2*(t / (n:Int))+0))->KpA A H H'->Q (.str "card") H'
abbrev b8e:Stmt:=top 96
theorem b4l:i8 ["taker","size","place"] ["taker"] (g9 b8e):=↑1
theorem d1q(D:DefT K mg "at_free" b8e ["taker"])(T:↑14)(G_Board_write:↑20)(G_mark_cell:↑901 "mark_cell" 1 ["place"] (a0b 0))(G_place_of:↑901 "place_of" 3 ["size","turn"] (a6t cl))(G_free_mark:↑901 "free_mark" 4 ["size","turn"] (b5z cl)):↑901 "at_free" 5 ["taker"] (b4h cl):=by
 refine D.fn b4l ↑8 ↑3
 ·obtain⟨A,n,c,os,bk,gs,ts,ps,Gq,Tq,tl,lt,t,rfl,hL,he,t0,t1,k⟩:=h
  refine⟨_,(d6 (l9 (i:=1) b4l.nd rfl ↑22 ↑133)
   (d6 (l9 (i:=2) b4l.nd rfl ↑22 (m3 G_place_of hr ↑4 rfl j4 (d5 (pu 1) ↑130)))
   (d6 (j9 (a2s ↑5 T.k_Board G_Board_write hr ↑4 j4 (d5 (m3 G_mark_cell hr ↑4 rfl j4 (d5 (pu 2) i9)) (d5 (m3 G_free_mark hr ↑4 rfl j4 (d5 (pu 1) ↑130)) i9))))
   ↑34))),?_⟩
  obtain⟨dxt,et⟩:=hL.tk;fail "c";fail "f";fail "as";refine⟨n,t,rfl,a0h ↑2 ↑2 t0 t1 ?_⟩;fail "";refine ↑112;fail "as";refine⟨n,t,rfl,a0h ↑2 ↑2 t0 t1 ?_⟩;fail "";fail "aj";fail "j";rw[show(4 * ↑114+0).toNat=4*(t % (n:Int)).toNat+0 by lia] at hB'
  obtain⟨z1,z2⟩:=hL.wrote (k:=4*(t % (n:Int)).toNat+0) ↑2 ht kp (by rw[ett];rw[show(4 * ↑114+0)=((4*(t % (n:Int)).toNat+0:Nat):Int) by lia]) hB' hLast.1
  fail "";exact k H' z1 z2
def a7u(cl:Cl):Sp:=λvs H Q _=>ExL λA n c os bk gs ts ps Gq Tq tl lt=>∃(t:Int),vs=[.ref A.tk]/\↑905/\Q (.bl false) H
noncomputable abbrev a4u:Stmt:=o9 (top 98) 10
theorem b6o:i8 ["self"] ["self"] (g9 a4u):=↑1
theorem b6s(D:DefM K cl.Taker "resting" "Taker.resting" a4u ["self"])(T:↑14):↑903 "resting" 1 ["self"] (a7u cl):=by
 refine D.fn b6o ↑8 ↑3
 ·obtain⟨A,n,c,os,bk,gs,ts,ps,Gq,Tq,tl,lt,t,rfl,hL,k⟩:=h
  refine⟨_,↑101,?_⟩;obtain⟨dxt,et⟩:=hL.tk;fail "c";fail "";exact k
def a1h(cl:Cl):Sp:=λvs H Q _=>ExL λA n c os bk gs ts ps Gq Tq tl lt=>∃(t:Int),vs=[.ref A.tk]/\↑905/\Tq.nf=.int t/\0<=t/\t<2*(n:Int)/\Q (.int ((t+(n:Int)) % (2*(n:Int)))) H
noncomputable abbrev a1y:Stmt:=o9 (top 98) 8
theorem b0f:i8 ["self"] ["self"] (g9 a1y):=↑1
theorem b0h(D:DefM K cl.Taker "turn_served" "Taker.turn_served" a1y ["self"])(T:↑14)(G_onward:↑45):↑903 "turn_served" 4 ["self"] (a1h cl):=by
 refine D.fn b0f ↑8 ↑3
 ·obtain⟨A,n,c,os,bk,gs,ts,ps,Gq,Tq,tl,lt,t,rfl,hL,he,t0,t1,k⟩:=h
  refine⟨_,(d7 (m8 (m3 G_onward hr ↑4 rfl j4 (d5 ↑133 (d5 ↑5 (d5 ↑133 i9)))))),?_⟩;obtain⟨dxt,et⟩:=hL.tk;fail "c";fail "as";exact⟨n,t,_,rfl,a0h ↑2 ↑2 t0 t1 k⟩
def a5g(K:↑29)(cl:Cl):Sp:=λvs H Q _=>ExL λA n c os bk gs ts ps Gq Tq tl lt=>E4 λ(t:Int)(m:Addr)(ms:List Int)(f:Nat)=>vs=[.ref A.tk,.ref m]/\↑905/\H m=some (.lst (ms.map V.int))/\ms.length=n/\a2u ms=true/\a5s (toB (ms.map tbI))=some f/\∀H',LH cl H' A n c os bk gs ts ps Gq { Tq with he:=.int (f:Nat),nf:=.int (f:Nat) } tl lt->KpA A H H'->Q .non H'
noncomputable abbrev a3e:Stmt:=o9 (top 98) 6
theorem b3j:i8 ["self","marks"] ["self","marks"] (g9 a3e):=↑1
theorem b3t(D:DefM K cl.Taker "know_turn" "Taker.know_turn" a3e ["self","marks"])(T:↑14)(G_taker_turn:↑901 "taker_turn" 5 ["marks"] (b2s K cl)):↑903 "know_turn" 6 ["self","marks"] (a5g K cl):=by
 refine D.fn b3j ↑8 ↑3
 ·obtain⟨A,n,c,os,bk,gs,ts,ps,Gq,Tq,tl,lt,t,m,ms,f,rfl,hL,em,lm,mo,fr,k⟩:=h
  refine⟨_,(d6 (o8 (K:=K) (pu 0) (m3 G_taker_turn hr ↑4 rfl j4 ↑64))
   (d7 (o8 (K:=K) (pu 0) ↑5))),?_⟩
  obtain⟨dxt,et⟩:=hL.tk;fail "c";fail "";refine⟨m,ms,rfl,SqL.of em,⟨_,em⟩,c6i ↑2 ↑2 mo (c9m fr λH1 s1=>?_)⟩;have z1:=hL.same s1;obtain⟨dxt2,et2⟩:=z1.tk;have z2:=z1.setT (dx:=dxt2) (T':={ Tq with he:=.int (f:Nat) })
  fail "";exact k _ (z2.setT (dx:=dxt2) (T':={ Tq with he:=.int (f:Nat),nf:=.int (f:Nat) })) (((KpA.of s1).trans (KpA.upd (j:=3) (by lia))).trans (KpA.upd (j:=3) (by lia)))
def a5v(cl:Cl):Sp:=λvs H Q _=>ExL λA n c os bk gs ts ps Gq Tq tl lt=>E2 λ(t:Int)(f:Int)=>vs=[.ref A.tk]/\↑905/\Tq.he=.int t/\Tq.nf=.int f/\0<=f/\f<2*(n:Int)/\∀H',(if f=t then LH cl H' A n c os bk gs ts ps Gq { Tq with he:=.int ((f+1) % (2*(n:Int))),nf:=.int ((f+1) % (2*(n:Int))) } tl lt else LH cl H' A n c os bk gs ts ps Gq { Tq with nf:=.int ((f+1) % (2*(n:Int))) } tl lt)->KpA A H H'->Q (.str (if f=t then "look" else "free")) H'
noncomputable abbrev a7m:Stmt:=o9 (top 98) 9
theorem b0s:i8 ["self","all_freed"] ["self"] (g9 a7m):=↑1
theorem b9x(D:DefM K cl.Taker "go_on" "Taker.go_on" a7m ["self"])(T:↑14)(G_onward:↑45):↑903 "go_on" 4 ["self"] (a5v cl):=by
 refine D.fn b0s ↑8 ↑3
 ·obtain⟨A,n,c,os,bk,gs,ts,ps,Gq,Tq,tl,lt,t,f,rfl,hL,he,hf,t0,t1,k⟩:=h
  refine⟨_,(d6 (l9 (i:=1) b0s.nd rfl ↑22 (a3k a0m ↑5 ↑5 ↑43))
   (d6 (o8 (K:=K) (pu 0) (m3 G_onward hr ↑4 rfl j4 (d5 ↑133 (d5 ↑5 ↑25))))
   (d6 (x0 (d2z (a9g (pu 1)))
     ↑34
     v6)
   (d6 (o8 (K:=K) (pu 0) ↑5)
   ↑34)))),?_⟩
  obtain⟨dxt,et⟩:=hL.tk;fail "c";fail "";rw[hf,he];refine e8t rfl ?_;fail "";rw[hf];refine⟨n,f,_,rfl,a0h ↑2 ↑2 t0 t1 ?_⟩;have z2:=hL.setT (dx:=dxt) (T':={ Tq with nf:=.int ((f+1) % (2*(n:Int))) })
  fail "";rw[show decide (V.int f=V.int t)=decide (f=t) by simp]
  refine d8y (λy=>?_) (λy=>?_)
  ·fail ""
   have q:=k _ (by rw[if_neg y];exact z2) ↑143
   rw[if_neg y] at q;exact q
  ·fail ""
   have q:=k _ (by rw[if_pos y];exact z2.setT (dx:=dxt) (T':={ Tq with he:=.int ((f+1) % (2*(n:Int))),nf:=.int ((f+1) % (2*(n:Int))) })) ((KpA.upd (j:=3) (by lia)).trans (KpA.upd (j:=3) (by lia)))
   rw[if_pos y] at q;exact q
theorem LH.booked{cl:Cl}{H:Hp}{A:Ad}{n:Nat}{c:Pr.Cells}{os bk:List ↑28}{gs ts ps:List Int}{Gq:Gm}{Tq:Tm}{tl:List Tr}{lt:Lt}{p dx:Addr}{bps:List Addr}(h:↑46)(hp:H p=none)(eb:H A.kk=some (.lst (bps.map V.ref))):
  LH cl (upd (upd (upd H A.kk (.lst (bps.map V.ref++[.ref A.pa]))) p (.lst [])) A.tk (tkO cl dx (A.setPa p) Tq)) (A.setPa p) n c os (bk++[ps]) gs ts [] Gq Tq tl lt:=by
 have offp:=h.off hp;have n63:A.kk≠A.tk:=h.nd 6 3 ↑2 ↑2 ↑2;have nkp:A.kk≠p:=(offp 6 ↑2).symm;have npt:p≠A.tk:=offp 3 ↑2;refine h.move (p:=p) (dx:=dx) (λx o e nx=>?_) hp ?_ d9 ?_ ?_
 ·have x1:x≠A.kk:=λz=>nx (by simp[z])
  have x2:x≠A.tk:=λz=>nx (by simp[z])
  rw[d8 x2,d8 (k8 e hp),d8 x1];exact e
 ·rw[d8 npt,d9]
 ·obtain⟨qs,e,l,r⟩:=h.book
  rw[eb] at e;have e:bps=qs:=by
   have:=HO.lst.inj (Option.some.inj e);exact List.map_inj_right (λ_ _ z=>V.ref.inj z) |>.mp this
  subst e;refine⟨bps++[A.pa],by rw[d8 n63,d8 nkp,d9,List.map_append];rfl,by rw[List.length_append,List.length_append,l];rfl,λi q o hq ho=>?_⟩
  have look:∀x o,H x=some o->x≠A.tk->x≠A.kk->upd (upd (upd H A.kk (.lst (bps.map V.ref++[.ref A.pa]))) p (.lst [])) A.tk (tkO cl dx (A.setPa p) Tq) x=some o:=λx o e x2 x1=>by
   rw[d8 x2,d8 (k8 e hp),d8 x1];exact e
  by_cases hi:i<bps.length
  ·rw[List.getElem?_append_left hi] at hq
   rw[List.getElem?_append_left ↑2] at ho;obtain⟨a,b⟩:=r i q o hq ho;refine⟨λj hj=>?_,look _ _ b (a 3 ↑2) (a 6 ↑2)⟩;by_cases e7:j=7
   ·subst e7;rw[Ad.setPa_7];exact k8 b hp
   ·rw[Ad.setPa_o e7];exact a j hj
  ·have hi':i=bps.length:=by
    have:=(List.getElem?_eq_some_iff.mp hq).1;rw[List.length_append] at this;have:i<bps.length+1:=this;lia
   subst hi';rw[List.getElem?_append_right ↑31,Nat.sub_self] at hq;rw[List.getElem?_append_right ↑2,l,Nat.sub_self] at ho;cases hq;cases ho;refine⟨λj hj=>?_,look _ _ h.pa (h.nd 7 3 ↑2 ↑2 ↑2) (h.nd 7 6 ↑2 ↑2 ↑2)⟩;by_cases e7:j=7
   ·subst e7;rw[Ad.setPa_7];exact k8 h.pa hp
   ·rw[Ad.setPa_o e7];exact h.nd 7 j ↑2 hj (Ne.symm e7)
 ·intro x hx xs z
  rw[d8 n63,d8 nkp,d9] at z;cases z;obtain⟨_,b,_,_,_,f,_⟩:=h.fo x hx;intro q;rcases List.mem_append.mp q with q|q
  ·exact f _ eb q
  ·exact b 7 ↑2 (V.ref.inj (List.mem_singleton.mp q))
theorem LH.dropped{cl:Cl}{H:Hp}{A:Ad}{n:Nat}{c:Pr.Cells}{os bk:List ↑28}{gs ts ps:List Int}{Gq:Gm}{Tq:Tm}{tl:List Tr}{lt:Lt}{p dx:Addr}(h:↑46)(hp:H p=none):
  LH cl (upd (upd H p (.lst [])) A.tk (tkO cl dx (A.setPa p) Tq)) (A.setPa p) n c os bk gs ts [] Gq Tq tl lt:=by
 have offp:=h.off hp;have npt:p≠A.tk:=offp 3 ↑2;have look:∀x o,H x=some o->x≠A.tk->upd (upd H p (.lst [])) A.tk (tkO cl dx (A.setPa p) Tq) x=some o:=λx o e x2=>by
  rw[d8 x2,d8 (k8 e hp)];exact e
 refine h.move (p:=p) (dx:=dx) (λx o e nx=>look x o e λz=>nx (by simp[z])) hp ?_ d9 ?_ ?_
 ·rw[d8 npt,d9]
 ·obtain⟨qs,e,l,r⟩:=h.book
  refine⟨qs,look _ _ e (h.nd 6 3 ↑2 ↑2 ↑2),l,λi q o hq ho=>?_⟩;obtain⟨a,b⟩:=r i q o hq ho;refine⟨λj hj=>?_,look _ _ b (a 3 ↑2)⟩;by_cases e7:j=7
  ·subst e7;rw[Ad.setPa_7];exact k8 b hp
  ·rw[Ad.setPa_o e7];exact a j hj
 ·intro x hx xs z
  rw[d8 (h.nd 6 3 ↑2 ↑2 ↑2),d8 (Ne.symm (offp 6 ↑2))] at z;obtain⟨_,_,_,_,_,f,_⟩:=h.fo x hx;exact f xs z
noncomputable def d5p(bk:List ↑28)(nu:Int)(o:List Int):List ↑28:=if nu=bk.length then bk++[o] else bk
def a4m(cl:Cl):Sp:=λvs H Q _=>ExL λA n c os bk gs ts ps Gq Tq tl lt=>vs=[.ref A.tk]/\↑905/\bk.length<=400/\∀p H',H p=none->LH cl H' (A.setPa p) n c os (d5p bk Tq.nu ps) gs ts [] Gq Tq tl lt->KpA A H H'->Q .non H'
noncomputable abbrev a2k:Stmt:=o9 (top 98) 3
theorem b1a:i8 ["self"] ["self"] (g9 a2k):=↑1
theorem b2g(D:DefM K cl.Taker "book_order" "Taker.book_order" a2k ["self"])(T:↑14):↑903 "book_order" 1 ["self"] (a4m cl):=by
 refine D.fn b1a ↑8 ↑3
 ·obtain⟨A,n,c,os,bk,gs,ts,ps,Gq,Tq,tl,lt,rfl,hL,hb,k⟩:=h
  refine⟨_,(d6 (x0 (l7 a0m ↑5 ↑146 ↑43)
     (d7 (j9 (z9 (K:=K) ↑5 ↑130)))
     v6)
   (d7 ↑93)),?_⟩
  have h20:2000<=sizeLine:=by decide
  obtain⟨dxt,et⟩:=hL.tk;obtain⟨bps,eb,lb,rb⟩:=id hL.book;have n63:A.tk≠A.kk:=hL.nd 3 6 ↑2 ↑2 ↑2;have npa:=hL.pa;fail "";rw[List.length_map,lb];rw[show decide (V.int Tq.nu=V.int (bk.length:Int))=decide (Tq.nu=(bk.length:Int)) by simp]
  unfold d5p at k;fail "y"
  ·rw[if_pos y] at k
   fail "";refine d2c eb (by rw[List.length_map,lb];lia) ?_
   have et2:upd H A.kk (.lst (bps.map V.ref++[.ref A.pa])) A.tk=some (tkO cl dxt A Tq):=(d8 n63).trans et;fail "";refine⟨Nat.zero_le _,λp hp=>?_⟩;have hp0:H p=none:=by
    by_cases z:p=A.kk
    ·rw[z,d9] at hp;cases hp
    ·rw[d8 z] at hp;exact hp
   fail "";exact k p _ hp0 (hL.booked (dx:=dxt) hp0 eb) (((KpA.upd (j:=6) ↑2).trans (KpA.of (j1 hp))).trans ↑143)
  ·rw[if_neg y] at k
   fail "";refine⟨Nat.zero_le _,λp hp=>?_⟩;fail "";exact k p _ hp (hL.dropped (dx:=dxt) hp) ((KpA.of (j1 hp)).trans ↑143)
def a1d(cl:Cl):Sp:=λvs H Q _=>ExL λA n c os bk gs ts ps Gq Tq tl lt=>∃(t:Int),vs=[.ref A.tk]/\↑905/\Tq.he=.int t/\0<=t/\t<2*(n:Int)/\bk.length<=400/\ps.length<=100 /\
 (
  if 0<Tq.le then ∀H',LH cl H' A n c os bk gs ts (ps++[c ↑51]) Gq { Tq with he:=.int ((t+1) % (2*(n:Int))) } tl (lt.rd (4*(t % (n:Int)).toNat+3) (c (4*(t % (n:Int)).toNat+3)))->KpA A H H'->Q (.str "look") H'
  else ∀p H',H p=none->LH cl H' (A.setPa p) n c os (d5p bk Tq.nu (ps++[c ↑51])) gs ts [] Gq Tq tl (lt.rd ↑51 (c ↑51))->KpA A H H'->Q (.str "free") H')
abbrev a3x:Stmt:=top 94
theorem b4k:i8 ["taker"] ["taker"] (g9 a3x):=↑1
theorem b5i{fa:Addr}(D:DefV K fa "at_thing" a3x ["taker"])(T:↑14)(G_Board_read:↑24)(G_thing_cell:↑901 "thing_cell" 1 ["place"] (a0b 3))(TP:↑903 "place" 4 ["self"] (a1f cl))(G_onward:↑45)(G_book_order:↑903 "book_order" 1 ["self"] (a4m cl)):FnV P w K mg base fa 5 ["taker"] (a1d cl):=by
 refine D.fn b4k ↑8 ↑3
 ·obtain⟨A,n,c,os,bk,gs,ts,ps,Gq,Tq,tl,lt,t,rfl,hL,he,t0,t1,hb,hps,k⟩:=h
  refine⟨_,(d6 (j9 (z9 (K:=K) ↑5 (d5 (a2s ↑5 T.k_Board G_Board_read hr ↑4 j4 (d5 (m3 G_thing_cell hr ↑4 rfl j4 ↑147) i9)) i9)))
   (d6 (x0 (l7 c5d ↑5 i4 ↑43)
     (
     d6 (o8 (K:=K) (pu 0) (m3 G_onward hr ↑4 rfl j4 (d5 ↑133 (d5 ↑5 ↑25))))
     ↑34)
     v6)
   (d6 (j9 (a1n (k:=1) (pu 0) hr ↑4 j4))
   ↑34))),?_⟩
  have h20:2000<=sizeLine:=by decide
  obtain⟨dxt,et⟩:=hL.tk;fail "c";fail "f";have epa:=hL.pa;fail "e";refine⟨A.tk,cl.Taker,dxt,_,_,_,rfl,et,rfl,T.k_Taker,TP,?_⟩;fail "";refine⟨A,n,c,os,bk,gs,ts,ps,Gq,Tq,tl,lt,false,A.tk,t,rfl,.inr ⟨rfl,rfl⟩,hL,he,t0,t1,?_⟩;fail "";fail "h";obtain⟨z1,z2⟩:=hL.wasRead ht kp ett hB' hLast.1 ↑51 ↑2 ↑2;rw[show(4 * ↑114+3).toNat=4*(t % (n:Int)).toNat+3 by lia,a0i c ↑2]
  fail "";refine d2c z1.pa (by rw[List.length_map];lia) ?_
  rw[show(ps.map V.int++[V.int (c ↑51)])=(ps++[c ↑51]).map V.int by rw[List.map_append];rfl]
  have z3:=z1.setPa (qs:=ps++[c ↑51]);have k3:KpA A H _:=z2.trans (KpA.upd (A:=A) (j:=7) (o:=.lst ((ps++[c ↑51]).map V.int)) ↑2);have pf:∀p,upd H' A.pa (.lst ((ps++[c ↑51]).map V.int)) p=none->H p=none:=λp hp=>by
   cases e:H p with
   | none=>rfl
   | some o=>
    exfalso
    by_cases off:∀j,j<8->p≠A.o j
    ·have:=k3 p o e off
     rw[hp] at this;cases this
    ·apply off
     intro j hj q;obtain⟨u,hu⟩:=z3.has j hj;rw[<- q,hp] at hu;cases hu
  revert z3 k3 pf
  generalize upd H' A.pa (.lst ((ps++[c ↑51]).map V.int))=H3;intro z3 k3 pf;obtain⟨dxt3,et3⟩:=z3.tk;obtain⟨many3,last3,hB3,hLast3⟩:=z3.brd;obtain⟨⟨dxb3,eb3⟩,el3,hlen3,_,_⟩:=id hB3;fail "";fail "y"
  ·rw[if_pos y] at k
   fail "as";refine⟨n,t,_,rfl,a0h ↑2 ↑2 t0 t1 ?_⟩;fail "";exact k _ (z3.setT (dx:=dxt3) (T':={ Tq with he:=.int ((t+1) % (2*(n:Int))) })) (k3.trans (KpA.upd (j:=3) (by lia)))
  ·rw[if_neg y] at k
   fail "e";refine⟨A.tk,cl.Taker,dxt3,_,_,_,rfl,et3,rfl,T.k_Taker,G_book_order,?_⟩;fail "";refine⟨A,n,c,os,bk,gs,ts,_,Gq,Tq,tl,_,rfl,z3,hb,λp H4 hp z4 k4=>?_⟩;fail "";exact k p H4 (pf p hp) z4 (k3.trans k4)
abbrev Ad.setMg(A:Ad)(p:Addr):Ad:={ A with mg:=p }
abbrev Ad.setMt(A:Ad)(p:Addr):Ad:={ A with mt:=p }
theorem LH.setMg{cl:Cl}{H:Hp}{A:Ad}{n:Nat}{c:Pr.Cells}{os bk:List ↑28}{gs ts ps:List Int}{Gq:Gm}{Tq:Tm}{tl:List Tr}{lt:Lt}{p dx:Addr}{xs:List Int}{G':Gm}(h:↑46)(ep:H p=some (.lst (xs.map V.int)))(off:∀j,j<8->p≠A.o j)(pf:¬ A.fo p):LH cl (upd H A.gv (gvO cl dx (A.setMg p) G')) (A.setMg p) n c os bk xs ts ps G' Tq tl lt:=by
 have ne:∀i,i<8->i≠2->A.o i≠A.gv:=λi h8 h2=>h.nd i 2 h8 ↑2 h2;obtain⟨m,l,hB,hL⟩:=h.brd;refine⟨⟨m,l,hB.keep (ps:=[A.gv]) (Kp.upd (by simp)) ↑142 ↑141,hL.kpa (KpA.upd (j:=2) ↑2)⟩,⟨dx,d9⟩,?_,?_,?_,h.kept.set (j:=2) ↑2 rfl (ne 5 ↑2 ↑2),h.book.set (j:=2) ↑2 rfl (ne 6 ↑2 ↑2),?_,?_,h.nd,λi hi=>⟨off i hi,(h.om i hi).2⟩,λx hx=>?_⟩
 fail "ae"
 ·rw[d8 (off 2 ↑2)];exact ep
 ·rw[d8 (h.om 2 ↑2).2];exact h.mt
 fail "ao"
 ·exact h.tr.gen (A':=A.setMg p) (λo z=>by rw[d8 (ne 4 ↑2 ↑2)];exact z) λq o e n1 f=>⟨n1,f,by rw[d8 (n1 2 ↑2)];exact e⟩
 ·obtain⟨a,b,c1,d,e⟩:=h.fo.updO (u:=gvO cl dx (A.setMg p) G') h.nd 2 ↑2 ↑2 ↑2 ↑2 x hx
  exact⟨a,b,(λz=>pf (by have z2:x=p:=z;rw[<- z2];exact hx)),d,e⟩
theorem LH.setMt{cl:Cl}{H:Hp}{A:Ad}{n:Nat}{c:Pr.Cells}{os bk:List ↑28}{gs ts ps:List Int}{Gq:Gm}{Tq:Tm}{tl:List Tr}{lt:Lt}{p dx:Addr}{xs:List Int}{T':Tm}(h:↑46)(ep:H p=some (.lst (xs.map V.int)))(off:∀j,j<8->p≠A.o j)(pf:¬ A.fo p):LH cl (upd H A.tk (tkO cl dx (A.setMt p) T')) (A.setMt p) n c os bk gs xs ps Gq T' tl lt:=by
 have ne:∀i,i<8->i≠3->A.o i≠A.tk:=λi h8 h2=>h.nd i 3 h8 ↑2 h2;obtain⟨m,l,hB,hL⟩:=h.brd;refine⟨⟨m,l,hB.keep (ps:=[A.tk]) (Kp.upd (by simp)) ↑142 ↑141,hL.kpa ↑143⟩,?_,⟨dx,d9⟩,?_,?_,h.kept.set (j:=3) ↑2 rfl (ne 5 ↑2 ↑2),h.book.set (j:=3) ↑2 rfl (ne 6 ↑2 ↑2),?_,?_,h.nd,λi hi=>⟨(h.om i hi).1,off i hi⟩,λx hx=>?_⟩
 fail "af"
 ·rw[d8 (h.om 3 ↑2).1];exact h.mg
 ·rw[d8 (off 3 ↑2)];exact ep
 fail "ao"
 ·exact h.tr.gen (A':=A.setMt p) (λo z=>by rw[d8 (ne 4 ↑2 ↑2)];exact z) λq o e n1 f=>⟨n1,f,by rw[d8 (n1 3 ↑2)];exact e⟩
 ·obtain⟨a,b,c1,d,e⟩:=h.fo.updO (u:=tkO cl dx (A.setMt p) T') h.nd 3 ↑2 ↑2 ↑2 ↑2 x hx
  exact⟨a,b,c1,(λz=>pf (by have z2:x=p:=z;rw[<- z2];exact hx)),e⟩
theorem LH.fresh{cl:Cl}{H:Hp}{A:Ad}{n:Nat}{c:Pr.Cells}{os bk:List ↑28}{gs ts ps:List Int}{Gq:Gm}{Tq:Tm}{tl:List Tr}{lt:Lt}{H':Hp}(h:LH cl H' A n c os bk gs ts ps Gq Tq tl lt)(k:KpA A H H'){p:Addr}(hp:H' p=none):H p=none:=by
 cases e:H p with
 | none=>rfl
 | some o=>
  exfalso
  by_cases off:∀j,j<8->p≠A.o j
  ·have:=k p o e off
   rw[hp] at this;cases this
  ·apply off
   intro j hj q;obtain⟨u,hu⟩:=h.has j hj;rw[<- q,hp] at hu;cases hu
def a6z(cl:Cl):Sp:=λvs H Q _=>(ExL λA n c os bk gs ts ps Gq Tq tl lt=>vs=[.ref A.gv]/\↑905/\gs.length<n/\(if gs.length+1<n then ∀p H',H p=none->LH cl H' (A.setMg p) n c os bk (gs++[c ↑105]) ts ps Gq Tq tl (lt.rd ↑105 (c ↑105))->KpA A H H'->Q (.str "marks") H' else ∃f:Nat,a2u (gs++[c ↑105])=true/\a5s (toB ((gs++[c ↑105]).map d7i))=some f/\∀p H',H p=none->LH cl H' (A.setMg p) n c os bk [] ts ps { Gq with he:=.int (f:Nat) } Tq tl (lt.rd (4*gs.length) (c (4*gs.length)))->KpA A H H'->Q (.str "told") H')) \/
 (ExL λA n c os bk gs ts ps Gq Tq tl lt=>vs=[.ref A.tk]/\↑905/\ts.length<n/\(if ts.length+1<n then ∀p H',H p=none->LH cl H' (A.setMt p) n c os bk gs (ts++[c ↑104]) ps Gq Tq tl (lt.rd ↑104 (c ↑104))->KpA A H H'->Q (.str "marks") H' else ∃f:Nat,a2u (ts++[c ↑104])=true/\a5s (toB ((ts++[c ↑104]).map tbI))=some f/\∀p H',H p=none->LH cl H' (A.setMt p) n c os bk gs [] ps Gq { Tq with he:=.int (f:Nat),nf:=.int (f:Nat) } tl (lt.rd (4*ts.length) (c (4*ts.length)))->KpA A H H'->Q (.str "look") H'))
abbrev b5a:Stmt:=top 62
theorem b7t:i8 ["hand","marks"] ["hand"] (g9 b5a):=↑1
theorem c8m(D:DefT K mg "at_marks" b5a ["hand"])(T:↑14)(G_Board_read:↑24)(G_mark_cell:↑901 "mark_cell" 1 ["place"] (a0b 0))(GK:↑902 "know_turn" 6 ["self","marks"] (a5j K cl))(TK:↑903 "know_turn" 6 ["self","marks"] (a5g K cl)):↑901 "at_marks" 7 ["hand"] (a6z cl):=by
 refine D.fn b7t (λvs H Q E h=>?_) ↑3
 ·rcases h with ⟨A,n,c,os,bk,gs,ts,ps,Gq,Tq,tl,lt,rfl,_⟩|⟨A,n,c,os,bk,gs,ts,ps,Gq,Tq,tl,lt,rfl,_⟩ <;> rfl
 ·have h20:2000<=sizeLine:=by decide
  refine⟨_,(d6 (l9 (i:=1) b7t.nd rfl ↑22 (k7 c5e ↑5 (v5 (d5 (a2s ↑5 T.k_Board G_Board_read hr ↑4 j4 (d5 (m3 G_mark_cell hr ↑4 rfl j4 (d5 ↑146 i9)) i9)) i9))))
   (d6 (x0 (l7 b5h (v7 ↑42 (by rfl) T.z_len PySem.boot_len ↑64) ↑133 ↑43)
     (
     d6 (o8 (K:=K) (pu 0) (pu 1))
     ↑34)
     v6)
   (d6 (j9 (d3i (k:=6) (pu 0) hr ↑4 j4 ↑64))
   (d6 ↑93
   (d7 (m8 ↑5)))))),?_⟩
  rcases h with h|h
  ·obtain⟨A,n,c,os,bk,gs,ts,ps,Gq,Tq,tl,lt,rfl,hL,hs,k⟩:=h
   fail "m";fail "c";have em:=hL.mg;fail "aq";fail "h";obtain⟨z1,z2⟩:=hL.wasRead ht kp ett hB' hLast.1 ↑105 ↑2 ↑2;rw[show(4*(gs.length:Int)+0).toNat=4*gs.length by lia,a0i c ↑2]
   fail "";refine⟨b8m,λq1 hq1=>?_⟩;refine d4y (j1 hq1 _ _ z1.mg) d9 (by rw[List.length_map];show gs.length+1<=sizeLine;lia) (λp hp=>?_)
   rw[show(gs.map V.int++[V.int (c ↑105)])=(gs++[c ↑105]).map V.int by rw[List.map_append];rfl]
   have z3:=(z1.same (j1 (o:=.lst [.int (c ↑105)]) hq1)).same (j1 (o:=.lst ((gs++[c ↑105]).map V.int)) hp);have k3:KpA A H _:=(z2.trans (KpA.of (j1 (o:=.lst [.int (c ↑105)]) hq1))).trans (KpA.of (j1 (o:=.lst ((gs++[c ↑105]).map V.int)) hp));have hp0:H p=none:=z1.fresh z2 ((j1 hq1).free hp);have ep:upd (upd H' q1 (.lst [.int (c ↑105)])) p (.lst ((gs++[c ↑105]).map V.int)) p=_:=d9;have offp:=hL.off hp0
   revert z3 k3 ep
   generalize upd (upd H' q1 (.lst [.int (c ↑105)])) p (.lst ((gs++[c ↑105]).map V.int))=H3;intro z3 k3 ep;obtain⟨dxg3,eg3⟩:=z3.gv;obtain⟨dxt3,et3⟩:=z3.tk;obtain⟨many3,last3,hB3,hLast3⟩:=z3.brd;obtain⟨⟨dxb3,eb3⟩,el3,hlen3,_,_⟩:=id hB3;fail "";rw[List.length_map,List.length_append,show([c ↑105]:List Int).length=1 from rfl];fail "y"
   ·rw[if_pos ↑2] at k
    fail "";exact k p _ hp0 (z3.setMg (dx:=dxg3) (G':=Gq) ep offp (hL.nfo hp0)) (k3.trans (KpA.upd (j:=2) ↑2))
   ·rw[if_neg ↑2] at k
    obtain⟨f,mo,fr,k⟩:=k;fail "e";refine⟨A.gv,cl.Giver,dxg3,_,_,_,rfl,eg3,rfl,T.k_Giver,GK,?_⟩;fail "";refine⟨A,n,c,os,bk,gs,ts,ps,Gq,Tq,tl,_,0,p,_,f,rfl,z3,ep,by rw[List.length_append];show gs.length+1=n;lia,mo,fr,λH4 z4 k4=>?_⟩
    obtain⟨dxg4,eg4⟩:=z4.gv;obtain⟨dxt4,et4⟩:=z4.tk;fail "";refine⟨Nat.zero_le _,λp5 hp5=>?_⟩;have z5:=z4.same (j1 (o:=.lst []) hp5);have k5:KpA A H _:=(k3.trans k4).trans (KpA.of (j1 (o:=.lst []) hp5));have hp50:H p5=none:=z4.fresh (k3.trans k4) hp5;have z6:=z5.setMg (dx:=dxg4) (xs:=[]) (G':={ Gq with he:=.int (f:Nat) }) d9 (hL.off hp50) (hL.nfo hp50)
    fail "";exact k p5 _ hp50 z6 (k5.trans (KpA.upd (j:=2) ↑2))
  ·obtain⟨A,n,c,os,bk,gs,ts,ps,Gq,Tq,tl,lt,rfl,hL,hs,k⟩:=h
   fail "m";fail "c";have em:=hL.mt;fail "aq";fail "h";obtain⟨z1,z2⟩:=hL.wasRead ht kp ett hB' hLast.1 ↑104 ↑2 ↑2;rw[show(4*(ts.length:Int)+0).toNat=4*ts.length by lia,a0i c ↑2]
   fail "";refine⟨b8m,λq1 hq1=>?_⟩;refine d4y (j1 hq1 _ _ z1.mt) d9 (by rw[List.length_map];show ts.length+1<=sizeLine;lia) (λp hp=>?_)
   rw[show(ts.map V.int++[V.int (c ↑104)])=(ts++[c ↑104]).map V.int by rw[List.map_append];rfl]
   have z3:=(z1.same (j1 (o:=.lst [.int (c ↑104)]) hq1)).same (j1 (o:=.lst ((ts++[c ↑104]).map V.int)) hp);have k3:KpA A H _:=(z2.trans (KpA.of (j1 (o:=.lst [.int (c ↑104)]) hq1))).trans (KpA.of (j1 (o:=.lst ((ts++[c ↑104]).map V.int)) hp));have hp0:H p=none:=z1.fresh z2 ((j1 hq1).free hp);have ep:upd (upd H' q1 (.lst [.int (c ↑104)])) p (.lst ((ts++[c ↑104]).map V.int)) p=_:=d9;have offp:=hL.off hp0
   revert z3 k3 ep
   generalize upd (upd H' q1 (.lst [.int (c ↑104)])) p (.lst ((ts++[c ↑104]).map V.int))=H3;intro z3 k3 ep;obtain⟨dxg3,eg3⟩:=z3.gv;obtain⟨dxt3,et3⟩:=z3.tk;obtain⟨many3,last3,hB3,hLast3⟩:=z3.brd;obtain⟨⟨dxb3,eb3⟩,el3,hlen3,_,_⟩:=id hB3;fail "";rw[List.length_map,List.length_append,show([c ↑104]:List Int).length=1 from rfl];fail "y"
   ·rw[if_pos ↑2] at k
    fail "";exact k p _ hp0 (z3.setMt (dx:=dxt3) (T':=Tq) ep offp (hL.nfo hp0)) (k3.trans ↑143)
   ·rw[if_neg ↑2] at k
    obtain⟨f,mo,fr,k⟩:=k;fail "e";refine⟨A.tk,cl.Taker,dxt3,_,_,_,rfl,et3,rfl,T.k_Taker,TK,?_⟩;fail "";refine⟨A,n,c,os,bk,gs,ts,ps,Gq,Tq,tl,_,0,p,_,f,rfl,z3,ep,by rw[List.length_append];show ts.length+1=n;lia,mo,fr,λH4 z4 k4=>?_⟩
    obtain⟨dxg4,eg4⟩:=z4.gv;obtain⟨dxt4,et4⟩:=z4.tk;fail "";refine⟨Nat.zero_le _,λp5 hp5=>?_⟩;have z5:=z4.same (j1 (o:=.lst []) hp5);have k5:KpA A H _:=(k3.trans k4).trans (KpA.of (j1 (o:=.lst []) hp5));have hp50:H p5=none:=z4.fresh (k3.trans k4) hp5;have z6:=z5.setMt (dx:=dxt4) (xs:=[]) (T':={ Tq with he:=.int (f:Nat),nf:=.int (f:Nat) }) d9 (hL.off hp50) (hL.nfo hp50)
    fail "";exact k p5 _ hp50 z6 (k5.trans ↑143)
def a9w(cl:Cl):Sp:=λvs H Q _=>(ExL λA n c os bk gs ts ps Gq Tq tl lt=>∃(t:Int),vs=[.ref A.gv]/\↑905/\Gq.he=.int t/\0<=t/\t<2*(n:Int)/\↑54/\(if c (4*n+1)=t then ∀H',LH cl H' A n c os bk gs ts ps Gq Tq tl (lt.rd (4*n+1) (c (4*n+1)))->KpA A H H'->Q (.str "ring") H' else ∀H',LH cl H' A n c os bk gs ts ps { Gq with he:=.int ((t+1) % (2*(n:Int))),nu:=a3m Gq.nu Gq.le,le:=a7x os Gq.nu Gq.le } Tq tl (lt.rd (4*n+1) (c (4*n+1)))->KpA A H H'->Q (.str "look") H')) \/
 (ExL λA n c os bk gs ts ps Gq Tq tl lt=>∃(t f:Int),vs=[.ref A.tk]/\↑905/\Tq.he=.int t/\Tq.nf=.int f/\0<=f/\f<2*(n:Int)/\(if c (4*n+0)=(f+(n:Int)) % (2*(n:Int)) then ∀H',LH cl H' A n c os bk gs ts ps Gq Tq tl (lt.rd (4*n+0) (c (4*n+0)))->KpA A H H'->Q (.str "ring") H' else ∀H',(if f=t then LH cl H' A n c os bk gs ts ps Gq { Tq with he:=.int ((f+1) % (2*(n:Int))),nf:=.int ((f+1) % (2*(n:Int))) } tl (lt.rd (4*n+0) (c (4*n+0))) else LH cl H' A n c os bk gs ts ps Gq { Tq with nf:=.int ((f+1) % (2*(n:Int))) } tl (lt.rd (4*n+0) (c (4*n+0))))->KpA A H H'->Q (.str (if f=t then "look" else "free")) H'))
abbrev b8f:Stmt:=top 69
theorem c0g:i8 ["hand","card"] ["hand"] (g9 b8f):=↑1
theorem d1r(D:DefT K mg "at_card" b8f ["hand"])(T:↑14)(G_Board_read:↑24)(G_card_cell:↑901 "card_cell" 2 ["size","hand"] (a5d cl))(GS:↑902 "turn_served" 4 ["self"] (a1i cl))(TS:↑903 "turn_served" 4 ["self"] (a1h cl))(GG:↑902 "go_on" 4 ["self"] (a5w cl))(TG:↑903 "go_on" 4 ["self"] (a5v cl)):↑901 "at_card" 5 ["hand"] (a9w cl):=by
 refine D.fn c0g (λvs H Q E h=>?_) ↑3
 ·rcases h with ⟨A,n,c,os,bk,gs,ts,ps,Gq,Tq,tl,lt,t,rfl,_⟩|⟨A,n,c,os,bk,gs,ts,ps,Gq,Tq,tl,lt,t,f,rfl,_⟩ <;> rfl
 ·skip
  refine⟨_,(d6 (l9 (i:=1) c0g.nd rfl ↑22 (a2s ↑5 T.k_Board G_Board_read hr ↑4 j4 (d5 (m3 G_card_cell hr ↑4 rfl j4 ↑129) i9)))
   (d7 (m8 (a0w (l7 a0m (pu 1) ↑128 ↑43) m4 ↑128)))),?_⟩
  rcases h with h|h
  ·obtain⟨A,n,c,os,bk,gs,ts,ps,Gq,Tq,tl,lt,t,rfl,hL,he,t0,t1,kn,k⟩:=h
   fail "m";fail "c";fail "u";rw[hI1];refine⟨A.bd,A.l,n,_,many,last,_,rfl,hB,?_⟩;fail "j";obtain⟨z1,z2⟩:=hL.wasRead ht kp ett hB' hLast.1 (4*n+1) ↑2 ↑2;obtain⟨dxg1,eg1⟩:=z1.gv;obtain⟨dxt1,et1⟩:=z1.tk;rw[show(4*(n:Int)+1).toNat=4*n+1 by lia,a0i c ↑2]
   fail "e";refine⟨A.gv,cl.Giver,dxg1,_,_,_,rfl,eg1,rfl,T.k_Giver,GS,?_⟩;fail "";refine⟨A,n,c,os,bk,gs,ts,ps,Gq,Tq,tl,_,t,rfl,z1,he,t0,t1,?_⟩;fail "";rw[show decide (V.int (c (4*n+1))=V.int t)=decide (c (4*n+1)=t) by simp]
   fail "y"
   ·rw[if_pos y] at k;fail "";exact k H' z1 z2
   ·rw[if_neg y] at k
    fail "e";refine⟨A.gv,cl.Giver,dxg1,_,_,_,rfl,eg1,rfl,T.k_Giver,GG,?_⟩;fail "";exact⟨A,n,c,os,bk,gs,ts,ps,Gq,Tq,tl,_,t,rfl,z1,he,t0,t1,kn,λH2 z3 k3=>k H2 z3 (z2.trans k3)⟩
  ·obtain⟨A,n,c,os,bk,gs,ts,ps,Gq,Tq,tl,lt,t,f,rfl,hL,he,hf,t0,t1,k⟩:=h
   fail "m";fail "c";fail "u";rw[hI0];refine⟨A.bd,A.l,n,_,many,last,_,rfl,hB,?_⟩;fail "j";obtain⟨z1,z2⟩:=hL.wasRead ht kp ett hB' hLast.1 (4*n+0) ↑2 ↑2;obtain⟨dxg1,eg1⟩:=z1.gv;obtain⟨dxt1,et1⟩:=z1.tk;rw[show(4*(n:Int)+0).toNat=4*n+0 by lia,a0i c ↑2]
   fail "e";refine⟨A.tk,cl.Taker,dxt1,_,_,_,rfl,et1,rfl,T.k_Taker,TS,?_⟩;fail "";refine⟨A,n,c,os,bk,gs,ts,ps,Gq,Tq,tl,_,f,rfl,z1,hf,t0,t1,?_⟩;fail "";rw[show decide (V.int (c (4*n+0))=V.int ((f+(n:Int)) % (2*(n:Int))))=decide (c (4*n+0)=(f+(n:Int)) % (2*(n:Int))) by simp]
   fail "y"
   ·rw[if_pos y] at k;fail "";exact k H' z1 z2
   ·rw[if_neg y] at k
    fail "e";refine⟨A.tk,cl.Taker,dxt1,_,_,_,rfl,et1,rfl,T.k_Taker,TG,?_⟩;fail "";exact⟨A,n,c,os,bk,gs,ts,ps,Gq,Tq,tl,_,t,f,rfl,z1,he,hf,t0,t1,λH2 z3 k3=>k H2 z3 (z2.trans k3)⟩
def a9s(cl:Cl):Sp:=λvs H Q _=>(ExL λA n c os bk gs ts ps Gq Tq tl lt=>∃(t:Int),vs=[.ref A.gv]/\↑905/\Gq.he=.int t/\0<=t/\t<2*(n:Int)/\↑54/\∀H',LH cl H' A n (Pr.put c (4*n+b4a true) 1) os bk gs ts ps { Gq with he:=.int ((t+1) % (2*(n:Int))),nu:=a3m Gq.nu Gq.le,le:=a7x os Gq.nu Gq.le } Tq tl (lt.wr (4*n+b4a true) 1)->KpA A H H'->Q (.str "look") H') \/
 (ExL λA n c os bk gs ts ps Gq Tq tl lt=>∃(t f:Int),vs=[.ref A.tk]/\↑905/\Tq.he=.int t/\Tq.nf=.int f/\0<=f/\f<2*(n:Int)/\∀H',(if f=t then LH cl H' A n (Pr.put c (4*n+b4a false) 1) os bk gs ts ps Gq { Tq with he:=.int ((f+1) % (2*(n:Int))),nf:=.int ((f+1) % (2*(n:Int))) } tl (lt.wr (4*n+b4a false) 1) else LH cl H' A n (Pr.put c (4*n+b4a false) 1) os bk gs ts ps Gq { Tq with nf:=.int ((f+1) % (2*(n:Int))) } tl (lt.wr (4*n+b4a false) 1))->KpA A H H'->Q (.str (if f=t then "look" else "free")) H')
abbrev b7z:Stmt:=top 70
theorem d1a:i8 ["hand"] ["hand"] (g9 b7z):=↑1
theorem d1l(D:DefT K mg "at_ring" b7z ["hand"])(T:↑14)(G_ring_other:↑901 "ring_other" 4 ["hand"] (a6s cl))(GS:↑902 "turn_served" 4 ["self"] (a1i cl))(TS:↑903 "turn_served" 4 ["self"] (a1h cl))(GG:↑902 "go_on" 4 ["self"] (a5w cl))(TG:↑903 "go_on" 4 ["self"] (a5v cl)):↑901 "at_ring" 5 ["hand"] (a9s cl):=by
 refine D.fn d1a (λvs H Q E h=>?_) ↑3
 ·rcases h with ⟨A,n,c,os,bk,gs,ts,ps,Gq,Tq,tl,lt,t,rfl,_⟩|⟨A,n,c,os,bk,gs,ts,ps,Gq,Tq,tl,lt,t,f,rfl,_⟩ <;> rfl
 ·skip
  refine⟨_,(d6 (j9 (m3 G_ring_other hr ↑4 rfl j4 ↑49))
   (d7 (m8 ↑128))),?_⟩
  rcases h with h|h
  ·obtain⟨A,n,c,os,bk,gs,ts,ps,Gq,Tq,tl,lt,t,rfl,hL,he,t0,t1,kn,k⟩:=h
   fail "";refine⟨A,n,c,os,bk,gs,ts,ps,Gq,Tq,tl,lt,true,A.gv,rfl,.inl ⟨rfl,rfl⟩,hL,λH' z1 z2=>?_⟩;obtain⟨dxg1,eg1⟩:=z1.gv;fail "e";refine⟨A.gv,cl.Giver,dxg1,_,_,_,rfl,eg1,rfl,T.k_Giver,GG,?_⟩;fail "";exact⟨A,n,_,os,bk,gs,ts,ps,Gq,Tq,tl,_,t,rfl,z1,he,t0,t1,kn,λH2 z3 k3=>k H2 z3 (z2.trans k3)⟩
  ·obtain⟨A,n,c,os,bk,gs,ts,ps,Gq,Tq,tl,lt,t,f,rfl,hL,he,hf,t0,t1,k⟩:=h
   fail "";refine⟨A,n,c,os,bk,gs,ts,ps,Gq,Tq,tl,lt,false,A.tk,rfl,.inr ⟨rfl,rfl⟩,hL,λH' z1 z2=>?_⟩;obtain⟨dxt1,et1⟩:=z1.tk;fail "e";refine⟨A.tk,cl.Taker,dxt1,_,_,_,rfl,et1,rfl,T.k_Taker,TG,?_⟩;fail "";exact⟨A,n,_,os,bk,gs,ts,ps,Gq,Tq,tl,_,t,f,rfl,z1,he,hf,t0,t1,λH2 z3 k3=>k H2 z3 (z2.trans k3)⟩
end
section
open PySem L2 Pr
section
variable{P:Program}{w:World}{K:Frag}{mg:Str->Option Value}{base:Heap}{cl:Cl}
noncomputable def y9:Stg->Str
 | .rouse=>"rouse"|.clear=>"clear"|.mute=>"mute"|.marks=>"marks"|.told=>"told"|.lacks=>"lacks"|.look=>"look"|.wish=>"wish"|.again=>"again"|.sleep=>"sleep"|.hush=>"hush"|.unwish=>"unwish"
 | .number=>"number"|.left=>"left"|.thing=>"thing"|.mark=>"mark"|.card=>"card"|.ring=>"ring"|.free=>"free"
noncomputable def gTx(x:Stg)(L:Ln):Tc :=
 match x with
 | .rouse=>⟨true,4*L.n+3,1⟩
 | .clear=>⟨true,4*L.n,-1⟩
 | .mute=>⟨true,4*L.n+2,0⟩
 | .marks=>⟨false,4*L.gseen.length,L.c (4*L.gseen.length)⟩
 | .told=>⟨false,4 * ↑71+1,L.c (4 * ↑71+1)⟩
 | .lacks=>⟨false,4 * ↑71+2,L.c (4 * ↑71+2)⟩
 | .look=>⟨false,4 * ↑95,L.c (4 * ↑95)⟩
 | .wish=>⟨true,4*L.n,((L.g % (2*L.n):Nat):Int)⟩
 | .again=>⟨false,4 * ↑95,L.c (4 * ↑95)⟩
 | .sleep=>⟨false,4*L.n+2,L.c ↑110⟩
 | .hush=>⟨true,4*L.n+2,0⟩
 | .unwish=>⟨true,4*L.n,-1⟩
 | .number=>⟨true,4 * ↑95+1,(m6 L.os L.g:Int)⟩
 | .left=>⟨true,4 * ↑95+2,(m9 L.os L.g:Int)⟩
 | .thing=>⟨true,4 * ↑95+3,a0e L.os L.g⟩
 | .mark=>⟨true,4 * ↑95,2*(lap L.n L.g:Int)+1⟩
 | .card=>⟨false,4*L.n+1,L.c (4*L.n+1)⟩
 | .ring=>⟨true,4*L.n+3,1⟩
 | .free=>⟨false,0,0⟩
noncomputable def gT(L:Ln):Tc:=gTx L.gs L
noncomputable def tTx(x:Stg)(L:Ln):Tc :=
 match x with
 | .rouse=>⟨true,4*L.n+2,1⟩
 | .clear=>⟨true,4*L.n+1,-1⟩
 | .mute=>⟨true,4*L.n+3,0⟩
 | .marks=>⟨false,4*L.tseen.length,L.c (4*L.tseen.length)⟩
 | .look=>⟨false,4 * ↑75,L.c (4 * ↑75)⟩
 | .wish=>⟨true,4*L.n+1,((L.t % (2*L.n):Nat):Int)⟩
 | .again=>⟨false,4 * ↑75,L.c (4 * ↑75)⟩
 | .sleep=>⟨false,4*L.n+3,L.c (4*L.n+3)⟩
 | .hush=>⟨true,4*L.n+3,0⟩
 | .unwish=>⟨true,4*L.n+1,-1⟩
 | .number=>⟨false,4 * ↑75+1,L.c (4 * ↑75+1)⟩
 | .left=>⟨false,4 * ↑75+2,L.c (4 * ↑75+2)⟩
 | .thing=>⟨false,4 * ↑75+3,L.c (4 * ↑75+3)⟩
 | .free=>⟨true,4*(L.f % L.n),2*(lap L.n L.f:Int)⟩
 | .card=>⟨false,4*L.n,L.c (4*L.n)⟩
 | .ring=>⟨true,4*L.n+2,1⟩
 | .told|.lacks|.mark=>⟨false,0,0⟩
noncomputable def tT(L:Ln):Tc:=tTx L.ts L
noncomputable def Stg.come:Stg->Bool
 | .rouse|.clear|.mute|.marks=>true
 | _=>false
noncomputable def v9(os:List ↑28):Nat->Int
 | 0=>-1
 | i+1=>(m6 os i:Int)
noncomputable def a0a(os:List ↑28):Nat->Int
 | 0=>0
 | i+1=>(m9 os i:Int)
def gi(L:Ln):Nat:=if L.gs.frees then L.g-1 else L.g
structure GRel(L:Ln)(G:Gm):Prop where
 st:G.st=y9 L.gs
 he:Stg.come L.gs=false->G.he=.int ((gi L % (2*L.n):Nat):Int)
 nu:Stg.come L.gs=false->L.gs≠.told->G.nu=v9 L.os (gi L)
 le:Stg.come L.gs=false->L.gs≠.told->L.gs≠.lacks->G.le=a0a L.os (gi L)
 no:Stg.come L.gs=true->G.he=.non
 n0:(Stg.come L.gs || decide (L.gs=.told))=true->G.nu=-1/\G.le=0
theorem noC{p:Prop}{b:Bool}(h:autoParam (b=false) q4):b=true->p:=λz=>by rw[h] at z;cases z
structure TRel(L:Ln)(T:Tm)(ps:List Int):Prop where
 st:T.st=y9 L.ts
 he:Stg.come L.ts=false->T.he=.int ((L.t % (2*L.n):Nat):Int)
 nf:Stg.come L.ts=false->T.nf=.int (((if L.ts.frees then L.f-1 else L.f) % (2*L.n):Nat):Int)
 nu:L.ts=.left\/L.ts=.thing->T.nu=(m6 L.os L.t:Int)
 le:L.ts=.thing->T.le=(m9 L.os L.t:Int)
 pa:ps=if Stg.come L.ts=true\/L.ts=.free\/L.ts.frees=true then [] else y7 L.os L.f (L.t-L.f)
 no:Stg.come L.ts=true->T.he=.non/\T.nf=.non
theorem a3v{os:List ↑28}{i:Nat}:a7w (v9 os i) (a0a os i)=true ↔ i=0 \/ ∃j,i=j+1/\m9 os j=0:=by
 unfold a7w;cases i with
 | zero=>simp[v9]
 | succ j=>
  have e1:v9 os (j+1)=(m6 os j:Int):=rfl;have e2:a0a os (j+1)=(m9 os j:Int):=rfl;rw[e1,e2,Bool.or_eq_true,decide_eq_true_eq,decide_eq_true_eq];constructor
  ·intro h
   rcases h with h|h
   ·exact absurd h ↑2
   ·exact .inr ⟨j,rfl,by lia⟩
  ·intro h
   rcases h with h|⟨j',h,z⟩
   ·exact absurd h ↑2
   ·have:j'=j:=by lia
    subst this;exact .inr ↑2
theorem a7s{n:Nat}{os:List ↑28}{i:Nat}(hi:i<=tot os):b5p os (v9 os i) (a0a os i):=by
 by_cases z:a7w (v9 os i) (a0a os i)=true
 ·exact .inl z
 ·right
  cases i with
  | zero=>exact absurd (a3v.mpr ↑22) z
  | succ j=>
   have:=a3u (os:=os) (i:=j) ↑2;show 0<=(m6 os j:Int)/\(m6 os j:Int)<_;lia
theorem a4c{n:Nat}{os:List ↑28}{i:Nat}(gd:Good n os)(hi:i<tot os):a3m (v9 os i) (a0a os i)=(m6 os i:Int):=by
 unfold a3m;cases i with
 | zero=>
  rw[a3v.mpr ↑22,d4a gd hi]
  rfl
 | succ j=>
  by_cases z:m9 os j=0
  ·rw[a3v.mpr (.inr ⟨j,rfl,z⟩)]
   rw[(next_order gd hi z).1];show(m6 os j:Int)+1=_;lia
  ·have b:a7w (v9 os (j+1)) (a0a os (j+1))=false:=by
    cases e:a7w (v9 os (j+1)) (a0a os (j+1)) with
    | false=>rfl
    | true=>
     rcases a3v.mp e with y|⟨j',y,q⟩
     ·lia
     ·have:j'=j:=by lia
      subst this;exact absurd q z
   rw[b];rw[(next_part (os:=os) (i:=j) ↑2 ↑2).2.1]
   rfl
theorem d7c{n:Nat}{os:List ↑28}(gd:Good n os):a3m (v9 os (tot os)) (a0a os (tot os))=(os.length:Int):=by
 unfold a3m;cases e:tot os with
 | zero=>
  have:os=[]:=by
   cases os with
   | nil=>rfl
   | cons o os=>rw[a5c] at e;have:=gd.head;lia
  subst this
  rfl
 | succ j=>
  have nl:=a3u (os:=os) (i:=j) ↑2;obtain⟨a,b⟩:=a0g (n:=0) (os:=os) (i:=j) ↑2;have c:=b0e os (m6 os j+1);have l0:m9 os j=0:=by lia
  rw[a3v.mpr (.inr ⟨j,rfl,l0⟩)];show(m6 os j:Int)+1=_;have:¬ m6 os j+1<os.length:=λz=>by
   have:=d0r gd z;have:=b0e os (m6 os j+1+1);lia
  lia
theorem a5p{os:List ↑28}{i:Nat}(hi:i<tot os):∃o,os[m6 os i]?=some o/\os.getD (m6 os i) []=o/\beg os (m6 os i+1)=beg os (m6 os i)+o.length:=by
 have h:=a3u hi;refine⟨os[m6 os i],List.getElem?_eq_getElem h,by rw[List.getD_eq_getElem?_getD,List.getElem?_eq_getElem h];rfl,d0p (List.getElem?_eq_getElem h)⟩
theorem c3e{n:Nat}{os:List ↑28}{i:Nat}(gd:Good n os)(hi:i<tot os):b0k os (v9 os i) (a0a os i)=((i-beg os (m6 os i):Nat):Int):=by
 unfold b0k;cases i with
 | zero=>
  rw[a3v.mpr ↑22];rw[if_pos rfl,Nat.zero_sub]
  rfl
 | succ j=>
  by_cases z:m9 os j=0
  ·rw[a3v.mpr (.inr ⟨j,rfl,z⟩),if_pos rfl,(next_order gd hi z).1,(next_order gd hi z).2,Nat.sub_self]
   rfl
  ·have b:a7w (v9 os (j+1)) (a0a os (j+1))=false:=by
    cases e:a7w (v9 os (j+1)) (a0a os (j+1)) with
    | false=>rfl
    | true=>
     rcases a3v.mp e with y|⟨j',y,q⟩
     ·lia
     ·have:j'=j:=by lia
      subst this;exact absurd q z
   rw[b];obtain⟨o,eo,eg,es⟩:=a5p (os:=os) (i:=j) ↑2;obtain⟨h1,h2⟩:=a0g (n:=0) (os:=os) (i:=j) ↑2;rw[(next_part (os:=os) (i:=j) ↑2 ↑2).2.1];show(if false=true then 0 else ((os.getD (m6 os j:Int).toNat []).length:Int)-(m9 os j:Int))=_;rw[if_neg ↑4,Int.toNat_natCast,eg];lia
theorem c3f{n:Nat}{os:List ↑28}{i:Nat}(gd:Good n os)(hi:i<tot os):a7x os (v9 os i) (a0a os i)=(m9 os i:Int):=by
 unfold a7x;rw[a4c gd hi,c3e gd hi,Int.toNat_natCast];obtain⟨o,eo,eg,es⟩:=a5p hi;obtain⟨h1,h2⟩:=a0g (n:=0) hi;rw[eg];lia
theorem b8r{n:Nat}{os:List ↑28}{i:Nat}(gd:Good n os)(hi:i<tot os):(os.getD (a3m (v9 os i) (a0a os i)).toNat []).getD (b0k os (v9 os i) (a0a os i)).toNat 0=a0e os i/\0<=b0k os (v9 os i) (a0a os i)/\b0k os (v9 os i) (a0a os i)<((os.getD (a3m (v9 os i) (a0a os i)).toNat []).length:Int):=by
 rw[a4c gd hi,c3e gd hi,Int.toNat_natCast,Int.toNat_natCast];obtain⟨o,eo,eg,es⟩:=a5p hi;obtain⟨h1,h2⟩:=a0g (n:=0) hi;rw[eg];refine⟨?_,by lia,by lia⟩
 rw[<- b7c eo (i-beg os (m6 os i)) ↑2,show beg os (m6 os i)+(i-beg os (m6 os i))=i by lia]
theorem c0u{n:Nat}{os:List ↑28}{i:Nat}(gd:Good n os)(hi:i<=tot os):b2q os (v9 os i) (a0a os i)=decide (i<tot os):=by
 unfold b2q;by_cases z:i<tot os
 ·obtain⟨_,p0,p1⟩:=b8r gd z
  have o:=a4c gd z;have:=a3u z;rw[decide_eq_true z,decide_eq_true (show 0<=a3m (v9 os i) (a0a os i)/\a3m (v9 os i) (a0a os i)<(os.length:Int) by lia),decide_eq_true ⟨p0,p1⟩]
  rfl
 ·have e:i=tot os:=by lia
  subst e;rw[decide_eq_false z,d7c gd,decide_eq_false ↑2,Bool.false_and]
theorem a2i{n i:Nat}:(((i % (2*n):Nat):Int) / (n:Int))=(lap n i:Int):=by
 rw[<- c9l n i]
 push_cast
 rfl
theorem n9{n i:Nat}:((((i % (2*n):Nat):Int) % (n:Int))).toNat=i % n:=by
 rw[<- Int.natCast_emod,Int.toNat_natCast,c0d]
theorem a0q{n i:Nat}(hn:0<n):(0:Int)<=((i % (2*n):Nat):Int)/\((i % (2*n):Nat):Int)<2*(n:Int):=by
 have:=b7b (i:=i) hn;lia
theorem a0o{n i:Nat}:((((i % (2*n):Nat):Int)+1) % (2*(n:Int)))=(((i+1) % (2*n):Nat):Int):=by
 push_cast
 rw[Int.emod_add_emod]
theorem c3u{n i:Nat}:((((i % (2*n):Nat):Int)+(n:Int)) % (2*(n:Int)))=(((i+n) % (2*n):Nat):Int):=by
 push_cast
 rw[Int.emod_add_emod]
theorem c0e{n i:Nat}(hn:0<n):(ahd n ((i % (2*n):Nat):Int)).toNat=(i+2*n-1) % n:=by
 unfold ahd;have e1:(((i % (2*n):Nat):Int) + -1) % (2*(n:Int))=(((i+2*n-1) % (2*n):Nat):Int):=by
  have:((i+2*n-1:Nat):Int)=(i:Int) + -1+2*(n:Int):=by lia
  push_cast
  rw[Int.emod_add_emod,this,Int.add_emod_right]
 rw[e1,n9]
section
variable{H:Hp}{A:Ad}{L:Ln}{ps:List Int}{Gq:Gm}{Tq:Tm}{tl:List Tr}{lt:Lt}{Q:VK}{E:XK}
def e2d(cl:Cl)(H:Hp)(A:Ad)(L L':Ln)(ps:List Int)(Tq:Tm)(tl:List Tr)(lt:Lt)(Q:VK):Prop:=∀H' A' Gq',LH cl H' A' L.n L'.c L.os L.bk L'.gseen L.tseen ps Gq' Tq tl lt->GRel L' { Gq' with st:=y9 L'.gs }->KpA A H H'->Nx A A' H->Q (.str (y9 L'.gs)) H'
theorem d2a{x:Stg}(e:L.gs=x)(h:x.frees=false):gi L=L.g:=by unfold gi;rw[e,h];rfl
theorem d2b{x:Stg}(e:L.gs=x)(h:x.frees=true):gi L=L.g-1:=by unfold gi;rw[e,h];rfl
theorem d7u(hL:↑6)(ok:Ok L)(hg:GRel L Gq)(e:L.gs=.rouse)(k:↑12):a6y cl [.ref A.gv] H Q E:=by
 rw[show gT L=gTx .rouse L from congrArg (gTx · L) e] at k
 have es:gstep L={ L.put (4*L.n+3) (1) with gs:=.clear }:=by unfold gstep;rw[e]
 rw[es] at k;fail "t";exact k H' A Gq z ⟨rfl,λy=>↑30,λy=>↑30,λy=>↑30,λ_=>hg.no (by rw[e];rfl),λ_=>hg.n0 (by rw[e];rfl)⟩ kz ↑69
theorem d7x(hL:↑6)(ok:Ok L)(hg:GRel L Gq)(e:L.gs=.clear)(k:↑12):a7a cl [.ref A.gv] H Q E:=by
 rw[show gT L=gTx .clear L from congrArg (gTx · L) e] at k
 have es:gstep L={ L.put (4*L.n) (-1) with gs:=.mute }:=by unfold gstep;rw[e]
 rw[es] at k;fail "t";exact k H' A Gq z ⟨rfl,λy=>↑30,λy=>↑30,λy=>↑30,λ_=>hg.no (by rw[e];rfl),λ_=>hg.n0 (by rw[e];rfl)⟩ kz ↑69
theorem e1k(hL:↑6)(ok:Ok L)(hg:GRel L Gq)(e:L.gs=.mute)(k:↑12):a9t cl [.ref A.gv] H Q E:=by
 rw[show gT L=gTx .mute L from congrArg (gTx · L) e] at k
 have es:gstep L={ L.put ↑110 (0) with gs:=.marks }:=by unfold gstep;rw[e]
 rw[es] at k;fail "t";exact k H' A Gq z ⟨rfl,λy=>↑30,λy=>↑30,λy=>↑30,λ_=>hg.no (by rw[e];rfl),λ_=>hg.n0 (by rw[e];rfl)⟩ kz ↑69
theorem e1o(hL:↑6)(ok:Ok L)(hg:GRel L Gq)(e:L.gs=.hush)(k:↑12):a9v cl [.ref A.gv] H Q E:=by
 rw[show gT L=gTx .hush L from congrArg (gTx · L) e] at k
 fail "b";have es:gstep L={ L.put ↑110 (0) with gs:=.unwish }:=by unfold gstep;rw[e]
 rw[es] at k;fail "t";fail "k"
theorem d4q(hL:↑6)(ok:Ok L)(hg:GRel L Gq)(e:L.gs=.unwish)(k:↑12):a5f cl [.ref A.gv] H Q E:=by
 rw[show gT L=gTx .unwish L from congrArg (gTx · L) e] at k
 fail "b";have es:gstep L={ L.put (4*L.n) (-1) with gs:=.look }:=by unfold gstep;rw[e]
 rw[es] at k;fail "t";fail "k"
theorem d7t(hL:↑6)(ok:Ok L)(hg:GRel L Gq)(e:L.gs=.sleep)(k:↑12):a6x cl [.ref A.gv] H Q E:=by
 rw[show gT L=gTx .sleep L from congrArg (gTx · L) e] at k
 fail "b";fail "t";by_cases y:L.c ↑110=0
 ·have es:gstep L=L:=by unfold gstep;rw[e];exact if_pos y
  rw[es] at k;have q:=k H' A Gq z (by rw[e];exact⟨by rw[e],λ_=>by rw[g0];exact he0,λ_ _=>by rw[g0];exact nu0,λ_ _ _=>by rw[g0];exact le0,λy=>absurd y (by rw[e];decide),λy=>absurd y (by rw[e];decide)⟩) kz ↑69
  rw[e] at q;rw[show(if L.c (4*L.n+a6c true)=0 then ("sleep":Str) else "hush")="sleep" from if_pos y];exact q
 ·have es:gstep L={ L with gs:=.hush }:=by unfold gstep;rw[e];exact if_neg y
  rw[es] at k;rw[show(if L.c (4*L.n+a6c true)=0 then ("sleep":Str) else "hush")="hush" from if_neg y];fail "k"
theorem e1m(hL:↑6)(ok:Ok L)(hg:GRel L Gq)(e:L.gs=.look)(hp:L.g<tot L.os)(k:↑12):a9u cl [.ref A.gv] H Q E:=by
 rw[show gT L=gTx .look L from congrArg (gTx · L) e] at k
 fail "b";have w0:L.c (4*((((L.g % (2*L.n):Nat):Int) % (L.n:Int))).toNat)=a3o true L.n ((L.g % (2*L.n):Nat):Int) ↔ L.c (4 * ↑95)=2*(1-(lap L.n L.g:Int)):=by
  rw[n9];unfold a3o;rw[if_pos rfl,a2i,Int.add_zero]
 refine⟨A,L.n,L.c,L.os,L.bk,L.gseen,L.tseen,ps,Gq,Tq,tl,lt,true,A.gv,_,rfl,.inl ⟨rfl,rfl⟩,hL,he0,tn.1,tn.2,λH' z kz=>?_⟩;rw[n9] at z;by_cases y:L.c (4 * ↑95)=2*(1-(lap L.n L.g:Int))
 ·have es:gstep L={ L with gs:=.number }:=by unfold gstep;rw[e];show(if L.g<tot L.os then _ else _)=_;rw[if_pos hp];exact if_pos y
  rw[es] at k;rw[if_pos (w0.mpr y)];fail "k"
 ·have es:gstep L={ L with gs:=.wish }:=by unfold gstep;rw[e];show(if L.g<tot L.os then _ else _)=_;rw[if_pos hp];exact if_neg y
  rw[es] at k;rw[if_neg λz=>y (w0.mp z)];fail "k"
theorem d7y(hL:↑6)(ok:Ok L)(hg:GRel L Gq)(e:L.gs=.again)(k:↑12):a7b cl [.ref A.gv] H Q E:=by
 rw[show gT L=gTx .again L from congrArg (gTx · L) e] at k
 fail "b";have w0:L.c (4*((((L.g % (2*L.n):Nat):Int) % (L.n:Int))).toNat)=a3o true L.n ((L.g % (2*L.n):Nat):Int) ↔ L.c (4 * ↑95)=2*(1-(lap L.n L.g:Int)):=by
  rw[n9];unfold a3o;rw[if_pos rfl,a2i,Int.add_zero]
 refine⟨A,L.n,L.c,L.os,L.bk,L.gseen,L.tseen,ps,Gq,Tq,tl,lt,true,A.gv,_,rfl,.inl ⟨rfl,rfl⟩,hL,he0,tn.1,tn.2,λH' z kz=>?_⟩;rw[n9] at z;by_cases y:L.c (4 * ↑95)=2*(1-(lap L.n L.g:Int))
 ·have es:gstep L={ L with gs:=.unwish }:=by unfold gstep;rw[e];exact if_pos y
  rw[es] at k;rw[if_pos (w0.mpr y)];fail "k"
 ·have es:gstep L={ L with gs:=.sleep }:=by unfold gstep;rw[e];exact if_neg y
  rw[es] at k;rw[if_neg λz=>y (w0.mp z)];fail "k"
theorem e1h(hL:↑6)(ok:Ok L)(hg:GRel L Gq)(e:L.gs=.wish)(k:↑12):a9r cl [.ref A.gv] H Q E:=by
 rw[show gT L=gTx .wish L from congrArg (gTx · L) e] at k
 fail "b";have es:gstep L={ L.put (4*L.n) ((L.g % (2*L.n):Nat):Int) with gs:=.again }:=by unfold gstep;rw[e]
 rw[es] at k;refine⟨A,L.n,L.c,L.os,L.bk,L.gseen,L.tseen,ps,Gq,Tq,tl,lt,true,A.gv,_,rfl,.inl ⟨rfl,rfl⟩,hL,he0,tn.1,tn.2,λH' z kz=>?_⟩;fail "k"
theorem b4i(ok:Ok L):L.c (4 * ↑71+1)=v9 L.os L.g/\L.c (4 * ↑71+2)=a0a L.os L.g:=by
 have c0:=ok.core;have n2:=c0.n2;cases hG:L.g with
 | zero=>
  have z:=c0.slip0 hG;have e1:(0+2*L.n-1) % L.n=L.n-1:=by
   rw[show 0+2*L.n-1=(L.n-1)+L.n by lia,Nat.add_mod_right,Nat.mod_eq_of_lt ↑2]
  rw[e1];exact z
 | succ j=>
  have z:=c0.slip j ↑2 (.inl ↑2);have e1:(j+1+2*L.n-1) % L.n=j % L.n:=by
   rw[show j+1+2*L.n-1=j+L.n+L.n by lia,Nat.add_mod_right,Nat.add_mod_right]
  rw[e1];exact⟨z.1,z.2.1⟩
theorem e1i(hL:↑6)(ok:Ok L)(hg:GRel L Gq)(e:L.gs=.told)(k:↑12):b4f cl [.ref A.gv] H Q E:=by
 rw[show gT L=gTx .told L from congrArg (gTx · L) e] at k
 have hn:0<L.n:=ok.hn;have g0:gi L=L.g:=d2a e ↑4;have he0:Gq.he=.int ((L.g % (2*L.n):Nat):Int):=by rw[<- g0];exact hg.he (by rw[e];decide)
 have tn:=a0q (i:=L.g) hn;have c0:=ok.core;have ea:=c0e (i:=L.g) hn;have sa:=b4i ok;have es:gstep L={ L with gs:=.lacks }:=by unfold gstep;rw[e]
 fail "r";rw[ea] at z;exact k H' A _ z ⟨rfl,λ_=>he0,λ_ _=>sa.1,λ_ _ y=>absurd rfl y,noC,noC⟩ kz ↑69
theorem d7w(hL:↑6)(ok:Ok L)(hg:GRel L Gq)(e:L.gs=.lacks)(k:↑12):b0y cl [.ref A.gv] H Q E:=by
 rw[show gT L=gTx .lacks L from congrArg (gTx · L) e] at k
 have hn:0<L.n:=ok.hn;have g0:gi L=L.g:=d2a e ↑4;have he0:Gq.he=.int ((L.g % (2*L.n):Nat):Int):=by rw[<- g0];exact hg.he (by rw[e];decide)
 have tn:=a0q (i:=L.g) hn;have c0:=ok.core;have ea:=c0e (i:=L.g) hn;have sa:=b4i ok;have nu0:Gq.nu=v9 L.os L.g:=by rw[<- g0];exact hg.nu (by rw[e];decide) (by rw[e];decide)
 have es:gstep L={ L with gs:=.look }:=by unfold gstep;rw[e]
 fail "r";rw[ea] at z;exact k H' A _ z ⟨rfl,λ_=>he0,λ_ _=>nu0,λ_ _ _=>sa.2,noC,noC⟩ kz ↑69
theorem d4r(hL:↑6)(ok:Ok L)(hg:GRel L Gq)(e:L.gs=.number)(k:↑12):a0u cl [.ref A.gv] H Q E:=by
 rw[show gT L=gTx .number L from congrArg (gTx · L) e] at k
 fail "b";have gd:=ok.core.good;have rm:=ok.gv.room (by rw[e];rfl)
 have kn:b5p L.os Gq.nu Gq.le/\0<=a3m Gq.nu Gq.le/\a3m Gq.nu Gq.le<L.os.length:=by
  rw[nu0,le0];have:=a4c gd rm.1;have:=a3u rm.1;exact⟨a7s (n:=L.n) ↑2,by lia,by lia⟩
 have es:gstep L={ L.put (4 * ↑95+1) ((m6 L.os L.g:Int)) with gs:=.left }:=by unfold gstep;rw[e]
 fail "r";rw[n9,nu0,le0,a4c gd rm.1] at z;fail "k"
theorem e1n(hL:↑6)(ok:Ok L)(hg:GRel L Gq)(e:L.gs=.left)(k:↑12):a1r cl [.ref A.gv] H Q E:=by
 rw[show gT L=gTx .left L from congrArg (gTx · L) e] at k
 fail "b";have gd:=ok.core.good;have rm:=ok.gv.room (by rw[e];rfl)
 have kn:b5p L.os Gq.nu Gq.le/\0<=a3m Gq.nu Gq.le/\a3m Gq.nu Gq.le<L.os.length:=by
  rw[nu0,le0];have:=a4c gd rm.1;have:=a3u rm.1;exact⟨a7s (n:=L.n) ↑2,by lia,by lia⟩
 have es:gstep L={ L.put (4 * ↑95+2) ((m9 L.os L.g:Int)) with gs:=.thing }:=by unfold gstep;rw[e]
 rw[es] at k;refine⟨A,L.n,L.c,L.os,L.bk,L.gseen,L.tseen,ps,Gq,Tq,tl,lt,_,rfl,hL,he0,tn.1,tn.2,kn,λH' z kz=>?_⟩;rw[n9,nu0,le0,c3f gd rm.1] at z;fail "k"
theorem d7s(hL:↑6)(ok:Ok L)(hg:GRel L Gq)(e:L.gs=.thing)(k:↑12):a1e cl [.ref A.gv] H Q E:=by
 rw[show gT L=gTx .thing L from congrArg (gTx · L) e] at k
 fail "b";have gd:=ok.core.good;have rm:=ok.gv.room (by rw[e];rfl)
 have kn:b5p L.os Gq.nu Gq.le/\0<=a3m Gq.nu Gq.le/\a3m Gq.nu Gq.le<L.os.length:=by
  rw[nu0,le0];have:=a4c gd rm.1;have:=a3u rm.1;exact⟨a7s (n:=L.n) ↑2,by lia,by lia⟩
 have th:0<=b0k L.os Gq.nu Gq.le/\b0k L.os Gq.nu Gq.le<((L.os.getD (a3m Gq.nu Gq.le).toNat []).length:Int):=by rw[nu0,le0];exact(b8r gd rm.1).2
 have es:gstep L={ L.put (4 * ↑95+3) (a0e L.os L.g) with gs:=.mark }:=by unfold gstep;rw[e]
 rw[es] at k;refine⟨A,L.n,L.c,L.os,L.bk,L.gseen,L.tseen,ps,Gq,Tq,tl,lt,_,rfl,hL,he0,tn.1,tn.2,⟨kn.1,kn.2,th⟩,λH' z kz=>?_⟩;rw[n9,nu0,le0,(b8r gd rm.1).1] at z;fail "k"
theorem e1l(hL:↑6)(ok:Ok L)(hg:GRel L Gq)(e:L.gs=.mark)(k:↑12):b4g cl [.ref A.gv] H Q E:=by
 rw[show gT L=gTx .mark L from congrArg (gTx · L) e] at k
 fail "b";have es:gstep L={ L.put (4 * ↑95) (2*(lap L.n L.g:Int)+1) with gs:=.card,g:=L.g+1 }:=by unfold gstep;rw[e]
 fail "r";rw[n9,a2i,Nat.add_zero] at z;have gi1:gi { L.put (4 * ↑95) (2*(lap L.n L.g:Int)+1) with gs:=.card,g:=L.g+1 }=L.g:=by
  unfold gi;show(if Stg.frees .card=true then L.g+1-1 else L.g+1)=L.g;rw[if_pos (show Stg.frees .card=true from rfl)];lia
 exact k H' A Gq z ⟨rfl,λ_=>by rw[gi1];exact he0,λ_ _=>by rw[gi1];exact nu0,λ_ _ _=>by rw[gi1];exact le0,noC,noC⟩ kz ↑69
theorem e1p(hL:↑6)(ok:Ok L)(hg:GRel L Gq)(e:L.gs=.card)(k:↑12):a9w cl [.ref A.gv] H Q E:=by
 rw[show gT L=gTx .card L from congrArg (gTx · L) e] at k
 have hn:0<L.n:=ok.hn;have gp:0<L.g:=ok.gv.pos (by rw[e];rfl)
 have g0:gi L=L.g-1:=d2b e ↑4;have he0:Gq.he=.int (((L.g-1) % (2*L.n):Nat):Int):=by rw[<- g0];exact hg.he (by rw[e];decide)
 have tn:=a0q (i:=L.g-1) hn;have nu0:Gq.nu=v9 L.os (L.g-1):=by rw[<- g0];exact hg.nu (by rw[e];decide) (by rw[e];decide)
 have le0:Gq.le=a0a L.os (L.g-1):=by rw[<- g0];exact hg.le (by rw[e];decide) (by rw[e];decide) (by rw[e];decide)
 have gd:=ok.core.good;have gt:=ok.core.gt;have lt':L.g-1<tot L.os:=by lia
 have kn:b5p L.os Gq.nu Gq.le/\0<=a3m Gq.nu Gq.le/\a3m Gq.nu Gq.le<L.os.length:=by
  rw[nu0,le0];have:=a4c gd lt';have:=a3u lt';exact⟨a7s (n:=L.n) ↑2,by lia,by lia⟩
 have en:v9 L.os L.g=(m6 L.os (L.g-1):Int):=by rw[show L.g=(L.g-1)+1 by lia];rfl
 have el:a0a L.os L.g=(m9 L.os (L.g-1):Int):=by rw[show L.g=(L.g-1)+1 by lia];rfl
 have et:(((L.g-1+1) % (2*L.n):Nat):Int)=((L.g % (2*L.n):Nat):Int):=by rw[show L.g-1+1=L.g by lia]
 refine .inl ⟨A,L.n,L.c,L.os,L.bk,L.gseen,L.tseen,ps,Gq,Tq,tl,lt,_,rfl,hL,he0,tn.1,tn.2,kn,?_⟩;by_cases y:L.c (4*L.n+1)=(((L.g-1) % (2*L.n):Nat):Int)
 ·have es:gstep L={ L with gs:=.ring }:=by unfold gstep;rw[e];exact if_pos y
  rw[es] at k;rw[if_pos y];intro H' z kz;fail "k"
 ·have es:gstep L={ L with gs:=.look }:=by unfold gstep;rw[e];exact if_neg y
  rw[es] at k;rw[if_neg y];intro H' z kz;rw[a0o,nu0,le0,a4c gd lt',c3f gd lt',et] at z;exact k H' A _ z ⟨rfl,λ_=>rfl,λ_ _=>en.symm,λ_ _ _=>el.symm,noC,noC⟩ kz ↑69
theorem e1j(hL:↑6)(ok:Ok L)(hg:GRel L Gq)(e:L.gs=.ring)(k:↑12):a9s cl [.ref A.gv] H Q E:=by
 rw[show gT L=gTx .ring L from congrArg (gTx · L) e] at k
 have hn:0<L.n:=ok.hn;have gp:0<L.g:=ok.gv.pos (by rw[e];rfl)
 have g0:gi L=L.g-1:=d2b e ↑4;have he0:Gq.he=.int (((L.g-1) % (2*L.n):Nat):Int):=by rw[<- g0];exact hg.he (by rw[e];decide)
 have tn:=a0q (i:=L.g-1) hn;have nu0:Gq.nu=v9 L.os (L.g-1):=by rw[<- g0];exact hg.nu (by rw[e];decide) (by rw[e];decide)
 have le0:Gq.le=a0a L.os (L.g-1):=by rw[<- g0];exact hg.le (by rw[e];decide) (by rw[e];decide) (by rw[e];decide)
 have gd:=ok.core.good;have gt:=ok.core.gt;have lt':L.g-1<tot L.os:=by lia
 have kn:b5p L.os Gq.nu Gq.le/\0<=a3m Gq.nu Gq.le/\a3m Gq.nu Gq.le<L.os.length:=by
  rw[nu0,le0];have:=a4c gd lt';have:=a3u lt';exact⟨a7s (n:=L.n) ↑2,by lia,by lia⟩
 have en:v9 L.os L.g=(m6 L.os (L.g-1):Int):=by rw[show L.g=(L.g-1)+1 by lia];rfl
 have el:a0a L.os L.g=(m9 L.os (L.g-1):Int):=by rw[show L.g=(L.g-1)+1 by lia];rfl
 have et:(((L.g-1+1) % (2*L.n):Nat):Int)=((L.g % (2*L.n):Nat):Int):=by rw[show L.g-1+1=L.g by lia]
 have es:gstep L={ L.put (4*L.n+3) 1 with gs:=.look }:=by unfold gstep;rw[e]
 rw[es] at k;refine .inl ⟨A,L.n,L.c,L.os,L.bk,L.gseen,L.tseen,ps,Gq,Tq,tl,lt,_,rfl,hL,he0,tn.1,tn.2,kn,λH' z kz=>?_⟩;rw[a0o,nu0,le0,a4c gd lt',c3f gd lt',et] at z;exact k H' A _ z ⟨rfl,λ_=>rfl,λ_ _=>en.symm,λ_ _ _=>el.symm,noC,noC⟩ kz ↑69
end
theorem b2f{n g:Nat}(hn:0<n){xs:List Int}(l:xs.length=n)(h:∀(q:Nat) (m:Int),xs[q]?=some m->m=(b6v n g q:Int)):toB xs=c3r n (g % (2*n)):=by
 have hp:=Nat.mod_lt g hn;have hl:=b6l n g;apply List.ext_getElem?;intro q;unfold toB c3r;rw[c0d,c9l,List.getElem?_map];by_cases hq:q<n
 ·have e:=List.getElem?_eq_getElem (l:=xs) (show q<xs.length by lia)
  have z:=h q _ e;rw[e,z];unfold b6v;show some ((((if q<g % n then lap n g else 1-lap n g:Nat):Int)) == 1)=_;by_cases y:q<g % n
  ·rw[if_pos y,List.getElem?_append_left (by rw[List.length_replicate];exact y),List.getElem?_replicate,if_pos y]
   congr 1
   rw[Bool.eq_iff_iff];simp only[beq_iff_eq];lia
  ·rw[if_neg y,List.getElem?_append_right (by rw[List.length_replicate];lia),List.length_replicate,List.getElem?_replicate,if_pos ↑2]
   congr 1
   rw[Bool.eq_iff_iff];simp only[beq_iff_eq,Bool.not_eq_true',beq_eq_false_iff_ne];lia
 ·rw[List.getElem?_eq_none ↑2,List.getElem?_eq_none (by rw[List.length_append,List.length_replicate,List.length_replicate];lia)]
  rfl
theorem c0b:(List.range 7).all (λk=>(List.range (2*(k+2))).all λt=>a5s (c3r (k+2) t) == some t)=true:=by decide +kernel
theorem b0b{n t:Nat}(n2:2<=n)(n8:n<=8)(ht:t<2*n):a5s (c3r n t)=some t:=by
 have h:=List.all_eq_true.mp c0b (n-2) (List.mem_range.mpr ↑2);rw[show n-2+2=n by lia] at h
 have h:=List.all_eq_true.mp h t (List.mem_range.mpr ht)
 simpa using h
theorem b6x{xs:List Int}{x:Int}{q:Nat}{m:Int}(h:(xs++[x])[q]?=some m):(q<xs.length/\xs[q]?=some m)\/(q=xs.length/\m=x):=by
 by_cases z:q<xs.length
 ·rw[List.getElem?_append_left z] at h
  exact .inl ⟨z,h⟩
 ·have hq:q=xs.length:=by
   have:=(List.getElem?_eq_some_iff.mp h).1;rw[List.length_append] at this;have:q<xs.length+1:=this;lia
  subst hq;rw[List.getElem?_append_right ↑31,Nat.sub_self] at h;cases h;exact .inr ⟨rfl,rfl⟩
theorem d2m{xs:List Int}(h:∀(q:Nat) (m:Int),xs[q]?=some m->0<=m/\m<=3):a2u xs=true:=by
 refine List.all_eq_true.mpr λx hx=>?_;obtain⟨i,hi⟩:=List.getElem?_of_mem hx;have:=h i x hi
 simpa using this
section
variable{H:Hp}{A:Ad}{L:Ln}{ps:List Int}{Gq:Gm}{Tq:Tm}{tl:List Tr}{lt:Lt}{Q:VK}{E:XK}
theorem Nx.ofMg{p:Addr}:Nx A (A.setMg p) H:=⟨λ_ _=>rfl,.inl rfl,rfl⟩
theorem Nx.ofMt{p:Addr}:Nx A (A.setMt p) H:=⟨λ_ _=>rfl,.inl rfl,rfl⟩
theorem d7v(hL:↑6)(ok:Ok L)(hg:GRel L Gq)(e:L.gs=.marks)(k:↑12):a6z cl [.ref A.gv] H Q E:=by
 rw[show gT L=gTx .marks L from congrArg (gTx · L) e] at k
 have hn:0<L.n:=ok.hn;have n2:=ok.core.n2;have n8:=ok.core.n8;have sl:=ok.gv.seen.1;have sg:=ok.gv.seen.2;refine .inl ⟨A,L.n,L.c,L.os,L.bk,L.gseen,L.tseen,ps,Gq,Tq,tl,lt,rfl,hL,sl,?_⟩;by_cases y:L.gseen.length+1<L.n
 ·have es:gstep L={ L with gseen:=L.gseen++[L.c (4*L.gseen.length)] }:=by unfold gstep;rw[e];exact if_pos y
  rw[es] at k;rw[if_pos y];intro p H' hp z kz;have q:=k H' (A.setMg p) Gq z ⟨(by rw[e]),(λy=>by rw[e] at y;cases y),(λy=>by rw[e] at y;cases y),(λy=>by rw[e] at y;cases y),hg.no,hg.n0⟩ kz Nx.ofMg
  have e3:y9 L.gs="marks":=by rw[e];rfl
  change Q (.str (y9 L.gs)) H' at q;rw[e3] at q;exact q
 ·have es:gstep L={ L with gseen:=[],gs:=.told }:=by unfold gstep;rw[e];exact if_neg y
  rw[es] at k;rw[if_neg y];have all:∀(q:Nat)(m:Int),(L.gseen++[L.c (4*L.gseen.length)])[q]?=some m->m / 2=(b6v L.n L.g q:Int)/\0<=m/\m<=3:=λq m h=>by
   rcases b6x h with ⟨_,z⟩|⟨rfl,rfl⟩
   ·exact sg q m z
   ·exact⟨ok.core.mks.laps hn sl,ok.core.mks.range hn sl⟩
  refine⟨L.g % (2*L.n),d2m λq m h=>(all q m h).2,?_,λp H' hp z kz=>?_⟩
  ·rw[b2f hn (by rw[List.length_map,List.length_append];show L.gseen.length+1=L.n;lia) (λq m h=>?_),b0b n2 n8 (b7b hn)]
   rw[List.getElem?_map] at h;cases e2:(L.gseen++[L.c (4*L.gseen.length)])[q]? with
   | none=>rw[e2] at h;cases h
   | some m'=>
    rw[e2] at h;cases h;exact(all q m' e2).1
  ·exact k H' (A.setMg p) _ z ⟨rfl,λ_=>rfl,λ_ y=>absurd rfl y,λ_ y=>absurd rfl y,noC,λ_=>hg.n0 (by rw[e];rfl)⟩ kz Nx.ofMg
def e2c(cl:Cl)(H:Hp)(A:Ad)(L L':Ln)(Gq:Gm)(tl:List Tr)(lt:Lt)(Q:VK):Prop:=∀H' A' Tq' ps',LH cl H' A' L.n L'.c L.os L'.bk L.gseen L'.tseen ps' Gq Tq' tl lt->TRel L' { Tq' with st:=y9 L'.ts } ps'->KpA A H H'->Nx A A' H->Q (.str (y9 L'.ts)) H'
theorem c0p{x:Stg}(h1:x≠.left)(h2:x≠.thing){a:Int}{b:Int}:x=.left\/x=.thing->a=b:=λy=>by rcases y with y|y;exact absurd y h1;exact absurd y h2
theorem d6g(hL:↑6)(ok:Ok L)(ht:↑117)(e:L.ts=.rouse)(k:↑15):a6y cl [.ref A.tk] H Q E:=by
 rw[show tT L=tTx .rouse L from congrArg (tTx · L) e] at k
 have es:tstep L={ L.put ↑110 (1) with ts:=.clear }:=by unfold tstep;rw[e]
 rw[es] at k;fail "s";have p0:ps=[]:=by rw[ht.pa];exact if_pos (.inl (by rw[e];rfl))
 exact k H' A Tq ps z ⟨rfl,(λy=>↑30),(λy=>↑30),c0p (x:=.clear) ↑4 ↑4,(λy=>(nomatch (show Stg.clear=Stg.thing from y))),(by rw[p0];rfl),λ_=>ht.no (by rw[e];rfl)⟩ kz ↑69
theorem d6i(hL:↑6)(ok:Ok L)(ht:↑117)(e:L.ts=.clear)(k:↑15):a7a cl [.ref A.tk] H Q E:=by
 rw[show tT L=tTx .clear L from congrArg (tTx · L) e] at k
 have es:tstep L={ L.put (4*L.n+1) (-1) with ts:=.mute }:=by unfold tstep;rw[e]
 rw[es] at k;fail "s";have p0:ps=[]:=by rw[ht.pa];exact if_pos (.inl (by rw[e];rfl))
 exact k H' A Tq ps z ⟨rfl,(λy=>↑30),(λy=>↑30),c0p (x:=.mute) ↑4 ↑4,(λy=>(nomatch (show Stg.mute=Stg.thing from y))),(by rw[p0];rfl),λ_=>ht.no (by rw[e];rfl)⟩ kz ↑69
theorem d9p(hL:↑6)(ok:Ok L)(ht:↑117)(e:L.ts=.mute)(k:↑15):a9t cl [.ref A.tk] H Q E:=by
 rw[show tT L=tTx .mute L from congrArg (tTx · L) e] at k
 have es:tstep L={ L.put (4*L.n+3) (0) with ts:=.marks }:=by unfold tstep;rw[e]
 rw[es] at k;fail "s";have p0:ps=[]:=by rw[ht.pa];exact if_pos (.inl (by rw[e];rfl))
 exact k H' A Tq ps z ⟨rfl,(λy=>↑30),(λy=>↑30),c0p (x:=.marks) ↑4 ↑4,(λy=>(nomatch (show Stg.marks=Stg.thing from y))),(by rw[p0];rfl),λ_=>ht.no (by rw[e];rfl)⟩ kz ↑69
theorem d9s(hL:↑6)(ok:Ok L)(ht:↑117)(e:L.ts=.hush)(k:↑15):a9v cl [.ref A.tk] H Q E:=by
 rw[show tT L=tTx .hush L from congrArg (tTx · L) e] at k
 fail "d";have es:tstep L={ L.put (4*L.n+3) (0) with ts:=.unwish }:=by unfold tstep;rw[e]
 rw[es] at k;fail "s";exact k H' A Tq ps z ⟨rfl,λ_=>he0,λ_=>nf0,c0p (x:=.unwish) ↑4 ↑4,(λy=>(nomatch (show Stg.unwish=Stg.thing from y))),pa0,noC⟩ kz ↑69
theorem d2k(hL:↑6)(ok:Ok L)(ht:↑117)(e:L.ts=.unwish)(k:↑15):a5f cl [.ref A.tk] H Q E:=by
 rw[show tT L=tTx .unwish L from congrArg (tTx · L) e] at k
 fail "d";have es:tstep L={ L.put (4*L.n+1) (-1) with ts:=.look }:=by unfold tstep;rw[e]
 rw[es] at k;fail "s";exact k H' A Tq ps z ⟨rfl,λ_=>he0,λ_=>nf0,c0p (x:=.look) ↑4 ↑4,↑79,pa0,noC⟩ kz ↑69
theorem d6f(hL:↑6)(ok:Ok L)(ht:↑117)(e:L.ts=.sleep)(k:↑15):a6x cl [.ref A.tk] H Q E:=by
 rw[show tT L=tTx .sleep L from congrArg (tTx · L) e] at k
 fail "d";fail "s";by_cases y:L.c (4*L.n+3)=0
 ·have es:tstep L=L:=by unfold tstep;rw[e];exact if_pos y
  rw[es] at k;have st0:{ Tq with st:=y9 L.ts }=Tq:=by have:=ht.st;cases Tq;cases this;rfl
  have q:=k H' A Tq ps z (by rw[st0];exact ht) kz ↑69
  rw[e] at q;rw[show(if L.c (4*L.n+a6c false)=0 then ("sleep":Str) else "hush")="sleep" from if_pos y];exact q
 ·have es:tstep L={ L with ts:=.hush }:=by unfold tstep;rw[e];exact if_neg y
  rw[es] at k;rw[show(if L.c (4*L.n+a6c false)=0 then ("sleep":Str) else "hush")="hush" from if_neg y];exact k H' A Tq ps z ⟨rfl,λ_=>he0,λ_=>nf0,c0p (x:=.hush) ↑4 ↑4,(λy=>(nomatch (show Stg.hush=Stg.thing from y))),pa0,noC⟩ kz ↑69
theorem d9q(hL:↑6)(ok:Ok L)(ht:↑117)(e:L.ts=.look)(k:↑15):a9u cl [.ref A.tk] H Q E:=by
 rw[show tT L=tTx .look L from congrArg (tTx · L) e] at k
 fail "d";have w0:L.c (4*((((L.t % (2*L.n):Nat):Int) % (L.n:Int))).toNat)=a3o false L.n ((L.t % (2*L.n):Nat):Int) ↔ L.c (4 * ↑75)=2*(lap L.n L.t:Int)+1:=by
  rw[n9];unfold a3o;rw[if_neg ↑4,a2i]
 refine⟨A,L.n,L.c,L.os,L.bk,L.gseen,L.tseen,ps,Gq,Tq,tl,lt,false,A.tk,_,rfl,.inr ⟨rfl,rfl⟩,hL,he0,tn.1,tn.2,λH' z kz=>?_⟩;rw[n9] at z;by_cases y:L.c (4 * ↑75)=2*(lap L.n L.t:Int)+1
 ·have es:tstep L={ L with ts:=.number }:=by unfold tstep;rw[e];exact if_pos y
  rw[es] at k;rw[if_pos (w0.mpr y)];exact k H' A Tq ps z ⟨rfl,λ_=>he0,λ_=>nf0,c0p (x:=.number) ↑4 ↑4,(λy=>(nomatch (show Stg.number=Stg.thing from y))),pa0,noC⟩ kz ↑69
 ·have es:tstep L={ L with ts:=.wish }:=by unfold tstep;rw[e];exact if_neg y
  rw[es] at k;rw[if_neg λz=>y (w0.mp z)];exact k H' A Tq ps z ⟨rfl,λ_=>he0,λ_=>nf0,c0p (x:=.wish) ↑4 ↑4,(λy=>(nomatch (show Stg.wish=Stg.thing from y))),pa0,noC⟩ kz ↑69
theorem d6j(hL:↑6)(ok:Ok L)(ht:↑117)(e:L.ts=.again)(k:↑15):a7b cl [.ref A.tk] H Q E:=by
 rw[show tT L=tTx .again L from congrArg (tTx · L) e] at k
 fail "d";have w0:L.c (4*((((L.t % (2*L.n):Nat):Int) % (L.n:Int))).toNat)=a3o false L.n ((L.t % (2*L.n):Nat):Int) ↔ L.c (4 * ↑75)=2*(lap L.n L.t:Int)+1:=by
  rw[n9];unfold a3o;rw[if_neg ↑4,a2i]
 refine⟨A,L.n,L.c,L.os,L.bk,L.gseen,L.tseen,ps,Gq,Tq,tl,lt,false,A.tk,_,rfl,.inr ⟨rfl,rfl⟩,hL,he0,tn.1,tn.2,λH' z kz=>?_⟩;rw[n9] at z;by_cases y:L.c (4 * ↑75)=2*(lap L.n L.t:Int)+1
 ·have es:tstep L={ L with ts:=.unwish }:=by unfold tstep;rw[e];exact if_pos y
  rw[es] at k;rw[if_pos (w0.mpr y)];exact k H' A Tq ps z ⟨rfl,λ_=>he0,λ_=>nf0,c0p (x:=.unwish) ↑4 ↑4,(λy=>(nomatch (show Stg.unwish=Stg.thing from y))),pa0,noC⟩ kz ↑69
 ·have es:tstep L={ L with ts:=.sleep }:=by unfold tstep;rw[e];exact if_neg y
  rw[es] at k;rw[if_neg λz=>y (w0.mp z)];exact k H' A Tq ps z ⟨rfl,λ_=>he0,λ_=>nf0,c0p (x:=.sleep) ↑4 ↑4,(λy=>(nomatch (show Stg.sleep=Stg.thing from y))),pa0,noC⟩ kz ↑69
theorem d9n(hL:↑6)(ok:Ok L)(ht:↑117)(e:L.ts=.wish)(k:↑15):a9r cl [.ref A.tk] H Q E:=by
 rw[show tT L=tTx .wish L from congrArg (tTx · L) e] at k
 fail "d";have es:tstep L={ L.put (4*L.n+1) ((L.t % (2*L.n):Nat):Int) with ts:=.again }:=by unfold tstep;rw[e]
 rw[es] at k;refine⟨A,L.n,L.c,L.os,L.bk,L.gseen,L.tseen,ps,Gq,Tq,tl,lt,false,A.tk,_,rfl,.inr ⟨rfl,rfl⟩,hL,he0,tn.1,tn.2,λH' z kz=>?_⟩;exact k H' A Tq ps z ⟨rfl,λ_=>he0,λ_=>nf0,c0p (x:=.again) ↑4 ↑4,(λy=>(nomatch (show Stg.again=Stg.thing from y))),pa0,noC⟩ kz ↑69
theorem d2l(hL:↑6)(ok:Ok L)(ht:↑117)(e:L.ts=.number)(k:↑15):a0t cl [.ref A.tk] H Q E:=by
 rw[show tT L=tTx .number L from congrArg (tTx · L) e] at k
 fail "d";have tk:=ok.tk;have lies:=tk.lies (by rw[e];rfl)
 have ft:L.f<=L.t:=by have:=tk.ft;rw[e] at this;exact this
 have sp:=ok.core.slip L.t lies (.inr ft);have es:tstep L={ L with ts:=.left }:=by unfold tstep;rw[e]
 fail "r";rw[n9] at z;exact k H' A _ ps z ⟨rfl,λ_=>he0,λ_=>nf0,λ_=>sp.1,(λy=>(nomatch (show Stg.left=Stg.thing from y))),pa0,noC⟩ kz ↑69
theorem d9r(hL:↑6)(ok:Ok L)(ht:↑117)(e:L.ts=.left)(k:↑15):a1q cl [.ref A.tk] H Q E:=by
 rw[show tT L=tTx .left L from congrArg (tTx · L) e] at k
 fail "d";have tk:=ok.tk;have lies:=tk.lies (by rw[e];rfl)
 have ft:L.f<=L.t:=by have:=tk.ft;rw[e] at this;exact this
 have sp:=ok.core.slip L.t lies (.inr ft);have es:tstep L={ L with ts:=.thing }:=by unfold tstep;rw[e]
 fail "r";rw[n9] at z;exact k H' A _ ps z ⟨rfl,λ_=>he0,λ_=>nf0,λ_=>ht.nu (.inl e),λ_=>sp.2.1,pa0,noC⟩ kz ↑69
theorem b7d{os:List ↑28}{a k:Nat}:y7 os a (k+1)=y7 os a k++[a0e os (a+k)]:=by
 unfold y7;rw[List.range_succ,List.map_append]
 rfl
theorem d6e(hL:↑6)(ok:Ok L)(ht:↑117)(e:L.ts=.thing)(hb:L.bk.length<=400)(k:↑15):a1d cl [.ref A.tk] H Q E:=by
 rw[show tT L=tTx .thing L from congrArg (tTx · L) e] at k
 fail "d";have tk:=ok.tk;have lies:=tk.lies (by rw[e];rfl)
 have ft:L.f<=L.t:=by have:=tk.ft;rw[e] at this;exact this
 have sp:=ok.core.slip L.t lies (.inr ft);have gf:=ok.core.gf;have n8:=ok.core.n8;have nu0:=ht.nu (.inr e);have le0:=ht.le e;have pl:ps.length<=100:=by rw[pa0];unfold y7;rw[List.length_map,List.length_range];lia
 have th:ps++[L.c (4*((((L.t % (2*L.n):Nat):Int) % (L.n:Int))).toNat+3)]=y7 L.os L.f (L.t+1-L.f):=by
  rw[n9,sp.2.2,pa0,show L.t+1-L.f=(L.t-L.f)+1 by lia,b7d,show L.f+(L.t-L.f)=L.t by lia]
 refine⟨A,L.n,L.c,L.os,L.bk,L.gseen,L.tseen,ps,Gq,Tq,tl,lt,_,rfl,hL,he0,tn.1,tn.2,hb,pl,?_⟩;rw[th];by_cases y:0<m9 L.os L.t
 ·have es:tstep L={ L with ts:=.look,t:=L.t+1 }:=by unfold tstep;rw[e];exact if_pos y
  rw[es] at k;rw[if_pos (by rw[le0];lia)]
  intro H' z kz;rw[a0o,n9] at z;exact k H' A _ _ z ⟨rfl,λ_=>rfl,λ_=>nf0,c0p (x:=.look) ↑4 ↑4,↑79,rfl,noC⟩ kz ↑69
 ·have es:tstep L={ L with ts:=.free,bk:=if m6 L.os L.t=L.bk.length then L.bk++[y7 L.os L.f (L.t+1-L.f)] else L.bk }:=by unfold tstep;rw[e];exact if_neg y
  rw[es] at k;rw[if_neg (by rw[le0];lia)]
  intro p H' hp z kz;have eb:d5p L.bk Tq.nu (y7 L.os L.f (L.t+1-L.f))=if m6 L.os L.t=L.bk.length then L.bk++[y7 L.os L.f (L.t+1-L.f)] else L.bk:=by
   unfold d5p;rw[nu0];by_cases q:m6 L.os L.t=L.bk.length
   ·rw[if_pos q,if_pos ↑2]
   ·rw[if_neg q,if_neg ↑2]
  rw[eb,n9] at z;exact k H' _ Tq [] z ⟨rfl,λ_=>he0,λ_=>nf0,c0p (x:=.free) ↑4 ↑4,(λy=>(nomatch (show Stg.free=Stg.thing from y))),rfl,noC⟩ kz (Nx.pa hp)
theorem d9t(hL:↑6)(ok:Ok L)(ht:↑117)(e:L.ts=.free)(k:↑15):b4h cl [.ref A.tk] H Q E:=by
 rw[show tT L=tTx .free L from congrArg (tTx · L) e] at k
 have hn:0<L.n:=ok.hn;have he0:Tq.he=.int ((L.t % (2*L.n):Nat):Int):=ht.he (by rw[e];rfl)
 have tn:=a0q (i:=L.t) hn;have nf0:Tq.nf=.int ((L.f % (2*L.n):Nat):Int):=by have:=ht.nf (by rw[e];rfl);rw[e] at this;exact this
 have fn:=a0q (i:=L.f) hn;have p0:ps=[]:=by rw[ht.pa];exact if_pos (.inr (.inl e))
 have es:tstep L={ L.put (4*(L.f % L.n)) (2*(lap L.n L.f:Int)) with ts:=.card,f:=L.f+1 }:=by unfold tstep;rw[e]
 rw[es] at k;refine⟨A,L.n,L.c,L.os,L.bk,L.gseen,L.tseen,ps,Gq,Tq,tl,lt,_,rfl,hL,nf0,fn.1,fn.2,λH' z kz=>?_⟩;rw[n9,a2i,Nat.add_zero,Int.add_zero] at z;exact k H' A Tq ps z ⟨rfl,λ_=>he0,λ_=>nf0,c0p (x:=.card) ↑4 ↑4,(λy=>(nomatch (show Stg.card=Stg.thing from y))),p0,noC⟩ kz ↑69
theorem d9u(hL:↑6)(ok:Ok L)(ht:↑117)(e:L.ts=.card)(k:↑15):a9w cl [.ref A.tk] H Q E:=by
 rw[show tT L=tTx .card L from congrArg (tTx · L) e] at k
 have hn:0<L.n:=ok.hn;have he0:Tq.he=.int ((L.t % (2*L.n):Nat):Int):=ht.he (by rw[e];rfl)
 have tn:=a0q (i:=L.t) hn;have fp:0<L.f:=ok.tk.pos (by rw[e];rfl)
 have nf0:Tq.nf=.int (((L.f-1) % (2*L.n):Nat):Int):=by have:=ht.nf (by rw[e];rfl);rw[e] at this;exact this
 have fn:=a0q (i:=L.f-1) hn;have p0:ps=[]:=by rw[ht.pa];exact if_pos (.inr (.inr (by rw[e];rfl)))
 have lst:=ok.tk.last (.inr (by rw[e];rfl))
 have ft:L.f<=L.t+1:=by have:=ok.tk.ft;rw[e] at this;exact this
 have gf:=ok.core.gf;have eqt:(((L.f-1) % (2*L.n):Nat):Int)=((L.t % (2*L.n):Nat):Int) ↔ L.f=L.t+1:=by
  constructor
  ·intro z
   have:=c1d (n:=L.n) (i:=L.f-1) (j:=L.t) ↑2 ↑2 ↑2 hn;lia
  ·intro z
   rw[z]
   rfl
 have eqn:(((L.f-1+1) % (2*L.n):Nat):Int)=((L.f % (2*L.n):Nat):Int):=by rw[show L.f-1+1=L.f by lia]
 refine .inr ⟨A,L.n,L.c,L.os,L.bk,L.gseen,L.tseen,ps,Gq,Tq,tl,lt,_,_,rfl,hL,he0,nf0,fn.1,fn.2,?_⟩;rw[c3u,Nat.add_zero];by_cases y:L.c (4*L.n)=(((L.f-1+L.n) % (2*L.n):Nat):Int)
 ·have es:tstep L={ L with ts:=.ring }:=by unfold tstep;rw[e];exact if_pos y
  rw[es] at k;rw[if_pos y];intro H' z kz;exact k H' A Tq ps z ⟨rfl,λ_=>he0,λ_=>nf0,c0p (x:=.ring) ↑4 ↑4,(λy=>(nomatch (show Stg.ring=Stg.thing from y))),p0,noC⟩ kz ↑69
 ·have e0:tstep L=a2w L:=by unfold tstep;rw[e];exact if_neg y
  rw[e0] at k;rw[if_neg y];intro H' z kz;by_cases y2:L.f=L.t+1
  ·have es:a2w L={ L with ts:=.look,t:=L.f }:=by unfold a2w;exact if_pos y2
   rw[es] at k;rw[if_pos (eqt.mpr y2)] at z ⊢;rw[a0o,eqn] at z;exact k H' A _ ps z ⟨rfl,λ_=>rfl,λ_=>rfl,c0p (x:=.look) ↑4 ↑4,↑79,by rw[p0];show[]=y7 L.os L.f (L.f-L.f);rw[Nat.sub_self];rfl,noC⟩ kz ↑69
  ·have es:a2w L={ L with ts:=.free }:=by unfold a2w;exact if_neg y2
   rw[es] at k;rw[if_neg λq=>y2 (eqt.mp q)] at z ⊢;rw[a0o,eqn] at z;exact k H' A _ ps z ⟨rfl,λ_=>he0,λ_=>rfl,c0p (x:=.free) ↑4 ↑4,(λy=>(nomatch (show Stg.free=Stg.thing from y))),p0,noC⟩ kz ↑69
theorem d9o(hL:↑6)(ok:Ok L)(ht:↑117)(e:L.ts=.ring)(k:↑15):a9s cl [.ref A.tk] H Q E:=by
 rw[show tT L=tTx .ring L from congrArg (tTx · L) e] at k
 have hn:0<L.n:=ok.hn;have he0:Tq.he=.int ((L.t % (2*L.n):Nat):Int):=ht.he (by rw[e];rfl)
 have tn:=a0q (i:=L.t) hn;have fp:0<L.f:=ok.tk.pos (by rw[e];rfl)
 have nf0:Tq.nf=.int (((L.f-1) % (2*L.n):Nat):Int):=by have:=ht.nf (by rw[e];rfl);rw[e] at this;exact this
 have fn:=a0q (i:=L.f-1) hn;have p0:ps=[]:=by rw[ht.pa];exact if_pos (.inr (.inr (by rw[e];rfl)))
 have lst:=ok.tk.last (.inr (by rw[e];rfl))
 have ft:L.f<=L.t+1:=by have:=ok.tk.ft;rw[e] at this;exact this
 have gf:=ok.core.gf;have eqt:(((L.f-1) % (2*L.n):Nat):Int)=((L.t % (2*L.n):Nat):Int) ↔ L.f=L.t+1:=by
  constructor
  ·intro z
   have:=c1d (n:=L.n) (i:=L.f-1) (j:=L.t) ↑2 ↑2 ↑2 hn;lia
  ·intro z
   rw[z]
   rfl
 have eqn:(((L.f-1+1) % (2*L.n):Nat):Int)=((L.f % (2*L.n):Nat):Int):=by rw[show L.f-1+1=L.f by lia]
 refine .inr ⟨A,L.n,L.c,L.os,L.bk,L.gseen,L.tseen,ps,Gq,Tq,tl,lt,_,_,rfl,hL,he0,nf0,fn.1,fn.2,λH' z kz=>?_⟩;have e0:tstep L=a2w (L.put ↑110 1):=by unfold tstep;rw[e]
 rw[e0] at k
 ·skip
  by_cases y2:L.f=L.t+1
  ·have es:a2w (L.put ↑110 1)={ (L.put ↑110 1) with ts:=.look,t:=L.f }:=by unfold a2w;exact if_pos y2
   rw[es] at k;rw[if_pos (eqt.mpr y2)] at z ⊢;rw[a0o,eqn] at z;exact k H' A _ ps z ⟨rfl,λ_=>rfl,λ_=>rfl,c0p (x:=.look) ↑4 ↑4,↑79,by rw[p0];show[]=y7 L.os L.f (L.f-L.f);rw[Nat.sub_self];rfl,noC⟩ kz ↑69
  ·have es:a2w (L.put ↑110 1)={ (L.put ↑110 1) with ts:=.free }:=by unfold a2w;exact if_neg y2
   rw[es] at k;rw[if_neg λq=>y2 (eqt.mp q)] at z ⊢;rw[a0o,eqn] at z;exact k H' A _ ps z ⟨rfl,λ_=>he0,λ_=>rfl,c0p (x:=.free) ↑4 ↑4,(λy=>(nomatch (show Stg.free=Stg.thing from y))),p0,noC⟩ kz ↑69
theorem d6h(hL:↑6)(ok:Ok L)(ht:↑117)(e:L.ts=.marks)(k:↑15):a6z cl [.ref A.tk] H Q E:=by
 rw[show tT L=tTx .marks L from congrArg (tTx · L) e] at k
 have hn:0<L.n:=ok.hn;have n2:=ok.core.n2;have n8:=ok.core.n8;have sl:=ok.tk.seen.1;have sg:=ok.tk.seen.2;have p0:ps=[]:=by rw[ht.pa];exact if_pos (.inl (by rw[e];rfl))
 refine .inr ⟨A,L.n,L.c,L.os,L.bk,L.gseen,L.tseen,ps,Gq,Tq,tl,lt,rfl,hL,sl,?_⟩;by_cases y:L.tseen.length+1<L.n
 ·have es:tstep L={ L with tseen:=L.tseen++[L.c (4*L.tseen.length)] }:=by unfold tstep;rw[e];exact if_pos y
  rw[es] at k;rw[if_pos y];intro p H' hp z kz;have q:=k H' (A.setMt p) Tq ps z ⟨(by rw[e]),(λy=>by rw[e] at y;cases y),(λy=>by rw[e] at y;cases y),(λy=>by rw[e] at y;rcases y with y|y <;> cases y),(λy=>by rw[e] at y;cases y),(by rw[p0,e];rfl),ht.no⟩ kz Nx.ofMt
  have e3:y9 L.ts="marks":=by rw[e];rfl
  change Q (.str (y9 L.ts)) H' at q;rw[e3] at q;exact q
 ·have es:tstep L={ L with tseen:=[],ts:=.look }:=by unfold tstep;rw[e];exact if_neg y
  rw[es] at k;rw[if_neg y];have tf:=ok.tk.come (.inr (.inr (.inr e)));have all:∀(q:Nat)(m:Int),(L.tseen++[L.c (4*L.tseen.length)])[q]?=some m->(if m / 2≠m % 2 then (1:Int) else 0)=(b6v L.n L.f q:Int)/\0<=m/\m<=3:=λq m h=>by
   rcases b6x h with ⟨_,z⟩|⟨rfl,rfl⟩
   ·exact sg q m z
   ·exact⟨ok.core.mks.sides hn ok.core.fg ok.core.gf sl,ok.core.mks.range hn sl⟩
  refine⟨L.f % (2*L.n),d2m λq m h=>(all q m h).2,?_,λp H' hp z kz=>?_⟩
  ·rw[b2f hn (by rw[List.length_map,List.length_append];show L.tseen.length+1=L.n;lia) (λq m h=>?_),b0b n2 n8 (b7b hn)]
   rw[List.getElem?_map] at h;cases e2:(L.tseen++[L.c (4*L.tseen.length)])[q]? with
   | none=>rw[e2] at h;cases h
   | some m'=>
    rw[e2] at h;cases h;rw[<- (all q m' e2).1];unfold tbI;by_cases z:m' / 2=m' % 2
    ·rw[if_pos z,if_neg ↑2]
    ·rw[if_neg z,if_pos z]
  ·refine k H' (A.setMt p) _ ps z ⟨rfl,λ_=>by rw[tf],λ_=>rfl,c0p (x:=.look) ↑4 ↑4,↑79,?_,noC⟩ kz Nx.ofMt
   rw[p0];show[]=y7 L.os L.f (L.t-L.f);rw[tf,Nat.sub_self]
   rfl
end
end
end
section
open PySem PySem.Spec L2 Pr
section
variable{P:Program}{w:World}{K:Frag}{mg:Str->Option Value}{base:Heap}{cl:Cl}
structure DT(P:Program)(w:World)(K:↑29)(mg:↑67)(base:Heap)(d:Addr)(k:Nat)(l:List (Str×Sp)):Prop where
 ex:∃kvs,KDict P w K d kvs/\(∀x sp,(x,sp)∈l->∃f ps,valueAt kvs x=some (.ref f)/\FnV P w K mg base f k ps sp)/\∀x,x ∉ l.map (·.1)->valueAt kvs x=none
noncomputable def c6l(cl:Cl):List (Str×Sp):=[("rouse",a6y cl),("clear",a7a cl),("mute",a9t cl),("marks",a6z cl),("look",a9u cl),("wish",a9r cl),("again",a7b cl),("sleep",a6x cl),("hush",a9v cl),("unwish",a5f cl),("card",a9w cl),("ring",a9s cl)]
noncomputable def b8z:List Str:=["rouse","clear","mute","marks","look","wish","again","sleep","hush","unwish","card","ring"]
theorem a3n{x:Str}(h:x ∉ b8z):x ∉ (c6l cl).map (·.1):=h
noncomputable def e5z(cl:Cl):List (Str×Sp):=[("told",b4f cl),("lacks",b0y cl),("number",a0u cl),("left",a1r cl),("thing",a1e cl),("mark",b4g cl)]
noncomputable def e5y(cl:Cl):List (Str×Sp):=[("number",a0t cl),("left",a1q cl),("thing",a1d cl),("free",b4h cl)]
def a6h(cl:Cl):Sp:=λvs H Q E=>ExL λA n c os bk gs ts ps Gq Tq tl lt=>∃(sp:Sp),vs=[.ref A.gv]/\↑905/\(Gq.st,sp)∈e5z cl/\sp [.ref A.gv] H Q E
noncomputable abbrev a4a:Stmt:=o9 (top 88) 17
theorem a6l:i8 ["self","deed"] ["self"] (g9 a4a):=↑1
theorem b5l(D:DefM K cl.Giver "own_deed" "Giver.own_deed" a4a ["self"])(T:↑14)(O:DT P w K mg base cl.d_DEEDS_giver 5 (e5z cl)):↑902 "own_deed" 6 ["self"] (a6h cl):=by
 refine D.fn a6l ↑8 ↑3
 ·obtain⟨A,n,c,os,bk,gs,ts,ps,Gq,Tq,tl,lt,sp,rfl,hL,hm,k⟩:=h
  refine⟨_,(d6 (l9 (i:=1) a6l.nd rfl ↑22 (a0c (d7m (K:=K)) (a7q T.r_DEEDS_giver rfl) ↑5 ↑11))
   (d7 (m8 (b6z (k:=5) (i:=1) rfl (Or.inl rfl) hr ↑4 j4 ↑49)))),?_⟩
  obtain⟨dx,ex⟩:=hL.gv;obtain⟨kvs,kd,hv,_⟩:=O.ex;obtain⟨fa,pn,e1,F⟩:=hv _ _ hm;fail "";refine⟨cl.d_DEEDS_giver,_,kvs,_,.ref fa,rfl,rfl,kd,e1,rfl,?_⟩;fail "";refine⟨fa,pn,sp,rfl,F,?_⟩;fail "";exact k
def a6g(cl:Cl):Sp:=λvs H Q E=>ExL λA n c os bk gs ts ps Gq Tq tl lt=>∃(sp:Sp),vs=[.ref A.tk]/\↑905/\(Tq.st,sp)∈e5y cl/\sp [.ref A.tk] H Q E
noncomputable abbrev a3z:Stmt:=o9 (top 98) 11
theorem a6k:i8 ["self","deed"] ["self"] (g9 a3z):=↑1
theorem b5k(D:DefM K cl.Taker "own_deed" "Taker.own_deed" a3z ["self"])(T:↑14)(O:DT P w K mg base cl.d_DEEDS_taker 5 (e5y cl)):↑903 "own_deed" 6 ["self"] (a6g cl):=by
 refine D.fn a6k ↑8 ↑3
 ·obtain⟨A,n,c,os,bk,gs,ts,ps,Gq,Tq,tl,lt,sp,rfl,hL,hm,k⟩:=h
  refine⟨_,(d6 (l9 (i:=1) a6k.nd rfl ↑22 (a0c (d7m (K:=K)) (a7q T.r_DEEDS_taker rfl) ↑5 ↑11))
   (d7 (m8 (b6z (k:=5) (i:=1) rfl (Or.inl rfl) hr ↑4 j4 ↑49)))),?_⟩
  obtain⟨dx,ex⟩:=hL.tk;obtain⟨kvs,kd,hv,_⟩:=O.ex;obtain⟨fa,pn,e1,F⟩:=hv _ _ hm;fail "";refine⟨cl.d_DEEDS_taker,_,kvs,_,.ref fa,rfl,rfl,kd,e1,rfl,?_⟩;fail "";refine⟨fa,pn,sp,rfl,F,?_⟩;fail "";exact k
section
variable{H:Hp}{A:Ad}{L:Ln}{ps:List Int}{Gq:Gm}{Tq:Tm}{tl:List Tr}{lt:Lt}
theorem e5j(hL:↑6)(ok:Ok L)(hg:GRel L Gq)(hp:L.gs=.look->L.g<tot L.os):
  (∃sp,(Gq.st,sp)∈c6l cl/\∀Q E,e2d cl H A L (gstep L) ps Tq tl (lt.tch (gT L)) Q->sp [.ref A.gv] H Q E)\/(Gq.st ∉ (c6l cl).map (·.1)/\∃sp,(Gq.st,sp)∈e5z cl/\∀Q E,e2d cl H A L (gstep L) ps Tq tl (lt.tch (gT L)) Q->sp [.ref A.gv] H Q E):=by
 rw[hg.st];cases e:L.gs with
 | rouse=>exact .inl ⟨_,.head _,λQ E k=>d7u hL ok hg e k⟩
 | clear=>exact .inl ⟨_,.tail _ (.head _),λQ E k=>d7x hL ok hg e k⟩
 | mute=>exact .inl ⟨_,.tail _ (.tail _ (.head _)),λQ E k=>e1k hL ok hg e k⟩
 | marks=>exact .inl ⟨_,.tail _ ↑27,λQ E k=>d7v hL ok hg e k⟩
 | look=>exact .inl ⟨_,.tail _ (.tail _ ↑27),λQ E k=>e1m hL ok hg e (hp e) k⟩
 | wish=>exact .inl ⟨_,.tail _ ↑16,λQ E k=>e1h hL ok hg e k⟩
 | again=>exact .inl ⟨_,.tail _ (.tail _ ↑16),λQ E k=>d7y hL ok hg e k⟩
 | sleep=>exact .inl ⟨_,.tail _ (.tail _ (.tail _ ↑16)),λQ E k=>d7t hL ok hg e k⟩
 | hush=>exact .inl ⟨_,.tail _ ↑136,λQ E k=>e1o hL ok hg e k⟩
 | unwish=>exact .inl ⟨_,.tail _ (.tail _ ↑136),λQ E k=>d4q hL ok hg e k⟩
 | card=>exact .inl ⟨_,.tail _ (.tail _ (.tail _ ↑136)),λQ E k=>e1p hL ok hg e k⟩
 | ring=>exact .inl ⟨_,.tail _ (.tail _ (.tail _ (.tail _ ↑136))),λQ E k=>e1j hL ok hg e k⟩
 | told=>exact .inr ⟨a3n (show("told":Str) ∉ b8z by decide),_,.head _,λQ E k=>e1i hL ok hg e k⟩
 | lacks=>exact .inr ⟨a3n (show("lacks":Str) ∉ b8z by decide),_,.tail _ (.head _),λQ E k=>d7w hL ok hg e k⟩
 | number=>exact .inr ⟨a3n (show("number":Str) ∉ b8z by decide),_,.tail _ (.tail _ (.head _)),λQ E k=>d4r hL ok hg e k⟩
 | left=>exact .inr ⟨a3n (show("left":Str) ∉ b8z by decide),_,.tail _ ↑27,λQ E k=>e1n hL ok hg e k⟩
 | thing=>exact .inr ⟨a3n (show("thing":Str) ∉ b8z by decide),_,.tail _ (.tail _ ↑27),λQ E k=>d7s hL ok hg e k⟩
 | mark=>exact .inr ⟨a3n (show("mark":Str) ∉ b8z by decide),_,.tail _ ↑16,λQ E k=>e1l hL ok hg e k⟩
 | free=>exact absurd e ok.gv.st
theorem e2q(hL:↑6)(ok:Ok L)(ht:↑117)(hb:L.bk.length<=400):
  (∃sp,(Tq.st,sp)∈c6l cl/\∀Q E,e2c cl H A L (tstep L) Gq tl (lt.tch (tT L)) Q->sp [.ref A.tk] H Q E)\/(Tq.st ∉ (c6l cl).map (·.1)/\∃sp,(Tq.st,sp)∈e5y cl/\∀Q E,e2c cl H A L (tstep L) Gq tl (lt.tch (tT L)) Q->sp [.ref A.tk] H Q E):=by
 rw[ht.st];cases e:L.ts with
 | rouse=>exact .inl ⟨_,.head _,λQ E k=>d6g hL ok ht e k⟩
 | clear=>exact .inl ⟨_,.tail _ (.head _),λQ E k=>d6i hL ok ht e k⟩
 | mute=>exact .inl ⟨_,.tail _ (.tail _ (.head _)),λQ E k=>d9p hL ok ht e k⟩
 | marks=>exact .inl ⟨_,.tail _ ↑27,λQ E k=>d6h hL ok ht e k⟩
 | look=>exact .inl ⟨_,.tail _ (.tail _ ↑27),λQ E k=>d9q hL ok ht e k⟩
 | wish=>exact .inl ⟨_,.tail _ ↑16,λQ E k=>d9n hL ok ht e k⟩
 | again=>exact .inl ⟨_,.tail _ (.tail _ ↑16),λQ E k=>d6j hL ok ht e k⟩
 | sleep=>exact .inl ⟨_,.tail _ (.tail _ (.tail _ ↑16)),λQ E k=>d6f hL ok ht e k⟩
 | hush=>exact .inl ⟨_,.tail _ ↑136,λQ E k=>d9s hL ok ht e k⟩
 | unwish=>exact .inl ⟨_,.tail _ (.tail _ ↑136),λQ E k=>d2k hL ok ht e k⟩
 | card=>exact .inl ⟨_,.tail _ (.tail _ (.tail _ ↑136)),λQ E k=>d9u hL ok ht e k⟩
 | ring=>exact .inl ⟨_,.tail _ (.tail _ (.tail _ (.tail _ ↑136))),λQ E k=>d9o hL ok ht e k⟩
 | number=>exact .inr ⟨a3n (show("number":Str) ∉ b8z by decide),_,.head _,λQ E k=>d2l hL ok ht e k⟩
 | left=>exact .inr ⟨a3n (show("left":Str) ∉ b8z by decide),_,.tail _ (.head _),λQ E k=>d9r hL ok ht e k⟩
 | thing=>exact .inr ⟨a3n (show("thing":Str) ∉ b8z by decide),_,.tail _ (.tail _ (.head _)),λQ E k=>d6e hL ok ht e hb k⟩
 | free=>exact .inr ⟨a3n (show("free":Str) ∉ b8z by decide),_,.tail _ ↑27,λQ E k=>d9t hL ok ht e k⟩
 | told=>exact absurd e ok.tk.st.1
 | lacks=>exact absurd e ok.tk.st.2.1
 | mark=>exact absurd e ok.tk.st.2.2
end
noncomputable def c6j(tl:List Tr):Lt:=⟨(tl.length:Int),tl.getLast?.map (·.2)⟩
theorem b7a(tl:List Tr)(b:Bool)(t:Tc):c6j (tl++[(b,t)])=(c6j tl).tch t:=by
 unfold c6j Lt.tch;rw[List.length_append,List.getLast?_append];simp
def LR(cl:Cl)(H:Hp)(A:Ad)(L:Ln)(tl:List Tr):Prop:=∃ps Gq Tq,∃_u:Unit,LH cl H A L.n L.c L.os L.bk L.gseen L.tseen ps Gq Tq tl (c6j tl)/\GRel L Gq/\TRel L Tq ps/\Ok L
theorem KpA.updE{A:Ad}{H:Hp}{j:Nat}{x:Addr}{o:HO}(h:x=A.o j)(hj:j<8):KpA A H (L2.upd H x o):=h ▸ KpA.upd hj
noncomputable def b7g(b:Bool)(L:Ln):Ln:=if b then gstep L else tstep L
noncomputable def a6n(b:Bool)(L:Ln):Bool:=b && (decide (L.gs=.look) && decide (tot L.os<=L.g))
noncomputable def e6k(b:Bool)(L:Ln):Tc:=if b then gT L else tT L
noncomputable def trB(b:Bool)(L:Ln)(tl:List Tr):List Tr:=if a6n b L then tl else tl++[(b,e6k b L)]
theorem c9o{b:Bool}{L:Ln}{tl:List Tr}(h:a6n b L=true):trB b L tl=tl:=if_pos h
theorem c3w{b:Bool}{L:Ln}{tl:List Tr}(h:a6n b L=false):trB b L tl=tl++[(b,e6k b L)]:=if_neg (by rw[h];decide)
theorem e2p(b:Bool)(L:Ln)(tl:List Tr):tl.length<=(trB b L tl).length/\(trB b L tl).length<=tl.length+1:=by
 unfold trB;split
 ·lia
 ·rw[List.length_append];exact⟨by lia,Nat.le_refl _⟩
theorem a2h(L:Ln):(gstep L).n=L.n/\(gstep L).os=L.os/\(gstep L).bk=L.bk/\(gstep L).tseen=L.tseen/\(gstep L).ts=L.ts/\(gstep L).f=L.f/\(gstep L).t=L.t:=by
 unfold gstep;cases L.gs <;> dsimp only <;> (repeat' split) <;> exact⟨rfl,rfl,rfl,rfl,rfl,rfl,rfl⟩
theorem a2d(L:Ln):(tstep L).n=L.n/\(tstep L).os=L.os/\(tstep L).gseen=L.gseen/\(tstep L).gs=L.gs/\(tstep L).g=L.g:=by
 unfold tstep a2w;cases L.ts <;> dsimp only <;> (repeat' split) <;> exact⟨rfl,rfl,rfl,rfl,rfl⟩
theorem TRel.gstep{L:Ln}{Tq:Tm}{ps:List Int}(h:↑117):TRel (gstep L) Tq ps:=by
 obtain⟨n,os,_,_,ts,f,t⟩:=a2h L;exact⟨by rw[ts];exact h.st,by rw[ts,t,n];exact h.he,by rw[ts,f,n];exact h.nf,by rw[ts,os,t];exact h.nu,by rw[ts,os,t];exact h.le,by rw[ts,os,f,t];exact h.pa,by rw[ts];exact h.no⟩
theorem GRel.tstep{L:Ln}{Gq:Gm}(h:GRel L Gq):GRel (tstep L) Gq:=by
 obtain⟨n,os,_,gs,g⟩:=a2d L;have gi':gi (Pr.tstep L)=gi L:=by unfold gi;rw[gs,g]
 exact⟨by rw[gs];exact h.st,by rw[gs,gi',n];exact h.he,by rw[gs,gi',os];exact h.nu,by rw[gs,gi',os];exact h.le,by rw[gs];exact h.no,by rw[gs];exact h.n0⟩
theorem d2t{L:Ln}{Gq:Gm}(ok:Ok L)(hg:GRel L Gq):(Gq.st="look"->b5p L.os Gq.nu Gq.le)/\(decide (Gq.st="look") && !b2q L.os Gq.nu Gq.le)=a6n true L:=by
 by_cases e:L.gs=.look
 ·have g0:gi L=L.g:=d2a e ↑4
  have nu0:Gq.nu=v9 L.os L.g:=by rw[<- g0];exact hg.nu (by rw[e];decide) (by rw[e];decide)
  have le0:Gq.le=a0a L.os L.g:=by rw[<- g0];exact hg.le (by rw[e];decide) (by rw[e];decide) (by rw[e];decide)
  have s0:Gq.st="look":=by rw[hg.st,e];rfl
  rw[nu0,le0];refine⟨λ_=>a7s (n:=L.n) ok.core.gt,?_⟩;unfold a6n;rw[s0,e,c0u ok.core.good ok.core.gt];by_cases y:L.g<tot L.os
  ·rw[decide_eq_true y,decide_eq_false (p:=tot L.os<=L.g) ↑2];rfl
  ·rw[decide_eq_false y,decide_eq_true (p:=tot L.os<=L.g) ↑2];rfl
 ·have s0:Gq.st≠"look":=by
   rw[hg.st];intro z;apply e;cases q:L.gs <;> rw[q] at z <;> first|rfl|exact absurd z ↑4
  refine⟨λz=>absurd z s0,?_⟩;unfold a6n;rw[decide_eq_false s0,decide_eq_false e]
  rfl
theorem c0j{L:Ln}(h:a6n true L=true):gstep L=L:=by
 unfold a6n at h;rw[Bool.true_and,Bool.and_eq_true,decide_eq_true_eq,decide_eq_true_eq] at h;unfold gstep;rw[h.1];exact if_neg ↑2
noncomputable abbrev a4v:Stmt:=o9 (top 72) 4
theorem a5l:i8 ["self","deed"] ["self"] (g9 a4v):=↑1
theorem c2y(D:DefM K cl.Giver "step" "Hand.step" a4v ["self"])(T:↑14)(GR:↑902 "resting" 4 ["self"] (a7v cl))(O:DT P w K mg base cl.d_DEEDS_hand 7 (c6l cl))(GO:↑902 "own_deed" 6 ["self"] (a6h cl))(G_Board_last_touch:↑904 cl.Board "last_touch" 1 ["self"] (a1v cl)):↑902 "step" 8 ["self"] (λvs H Q E=>E3 λ(A:Ad)(L:Ln)(tl:List Tr)=>vs=[.ref A.gv]/\LR cl H A L tl/\L.os.length<=400/\tl.length<=4000000/\∀H' A',LR cl H' A' (b7g true L) (trB true L tl)->KpA A H H'->Nx A A' H->Q (.bl (!a6n true L)) H'):=by
 refine D.fn a5l ↑8 ↑3
 ·obtain⟨A,L,tl,rfl,⟨ps,Gq,Tq,lt,hL,hg,ht,ok⟩,os4,tl5,k⟩:=h
  refine⟨_,(d6 (x0 (a9g ↑128)
     ↑101
     v6)
   (d6 (x0 (l7 (d3r (K:=K)) ↑5 (a7q T.r_DEEDS_hand rfl) ↑58)
     (
     d6 (l9 (i:=1) a5l.nd rfl ↑22 (a0c (d7m (K:=K)) (a7q T.r_DEEDS_hand rfl) ↑5 ↑11))
     (d7 (o8 (K:=K) (pu 0) (b6z (k:=7) (i:=1) rfl (Or.inl rfl) hr ↑4 j4 ↑49))))
     (d7 (o8 (K:=K) (pu 0) (a1n (k:=6) (pu 0) hr ↑4 j4))))
   (d6 (j9 (z9 (K:=K) ↑5 (d5 (k7 (op_catTK (K:=K)) (a2x ↑130) (c0n ↑5 T.k_Board G_Board_last_touch hr ↑4 j4)) i9)))
   ↑101))),?_⟩
  obtain⟨dx,ex⟩:=hL.gv;obtain⟨kvs,kd,hv,hno⟩:=O.ex;fail "e";refine⟨A.gv,cl.Giver,dx,_,_,_,rfl,ex,rfl,T.k_Giver,GR,?_⟩;fail "";refine⟨A,_,_,_,_,_,_,ps,Gq,Tq,tl,_,rfl,hL,(d2t ok hg).1,?_⟩;rw[(d2t ok hg).2];fail "";refine d4w (λy=>?_) (λy=>?_)
  ·fail ""
   have q:=k H A (by rw[c9o y,show b7g true L=L from c0j y];exact⟨ps,Gq,Tq,lt,hL,hg,ht,ok⟩) (λ_ _ e _=>e) ↑69
   rw[y] at q;exact q
  have nr:L.gs=.look->L.g<tot L.os:=λz=>by
   unfold a6n at y;rw[z,Bool.true_and] at y;have:¬ tot L.os<=L.g:=λz2=>by rw[decide_eq_true z2] at y;cases y
   lia
  rcases e5j hL ok hg nr with ⟨sp,hm,hd⟩|⟨hn,sp,hm,hd⟩
  ·obtain⟨fa,pn,e1,F⟩:=hv _ _ hm
   fail "";refine⟨cl.d_DEEDS_hand,_,kvs,rfl,rfl,kd,?_⟩;rw[e1];refine⟨true,rfl,?_⟩;rw[if_pos rfl];fail "";refine⟨cl.d_DEEDS_hand,_,kvs,_,.ref fa,rfl,rfl,kd,e1,rfl,?_⟩;fail "";refine⟨fa,pn,sp,rfl,F,?_⟩;fail "";refine hd _ _ λH1 A1 Gq1 z1 z2 z3 z4=>?_;have ea:A.gv=A1.gv:=(z4.1 2 ↑2).symm;have e4:A1.kt=A.kt:=z4.1 4 ↑2;obtain⟨dx1,ex1⟩:=z1.gv;obtain⟨xs,ext,lxs,_⟩:=z1.tr;have lxm:(xs.map V.ref).length=tl.length:=by rw[List.length_map];exact lxs
   have n24:A1.kt≠A.gv:=by rw[ea];exact z1.nd 4 2 ↑2 ↑2 ↑2
   have z5:LH cl (upd H1 A.gv (gvO cl dx1 A1 { Gq1 with st:=y9 (gstep L).gs })) A1 L.n (gstep L).c L.os L.bk (gstep L).gseen L.tseen ps { Gq1 with st:=y9 (gstep L).gs } Tq tl ((c6j tl).tch (gT L)):=by rw[ea];exact z1.setG
   rw[<- ea] at ex1;fail "";refine⟨by decide,λp hp=>?_⟩
   have z6:=z5.same (j1 (o:=.tup [.str "giver"]) hp);fail "i";have z7:=(z6.same (j1 (o:=.tup ([.str "giver"]++[.str (gT L).d,.int (gT L).k,.int (gT L).x])) hp2));fail "n";have z8:=z7.setTr (t:=(true,gT L)) (by rw[d8 np2,d8 np,d8 n24];exact ext) (z6.off hp2) (z6.nfo hp2) d9
   have q:=k _ A1 (by rw[c3w y];exact⟨ps,_,Tq,lt,(by obtain⟨sn,so,sb,st,_⟩:=a2h L;show LH cl _ A1 (gstep L).n (gstep L).c (gstep L).os (gstep L).bk (gstep L).gseen (gstep L).tseen _ _ _ (tl++[(true,gT L)]) (c6j (tl++[(true,gT L)]));rw[sn,so,sb,st,b7a];exact z8),z2,ht.gstep,d0e ok⟩) ((((z3.trans (KpA.upd (j:=2) ↑2)).trans (KpA.of (j1 hp))).trans (KpA.of (j1 hp2))).trans (KpA.updE (j:=4) e4 ↑2)) z4
   rw[y] at q;exact q
  ·fail ""
   refine⟨cl.d_DEEDS_hand,_,kvs,rfl,rfl,kd,?_⟩;rw[hno _ hn];refine⟨false,rfl,?_⟩;rw[if_neg ↑4];fail "e";refine⟨A.gv,cl.Giver,dx,_,_,_,rfl,ex,rfl,T.k_Giver,GO,?_⟩;fail "";refine⟨A,_,_,_,_,_,_,ps,Gq,Tq,tl,_,sp,rfl,hL,hm,?_⟩;refine hd _ _ λH1 A1 Gq1 z1 z2 z3 z4=>?_;have ea:A.gv=A1.gv:=(z4.1 2 ↑2).symm;have e4:A1.kt=A.kt:=z4.1 4 ↑2;obtain⟨dx1,ex1⟩:=z1.gv;obtain⟨xs,ext,lxs,_⟩:=z1.tr;have lxm:(xs.map V.ref).length=tl.length:=by rw[List.length_map];exact lxs
   have n24:A1.kt≠A.gv:=by rw[ea];exact z1.nd 4 2 ↑2 ↑2 ↑2
   have z5:LH cl (upd H1 A.gv (gvO cl dx1 A1 { Gq1 with st:=y9 (gstep L).gs })) A1 L.n (gstep L).c L.os L.bk (gstep L).gseen L.tseen ps { Gq1 with st:=y9 (gstep L).gs } Tq tl ((c6j tl).tch (gT L)):=by rw[ea];exact z1.setG
   rw[<- ea] at ex1;fail "";refine⟨by decide,λp hp=>?_⟩
   have z6:=z5.same (j1 (o:=.tup [.str "giver"]) hp);fail "i";have z7:=(z6.same (j1 (o:=.tup ([.str "giver"]++[.str (gT L).d,.int (gT L).k,.int (gT L).x])) hp2));fail "n";have z8:=z7.setTr (t:=(true,gT L)) (by rw[d8 np2,d8 np,d8 n24];exact ext) (z6.off hp2) (z6.nfo hp2) d9
   have q:=k _ A1 (by rw[c3w y];exact⟨ps,_,Tq,lt,(by obtain⟨sn,so,sb,st,_⟩:=a2h L;show LH cl _ A1 (gstep L).n (gstep L).c (gstep L).os (gstep L).bk (gstep L).gseen (gstep L).tseen _ _ _ (tl++[(true,gT L)]) (c6j (tl++[(true,gT L)]));rw[sn,so,sb,st,b7a];exact z8),z2,ht.gstep,d0e ok⟩) ((((z3.trans (KpA.upd (j:=2) ↑2)).trans (KpA.of (j1 hp))).trans (KpA.of (j1 hp2))).trans (KpA.updE (j:=4) e4 ↑2)) z4
   rw[y] at q;exact q
theorem c2s(D:DefM K cl.Taker "step" "Hand.step" a4v ["self"])(T:↑14)(GR:↑903 "resting" 4 ["self"] (a7u cl))(O:DT P w K mg base cl.d_DEEDS_hand 7 (c6l cl))(GO:↑903 "own_deed" 6 ["self"] (a6g cl))(G_Board_last_touch:↑904 cl.Board "last_touch" 1 ["self"] (a1v cl)):↑903 "step" 8 ["self"] (λvs H Q E=>E3 λ(A:Ad)(L:Ln)(tl:List Tr)=>vs=[.ref A.tk]/\LR cl H A L tl/\L.os.length<=400/\tl.length<=4000000/\∀H' A',LR cl H' A' (b7g false L) (trB false L tl)->KpA A H H'->Nx A A' H->Q (.bl (!a6n false L)) H'):=by
 refine D.fn a5l ↑8 ↑3
 ·obtain⟨A,L,tl,rfl,⟨ps,Gq,Tq,lt,hL,hg,ht,ok⟩,os4,tl5,k⟩:=h
  refine⟨_,(d6 (x0 (a9g ↑128)
     ↑101
     v6)
   (d6 (x0 (l7 (d3r (K:=K)) ↑5 (a7q T.r_DEEDS_hand rfl) ↑58)
     (
     d6 (l9 (i:=1) a5l.nd rfl ↑22 (a0c (d7m (K:=K)) (a7q T.r_DEEDS_hand rfl) ↑5 ↑11))
     (d7 (o8 (K:=K) (pu 0) (b6z (k:=7) (i:=1) rfl (Or.inl rfl) hr ↑4 j4 ↑49))))
     (d7 (o8 (K:=K) (pu 0) (a1n (k:=6) (pu 0) hr ↑4 j4))))
   (d6 (j9 (z9 (K:=K) ↑5 (d5 (k7 (op_catTK (K:=K)) (a2x ↑130) (c0n ↑5 T.k_Board G_Board_last_touch hr ↑4 j4)) i9)))
   ↑101))),?_⟩
  obtain⟨dx,ex⟩:=hL.tk;obtain⟨kvs,kd,hv,hno⟩:=O.ex;fail "e";refine⟨A.tk,cl.Taker,dx,_,_,_,rfl,ex,rfl,T.k_Taker,GR,?_⟩;fail "";refine⟨A,_,_,_,_,_,_,ps,Gq,Tq,tl,_,0,rfl,hL,?_⟩;fail "";rcases e2q hL ok ht (Nat.le_trans ok.tk.bl os4) with ⟨sp,hm,hd⟩|⟨hn,sp,hm,hd⟩
  ·obtain⟨fa,pn,e1,F⟩:=hv _ _ hm
   fail "";refine⟨cl.d_DEEDS_hand,_,kvs,rfl,rfl,kd,?_⟩;rw[e1];refine⟨true,rfl,?_⟩;rw[if_pos rfl];fail "";refine⟨cl.d_DEEDS_hand,_,kvs,_,.ref fa,rfl,rfl,kd,e1,rfl,?_⟩;fail "";refine⟨fa,pn,sp,rfl,F,?_⟩;fail "";refine hd _ _ λH1 A1 Tq1 ps1 z1 z2 z3 z4=>?_;have ea:A.tk=A1.tk:=(z4.1 3 ↑2).symm;have e4:A1.kt=A.kt:=z4.1 4 ↑2;obtain⟨dx1,ex1⟩:=z1.tk;obtain⟨xs,ext,lxs,_⟩:=z1.tr;have lxm:(xs.map V.ref).length=tl.length:=by rw[List.length_map];exact lxs
   have n24:A1.kt≠A.tk:=by rw[ea];exact z1.nd 4 3 ↑2 ↑2 ↑2
   have z5:LH cl (upd H1 A.tk (tkO cl dx1 A1 { Tq1 with st:=y9 (tstep L).ts })) A1 L.n (tstep L).c L.os (tstep L).bk L.gseen (tstep L).tseen ps1 Gq { Tq1 with st:=y9 (tstep L).ts } tl ((c6j tl).tch (tT L)):=by rw[ea];exact z1.setT
   rw[<- ea] at ex1;fail "";refine⟨by decide,λp hp=>?_⟩
   have z6:=z5.same (j1 (o:=.tup [.str "taker"]) hp);fail "i";have z7:=(z6.same (j1 (o:=.tup ([.str "taker"]++[.str (tT L).d,.int (tT L).k,.int (tT L).x])) hp2));fail "n";have z8:=z7.setTr (t:=(false,tT L)) (by rw[d8 np2,d8 np,d8 n24];exact ext) (z6.off hp2) (z6.nfo hp2) d9
   have q:=k _ A1 (by rw[c3w (b:=false) rfl];exact⟨ps1,Gq,_,lt,(by obtain⟨sn,so,sb,st,_⟩:=a2d L;show LH cl _ A1 (tstep L).n (tstep L).c (tstep L).os (tstep L).bk (tstep L).gseen (tstep L).tseen _ _ _ (tl++[(false,tT L)]) (c6j (tl++[(false,tT L)]));rw[sn,so,sb,b7a];exact z8),hg.tstep,z2,c9n ok⟩) ((((z3.trans ↑143).trans (KpA.of (j1 hp))).trans (KpA.of (j1 hp2))).trans (KpA.updE (j:=4) e4 ↑2)) z4
   exact q
  ·fail ""
   refine⟨cl.d_DEEDS_hand,_,kvs,rfl,rfl,kd,?_⟩;rw[hno _ hn];refine⟨false,rfl,?_⟩;rw[if_neg ↑4];fail "e";refine⟨A.tk,cl.Taker,dx,_,_,_,rfl,ex,rfl,T.k_Taker,GO,?_⟩;fail "";refine⟨A,_,_,_,_,_,_,ps,Gq,Tq,tl,_,sp,rfl,hL,hm,?_⟩;refine hd _ _ λH1 A1 Tq1 ps1 z1 z2 z3 z4=>?_;have ea:A.tk=A1.tk:=(z4.1 3 ↑2).symm;have e4:A1.kt=A.kt:=z4.1 4 ↑2;obtain⟨dx1,ex1⟩:=z1.tk;obtain⟨xs,ext,lxs,_⟩:=z1.tr;have lxm:(xs.map V.ref).length=tl.length:=by rw[List.length_map];exact lxs
   have n24:A1.kt≠A.tk:=by rw[ea];exact z1.nd 4 3 ↑2 ↑2 ↑2
   have z5:LH cl (upd H1 A.tk (tkO cl dx1 A1 { Tq1 with st:=y9 (tstep L).ts })) A1 L.n (tstep L).c L.os (tstep L).bk L.gseen (tstep L).tseen ps1 Gq { Tq1 with st:=y9 (tstep L).ts } tl ((c6j tl).tch (tT L)):=by rw[ea];exact z1.setT
   rw[<- ea] at ex1;fail "";refine⟨by decide,λp hp=>?_⟩
   have z6:=z5.same (j1 (o:=.tup [.str "taker"]) hp);fail "i";have z7:=(z6.same (j1 (o:=.tup ([.str "taker"]++[.str (tT L).d,.int (tT L).k,.int (tT L).x])) hp2));fail "n";have z8:=z7.setTr (t:=(false,tT L)) (by rw[d8 np2,d8 np,d8 n24];exact ext) (z6.off hp2) (z6.nfo hp2) d9
   have q:=k _ A1 (by rw[c3w (b:=false) rfl];exact⟨ps1,Gq,_,lt,(by obtain⟨sn,so,sb,st,_⟩:=a2d L;show LH cl _ A1 (tstep L).n (tstep L).c (tstep L).os (tstep L).bk (tstep L).gseen (tstep L).tseen _ _ _ (tl++[(false,tT L)]) (c6j (tl++[(false,tT L)]));rw[sn,so,sb,b7a];exact z8),hg.tstep,z2,c9n ok⟩) ((((z3.trans ↑143).trans (KpA.of (j1 hp))).trans (KpA.of (j1 hp2))).trans (KpA.updE (j:=4) e4 ↑2)) z4
   exact q
def RP(H:Hp)(os:List ↑28)(D:Addr)(i:Nat)(acc:List V)(H':Hp):Prop:=H' D=some ↑88/\Same H H'/\∃ps:List Addr,acc=ps.map V.ref/\ps.length=i/\∀(j:Nat)(p:Addr)(o:List Int),ps[j]?=some p->os[j]?=some o->H p=none/\p≠D/\H' p=some ↑53
theorem RP.new{H:Hp}{os:List ↑28}{D:Addr}(hD:H D=none):RP H os D 0 [] ↑108:=⟨d9,j1 hD,[],rfl,rfl,λj p o h=>by simp at h⟩
theorem n6{H H':Hp}{p:Addr}(s:Same H H')(h:H' p=none):H p=none:=by
 cases e:H p with
 | none=>rfl
 | some o=>rw[s _ _ e] at h;cases h
theorem RP.push{H H':Hp}{os:List ↑28}{o:List Int}{D p:Addr}{i:Nat}{acc:List V}(h:RP H os D i acc H')(hD:H D=none)(ho:os[i]?=some o)(hp:H' p=none):
  (upd H' p ↑53) D=some ↑88/\RP H os D (i+1) (acc++[.ref p]) (upd (upd H' p ↑53) D (.lst (acc++[.ref p]))):=by
 obtain⟨e,s,ps,rfl,hl,r⟩:=h;have nD:D≠p:=λz=>by rw[<- z,e] at hp;cases hp
 have hp0:=n6 s hp;refine⟨by rw[d8 nD];exact e,d9,?_,ps++[p],by rw[List.map_append];rfl,by rw[List.length_append,hl];rfl,?_⟩
 ·intro b u eb
  rw[d8 (λz=>by rw[z,hD] at eb;cases eb),d8 (λz=>by rw[z,hp0] at eb;cases eb)]
  exact s _ _ eb
 ·intro j q u hj hu
  by_cases y:j<ps.length
  ·rw[List.getElem?_append_left y] at hj
   obtain⟨a,b,c⟩:=r j q u hj hu;refine⟨a,b,?_⟩;rw[d8 b,d8 (λz=>by rw[z,hp] at c;cases c)]
   exact c
  ·rw[List.getElem?_append_right ↑2] at hj
   have:j=i:=by
    by_cases z:j-ps.length=0
    ·lia
    ·rw[List.getElem?_eq_none (by simp;lia)] at hj;cases hj
   subst this;rw[hl,Nat.sub_self] at hj;cases hj;rw[ho] at hu;cases hu;exact⟨hp0,Ne.symm nD,by rw[d8 (Ne.symm nD)];exact d9⟩
def NewRows(H H':Hp)(D:Addr)(os:List ↑28):Prop:=H D=none/\Same H H'/\∃ps:List Addr,H' D=some (.lst (ps.map V.ref))/\ps.length=os.length/\∀(j:Nat)(p:Addr)(o:List Int),ps[j]?=some p->os[j]?=some o->H p=none/\p≠D/\H' p=some ↑53
theorem RP.done{H H':Hp}{os:List ↑28}{D:Addr}{acc:List V}(h:RP H os D os.length acc H')(hD:H D=none):NewRows H H' D os:=by
 obtain⟨e,s,ps,rfl,hl,r⟩:=h;exact⟨hD,s,ps,e,hl,r⟩
def b0v(cl:Cl):Sp:=λvs H Q _=>E3 λ(n:Int)(a:Addr)(o:List Int)=>vs=[.int n,.ref a]/\H a=some ↑53/\1<=(o.length:Int)/\(o.length:Int)<=n/\∀p,H p=none->Q (.ref p) (upd H p ↑53)
abbrev b4o:Stmt:=top 74
theorem c7m:i8 ["size","order"] ["size","order"] (g9 b4o):=↑1
theorem c8a(D:DefT K mg "order_of" b4o ["size","order"])(T:↑14):↑901 "order_of" 1 ["size","order"] (b0v cl):=by
 refine D.fn c7m ↑8 ↑3
 ·obtain⟨n,a,o,rfl,ea,h1,h2,k⟩:=h
  refine⟨_,(d6 (x0 (PW.pt (c4x (l7 b5h (v7 ↑42 (by rfl) T.z_len PySem.boot_len ↑47) i4 ↑43) (b8j (l7 c5d (v7 ↑42 (by rfl) T.z_len PySem.boot_len ↑47) (pv 0) ↑43))))
     (d7 a5n)
     v6)
   (d7 (m8 (v2 (a4l (K:=K)) (by rfl) T.z_list PyProof.Rows.boot_list ↑47)))),?_⟩
  fail "aq";refine a4j (λy=>absurd y ↑2) (λ_=>?_);fail "aq";refine a4j (λy=>absurd y ↑2) (λ_=>?_);fail "";exact k
def a7y(cl:Cl):Sp:=λvs H Q _=>E3 λ(n:Int)(a:Addr)(os:List ↑28)=>vs=[.int n,.ref a]/\Rws H a os/\(∀o∈os,1<=(o.length:Int)/\(o.length:Int)<=n)/\os.length<=1000/\∀p H',NewRows H H' p os->Q (.ref p) H'
abbrev b1g:Stmt:=top 75
theorem c4e:i8 ["size","orders"] ["size","orders"] (g9 b1g):=↑1
theorem c5g(D:DefT K mg "orders_of" b1g ["size","orders"])(T:↑14)(G_order_of:↑901 "order_of" 1 ["size","order"] (b0v cl)):↑901 "orders_of" 2 ["size","orders"] (a7y cl):=by
 refine D.fn c4e ↑8 ↑3
 ·obtain⟨n,a,os,rfl,⟨ps,ea,hl,hr'⟩,ho,hz,k⟩:=h
  refine⟨_,(d7 (m8 (a9h (N:=["order","size"]) (nt:=1) (fr:=[0]) rfl (c3p (i:=0) rfl rfl (by decide +kernel) (by decide +kernel) rfl rfl rfl rfl rfl rfl rfl) (a2r (K:=K) (pv 1)) (a6d ↑4) (λ_ _ _ _ _=>a1b (i:=0) (show(["order","size"]:List Str).Nodup by decide +kernel) rfl (Or.inl rfl) (Or.inr rfl)) (λ_ _ _ _ _=>(m3 G_order_of hr ↑4 rfl d3n (d5 (pv 1) ↑48)))))),?_⟩
  have h60:6000<=sizeLine:=by decide
  refine⟨_,rfl,a,rfl,⟨_,SqL.of ea⟩,b0d (xs:=ps.map V.ref) (by rw[List.length_map];lia) (RP H os) (λD hD=>RP.new hD) ?_ ?_ ?_⟩
  ·rintro D i acc H' ⟨e,s,qs,rfl,hq,_⟩
   exact⟨e,by rw[List.length_map];exact hq,SqL.of (s _ _ ea)⟩
  ·intro D i x acc H' hD hx hp
   rw[List.getElem?_map] at hx;cases hpi:ps[i]? with
   | none=>rw[hpi] at hx;cases hx
   | some q=>
    rw[hpi] at hx;cases hx;have hi:i<os.length:=by rw[<- hl];exact(List.getElem?_eq_some_iff.mp hpi).1
    have hoi:=List.getElem?_eq_getElem hi;have eq:=hp.2.1 _ _ (hr' i q _ hpi hoi);obtain⟨l1,l2⟩:=ho _ (List.getElem_mem hi);fail "";refine⟨n,q,_,rfl,eq,l1,l2,λp hpn=>?_⟩;exact hp.push hD hoi hpn
  ·intro D acc H' hD hp
   rw[List.length_map,hl] at hp;exact k _ _ (hp.done hD)
def a5t:Sp:=λvs H Q _=>E2 λ(a:Addr)(os:List ↑28)=>vs=[.ref a]/\Rws H a os/\os.length<=1000/\∀p H',NewRows H H' p os->Q (.ref p) H'
abbrev a7f:Stmt:=top 76
theorem b9j:i8 ["orders"] ["orders"] (g9 a7f):=↑1
theorem b9r(D:DefT K mg "orders_told" a7f ["orders"])(T:↑14):↑901 "orders_told" 1 ["orders"] a5t:=by
 refine D.fn b9j ↑8 ↑3
 ·obtain⟨a,os,rfl,⟨ps,ea,hl,hr'⟩,hz,k⟩:=h
  refine⟨_,(d7 (m8 (a9h (N:=["order"]) (nt:=1) (fr:=[]) rfl ↑38 (a2r (K:=K) (pv 0)) (a6d ↑4) (λ_ _ _ _ _=>a1b (i:=0) (show(["order"]:List Str).Nodup by decide +kernel) rfl (Or.inl rfl) (Or.inr rfl)) (λ_ _ _ _ _=>(v2 (a4l (K:=K)) (by rfl) T.z_list PyProof.Rows.boot_list ↑48))))),?_⟩
  have h60:6000<=sizeLine:=by decide
  refine⟨_,rfl,a,rfl,⟨_,SqL.of ea⟩,b0d (xs:=ps.map V.ref) (by rw[List.length_map];lia) (RP H os) (λD hD=>RP.new hD) ?_ ?_ ?_⟩
  ·rintro D i acc H' ⟨e,s,qs,rfl,hq,_⟩
   exact⟨e,by rw[List.length_map];exact hq,SqL.of (s _ _ ea)⟩
  ·intro D i x acc H' hD hx hp
   rw[List.getElem?_map] at hx;cases hpi:ps[i]? with
   | none=>rw[hpi] at hx;cases hx
   | some q=>
    rw[hpi] at hx;cases hx;have hi:i<os.length:=by rw[<- hl];exact(List.getElem?_eq_some_iff.mp hpi).1
    have hoi:=List.getElem?_eq_getElem hi;have eq:=hp.2.1 _ _ (hr' i q _ hpi hoi);fail "";exact λp hpn=>hp.push hD hoi hpn
  ·intro D acc H' hD hp
   rw[List.length_map,hl] at hp;exact k _ _ (hp.done hD)
section
variable{H H':Hp}{A:Ad}{n:Nat}{c:Pr.Cells}{os bk:List ↑28}{gs ts ps:List Int}{Gq:Gm}{Tq:Tm}{tl:List Tr}{lt:Lt}
theorem LH.setKg{os':List ↑28}{u:HO}(h:↑46)(hk:RwsX A (upd H A.kg u) A.kg os')(hf:∀x,A.fo x->Unr (upd H A.kg u) A.kg x):LH cl (upd H A.kg u) A n c os' bk gs ts ps Gq Tq tl lt:=by
 have ne:∀i,i<8->i≠5->A.o i≠A.kg:=λi h8 h2=>h.nd i 5 h8 ↑2 h2;obtain⟨m,l,hB,hL⟩:=h.brd;refine⟨⟨m,l,hB.keep (ps:=[A.kg]) (Kp.upd (by simp)) ↑142 ↑141,hL.kpa (KpA.upd (j:=5) ↑2)⟩,?_,?_,?_,?_,hk,h.book.set (j:=5) ↑2 rfl (ne 6 ↑2 ↑2),?_,?_,h.nd,h.om,λx hx=>?_⟩
 fail "af";fail "ae"
 ·rw[d8 (h.om 5 ↑2).1];exact h.mg
 ·rw[d8 (h.om 5 ↑2).2];exact h.mt
 fail "ao"
 ·exact h.tr.kpa (KpA.upd (j:=5) ↑2) λo z=>by rw[d8 (ne 4 ↑2 ↑2)];exact z
 ·obtain⟨⟨o,a⟩,b,c1,d,e,f,g⟩:=h.fo x hx
  exact⟨⟨o,by rw[d8 (b 5 ↑2)];exact a⟩,b,c1,d,hf x hx,(λxs z=>f xs (by rw[d8 (ne 6 ↑2 ↑2)] at z;exact z)),(λC dx fs z=>g C dx fs (by rw[d8 (ne 0 ↑2 ↑2)] at z;exact z))⟩
theorem RwsX.push{a p:Addr}{qs:List Addr}{o:List Int}(h:RwsX A H a os)(e:H a=some (.lst (qs.map V.ref)))(ha:∃j,j<8/\a=A.o j)(hp:H p=none)(off:∀j,j<8->p≠A.o j):
  RwsX A (upd (upd H p ↑53) a (.lst (qs.map V.ref++[.ref p]))) a (os++[o]):=by
 obtain⟨ps,e',hl,r⟩:=h;have eq:ps.map V.ref=qs.map V.ref:=by rw[e] at e';exact(HO.lst.inj (Option.some.inj e')).symm
 obtain⟨ja,hja,rfl⟩:=ha;refine⟨ps++[p],by rw[d9,List.map_append,eq];rfl,by rw[List.length_append,List.length_append,hl];rfl,?_⟩
 intro i q u hq hu;by_cases y:i<ps.length
 ·rw[List.getElem?_append_left y] at hq
  rw[List.getElem?_append_left ↑2] at hu;obtain⟨a1,a2⟩:=r i q u hq hu;refine⟨a1,?_⟩;rw[d8 (a1 ja hja),d8 (λz=>by rw[z,hp] at a2;cases a2)]
  exact a2
 ·rw[List.getElem?_append_right ↑2] at hq hu
  have i0:i-ps.length=0:=by
   by_cases z:i-ps.length=0
   ·exact z
   ·rw[List.getElem?_eq_none (by simp;lia)] at hq;cases hq
  rw[i0] at hq;rw[<- hl,i0] at hu;cases hq;cases hu;exact⟨off,by rw[d8 (off ja hja)];exact d9⟩
end
theorem GRel.add{L:Ln}{Gq:Gm}{o:List Int}(h:GRel L Gq)(ok:Ok L):GRel (a7t L o) Gq:=by
 have gl:gi L<=tot L.os:=by unfold gi;have:=ok.core.gt;split <;> lia
 have e1:v9 (L.os++[o]) (gi L)=v9 L.os (gi L):=by
  cases e:gi L with
  | zero=>rfl
  | succ i=>show((m6 (L.os++[o]) i:Nat):Int)=m6 L.os i;rw[(a1g ↑2).1]
 have e2:a0a (L.os++[o]) (gi L)=a0a L.os (gi L):=by
  cases e:gi L with
  | zero=>rfl
  | succ i=>show((m9 (L.os++[o]) i:Nat):Int)=m9 L.os i;rw[(a1g ↑2).2]
 exact⟨h.st,h.he,λa b=>(h.nu a b).trans e1.symm,λa b c=>(h.le a b c).trans e2.symm,h.no,h.n0⟩
theorem TRel.add{L:Ln}{Tq:Tm}{ps:List Int}{o:List Int}(h:↑117)(ok:Ok L):TRel (a7t L o) Tq ps:=by
 have gt:=ok.core.gt;have tg:=ok.tk.tg;have e3:y7 (L.os++[o]) L.f (L.t-L.f)=y7 L.os L.f (L.t-L.f):=by
  unfold y7;apply List.map_congr_left;intro m hm;have:=List.mem_range.mp hm;exact a9x ↑2
 refine⟨h.st,h.he,h.nf,λz=>?_,λz=>?_,?_,h.no⟩
 ·have lt:L.t<L.g:=ok.tk.lies (by rcases z with z|z <;> (have z':L.ts=_:=z;rw[z'];rfl))
  show Tq.nu=((m6 (L.os++[o]) L.t:Nat):Int);rw[(a1g ↑2).1];exact h.nu z
 ·have lt:L.t<L.g:=ok.tk.lies (by have z':L.ts=_:=z;rw[z'];rfl)
  show Tq.le=((m9 (L.os++[o]) L.t:Nat):Int);rw[(a1g ↑2).2];exact h.le z
 ·show ps=if Stg.come L.ts=true\/L.ts=.free\/L.ts.frees=true then [] else y7 (L.os++[o]) L.f (L.t-L.f)
  rw[e3];exact h.pa
def b6e(cl:Cl):Sp:=λvs H Q _=>E5 λ(A:Ad)(L:Ln)(tl:List Tr)(a:Addr)(o:List Int)=>vs=[.ref A.gv,.ref a]/\LR cl H A L tl/\H a=some ↑53/\1<=o.length/\o.length<=L.n/\L.os.length<=400/\∀H',LR cl H' A (a7t L o) tl->KpA A H H'->Q (.int L.os.length) H'
noncomputable abbrev b2e:Stmt:=o9 (top 88) 1
theorem c4v:i8 ["self","order"] ["self","order"] (g9 b2e):=↑1
theorem c6f(D:DefM K cl.Giver "add" "Giver.add" b2e ["self","order"])(T:↑14)(G_order_of:↑901 "order_of" 1 ["size","order"] (b0v cl)):↑902 "add" 2 ["self","order"] (b6e cl):=by
 refine D.fn c4v ↑8 ↑3
 ·obtain⟨A,L,tl,a,o,rfl,⟨ps,Gq,Tq,lt,hL,hg,ht,ok⟩,ea,o1,o2,os4,k⟩:=h
  refine⟨_,(d6 (j9 (z9 (K:=K) ↑5 (d5 (m3 G_order_of hr ↑4 rfl j4 (d5 ↑133 ↑64)) i9)))
   (d7 (m8 (k7 a2g ↑146 i4)))),?_⟩
  have h60:6000<=sizeLine:=by decide
  obtain⟨dx,ex⟩:=hL.gv;obtain⟨qs,ek,hl,_⟩:=id hL.kept;obtain⟨many,last,hB,hLast⟩:=hL.brd;obtain⟨⟨dxb,eb⟩,_⟩:=id hB;fail "";refine⟨_,a,o,rfl,ea,by lia,by lia,λp hp=>?_⟩
  have nk:A.kg≠p:=λz=>by rw[<- z,ek] at hp;cases hp
  have ng:A.gv≠p:=λz=>by rw[<- z,ex] at hp;cases hp
  have ngk:A.gv≠A.kg:=hL.nd 2 5 ↑2 ↑2 ↑2;have hlm:(qs.map V.ref).length=L.os.length:=by rw[List.length_map,hl]
  fail "";rw[List.length_append,hlm];have z1:=(hL.same (j1 (o:=.lst (o.map V.int)) hp)).setKg (u:=.lst (qs.map V.ref++[.ref p])) (hL.kept.push ek ⟨5,by lia,rfl⟩ hp (hL.off hp)) (λx hx xs z=>by
   rw[d9] at z;cases z;obtain⟨⟨_,a⟩,_,_,_,e,_⟩:=hL.fo x hx;intro q;rcases List.mem_append.mp q with q|q
   ·exact e _ ek q
   ·exact k8 a hp (V.ref.inj (List.mem_singleton.mp q)))
  have q:=k _ ⟨ps,Gq,Tq,lt,z1,hg.add ok,ht.add ok,c9j ok ⟨o1,o2⟩⟩ ((KpA.of (j1 hp)).trans (KpA.upd (j:=5) ↑2));rw[show((L.os.length+[V.ref p].length:Nat):Int)-1=(L.os.length:Int) by show((L.os.length+1:Nat):Int)-1=_;lia]
  exact q
theorem RwsX.rws{A:Ad}{H:Hp}{a:Addr}{os:List ↑28}(h:RwsX A H a os):Rws H a os:=by
 obtain⟨ps,e,l,r⟩:=h;exact⟨ps,e,l,λi p o a b=>(r i p o a b).2⟩
def a4n(cl:Cl):Sp:=λvs H Q _=>E3 λ(A:Ad)(L:Ln)(tl:List Tr)=>vs=[.ref A.gv]/\LR cl H A L tl/\L.os.length<=1000/\∀p H',NewRows H H' p L.os->Q (.ref p) H'
noncomputable abbrev a6b:Stmt:=o9 (top 88) 2
theorem b7v:i8 ["self"] ["self"] (g9 a6b):=↑1
theorem b8q(D:DefM K cl.Giver "orders" "Giver.orders" a6b ["self"])(T:↑14)(G_orders_told:↑901 "orders_told" 1 ["orders"] a5t):↑902 "orders" 2 ["self"] (a4n cl):=by
 refine D.fn b7v ↑8 ↑3
 ·obtain⟨A,L,tl,rfl,⟨ps,Gq,Tq,lt,hL,hg,ht,ok⟩,os4,k⟩:=h
  refine⟨_,(d7 (m8 (m3 G_orders_told hr ↑4 rfl j4 ↑130))),?_⟩;obtain⟨dx,ex⟩:=hL.gv;fail "";exact⟨A.kg,L.os,rfl,hL.kept.rws,os4,k⟩
def a7c(cl:Cl):Sp:=λvs H Q _=>E3 λ(A:Ad)(L:Ln)(tl:List Tr)=>vs=[.ref A.tk]/\LR cl H A L tl/\L.os.length<=1000/\∀p H',NewRows H H' p L.bk->Q (.ref p) H'
noncomputable abbrev a8y:Stmt:=o9 (top 98) 1
theorem c1u:i8 ["self"] ["self"] (g9 a8y):=↑1
theorem c2v(D:DefM K cl.Taker "book" "Taker.book" a8y ["self"])(T:↑14)(G_orders_told:↑901 "orders_told" 1 ["orders"] a5t):↑903 "book" 2 ["self"] (a7c cl):=by
 refine D.fn c1u ↑8 ↑3
 ·obtain⟨A,L,tl,rfl,⟨ps,Gq,Tq,lt,hL,hg,ht,ok⟩,os4,k⟩:=h
  refine⟨_,(d7 (m8 (m3 G_orders_told hr ↑4 rfl j4 ↑130))),?_⟩;obtain⟨dx,ex⟩:=hL.tk;fail "";exact⟨A.kk,L.bk,rfl,hL.book.rws,(have:=ok.tk.bl;by lia),k⟩
theorem _root_.L2.MethT.toBase{x m:Str}{C f:Addr}{k:Nat}{ps:List Str}{sp:Sp}(M:↑904 C m k ps sp)(hf:findIn K (.ref C) m=some ↑116)(cm:e9a K C m f)(hm:mg x=some (.ref C)):d5x P w K mg base x m k ps sp:=by
 obtain⟨f',fd,F,hM,hb⟩:=M.ex;have:f'=f:=by have:=hM.at_;rw[hf] at this;cases this;rfl
 subst this;exact⟨C,f',fd,F,cm,hm,hb⟩
def a5i(cl:Cl):Sp:=λvs H Q _=>
 (∃(x dx bd:Addr)(v:V),vs=[.ref x,.ref bd,.str "giver",.str "taker",.str "told"]/\H x=some (.ins cl.Giver dx [("kept",v)])/\∀m r H',H m=none->H r=none->m≠r->Kp [x] H H'->H' m=some (.lst [])->H' r=some (.lst [])->H' x=some (.ins cl.Giver dx [("kept",v),("board",.ref bd),("name",.str "giver"),("other",.str "taker"),("stage_behind_marks",.str "told"),("stage_now",.str "rouse"),("marks_read",.ref m),("here",.non),("touched",.ref r)])->Q .non H')
 \/ (∃(x dx bd:Addr)(v:V),vs=[.ref x,.ref bd,.str "taker",.str "giver",.str "look"]/\H x=some (.ins cl.Taker dx [("taken",v)])/\∀m r H',H m=none->H r=none->m≠r->Kp [x] H H'->H' m=some (.lst [])->H' r=some (.lst [])->H' x=some (.ins cl.Taker dx [("taken",v),("board",.ref bd),("name",.str "taker"),("other",.str "giver"),("stage_behind_marks",.str "look"),("stage_now",.str "rouse"),("marks_read",.ref m),("here",.non),("touched",.ref r)])->Q .non H')
noncomputable abbrev b2d:Stmt:=o9 (top 72) 0
theorem c4u:i8 ["self","board","name","other","stage_behind_marks"] ["self","board","name","other","stage_behind_marks"] (g9 b2d):=↑1
theorem c6e{C:Addr}(D:DefM K C "__init__" "Hand.__init__" b2d ["self","board","name","other","stage_behind_marks"])(T:↑14):↑904 C "__init__" 1 ["self","board","name","other","stage_behind_marks"] (a5i cl):=by
 refine D.fn c4u (λvs H Q E h=>?_) ↑3
 ·rcases h with ⟨x,dx,bd,v,rfl,_⟩|⟨x,dx,bd,v,rfl,_⟩ <;> rfl
 ·skip
  refine⟨_,(d6 (o8 (K:=K) (pu 0) (pu 1))
   (d6 (o8 (K:=K) (pu 0) (pu 2))
   (d6 (o8 (K:=K) (pu 0) (pu 3))
   (d6 (o8 (K:=K) (pu 0) (pu 4))
   (d6 (o8 (K:=K) (pu 0) m4)
   (d6 ↑93
   (d6 (o8 (K:=K) (pu 0) b3q)
   (d7 ↑93)))))))),?_⟩
  rcases h with h|h
  ·obtain⟨x,dx,bd,v,rfl,ex,k⟩:=h
   fail "";refine⟨Nat.zero_le _,λm hm=>?_⟩;have nm:m≠x:=λz=>by rw[z,d9] at hm;cases hm
   have hm0:H m=none:=by simpa only [d8 nm] using hm
   fail "";refine⟨Nat.zero_le _,λr hr0=>?_⟩;have nr:r≠x:=λz=>by rw[z,d9] at hr0;cases hr0
   have nmr:r≠m:=λz=>by rw[z,d8 nm,d8 nm,d9] at hr0;cases hr0
   have hr1:H r=none:=by simpa only [d8 nr,d8 nmr] using hr0
   fail "";refine k m r _ hm0 hr1 (Ne.symm nmr) (λc o e n=>?_) ?_ ?_ ?_
   ·have nc:c≠x:=λz=>n (by simp[z])
    have c1:c≠m:=λz=>by rw[z,hm0] at e;cases e
    have c2:c≠r:=λz=>by rw[z,hr1] at e;cases e
    simpa only [d8 nc,d8 c1,d8 c2] using e
   ·simp only[d8 nm,d8 (Ne.symm nmr),d9]
   ·simp only[d8 nr,d9]
   ·rw[d9]
    rfl
  ·obtain⟨x,dx,bd,v,rfl,ex,k⟩:=h
   fail "";refine⟨Nat.zero_le _,λm hm=>?_⟩;have nm:m≠x:=λz=>by rw[z,d9] at hm;cases hm
   have hm0:H m=none:=by simpa only [d8 nm] using hm
   fail "";refine⟨Nat.zero_le _,λr hr0=>?_⟩;have nr:r≠x:=λz=>by rw[z,d9] at hr0;cases hr0
   have nmr:r≠m:=λz=>by rw[z,d8 nm,d8 nm,d9] at hr0;cases hr0
   have hr1:H r=none:=by simpa only [d8 nr,d8 nmr] using hr0
   fail "";refine k m r _ hm0 hr1 (Ne.symm nmr) (λc o e n=>?_) ?_ ?_ ?_
   ·have nc:c≠x:=λz=>n (by simp[z])
    have c1:c≠m:=λz=>by rw[z,hm0] at e;cases e
    have c2:c≠r:=λz=>by rw[z,hr1] at e;cases e
    simpa only [d8 nc,d8 c1,d8 c2] using e
   ·simp only[d8 nm,d8 (Ne.symm nmr),d9]
   ·simp only[d8 nr,d9]
   ·rw[d9]
    rfl
def NRw(H H':Hp)(D:Addr)(S:List Addr)(os:List ↑28):Prop:=∃ps:List Addr,H' D=some (.lst (ps.map V.ref))/\ps.length=os.length/\∀(j:Nat)(p:Addr)(o:List Int),ps[j]?=some p->os[j]?=some o->H p=none/\p≠D/\p ∉ S/\H' p=some ↑53
def b3c(cl:Cl):Sp:=λvs H Q _=>E10 λ(x dx bd a l:Addr)(n:Nat)(row:List Int)(many:Int)(last:V)(os:List ↑28)=>vs=[.ref x,.ref bd,.ref a]/\H x=some (.ins cl.Giver dx [])/\Brd cl H bd l n row many last/\Rws H a os/\Good n os/\os.length<=1000 /\
 ∀D m r H',H D=none->H m=none->H r=none->D≠m->D≠r->m≠r->Kp [x] H H'->NRw H H' D [m,r] os->H' m=some (.lst [])->H' r=some (.lst [])->H' x=some (.ins cl.Giver dx [("kept",.ref D),("board",.ref bd),("name",.str "giver"),("other",.str "taker"),("stage_behind_marks",.str "told"),("stage_now",.str "rouse"),("marks_read",.ref m),("here",.non),("touched",.ref r),("number",.int (-1)),("left",.int 0)])->Q .non H'
noncomputable abbrev a9c:Stmt:=o9 (top 88) 0
theorem c1z:i8 ["self","board","orders"] ["self","board","orders"] (g9 a9c):=↑1
theorem c3a(D:DefM K cl.Giver "__init__" "Giver.__init__" a9c ["self","board","orders"])(T:↑14)(G_orders_of:↑901 "orders_of" 2 ["size","orders"] (a7y cl))(G_Hand_init:d5x P w K mg base "Hand" "__init__" 1 ["self","board","name","other","stage_behind_marks"] (a5i cl)):↑902 "__init__" 3 ["self","board","orders"] (b3c cl):=by
 refine D.fn c1z ↑8 ↑3
 ·obtain⟨x,dx,bd,a,l,n,row,many,last,os,rfl,ex,hB,hR,hG,hz,k⟩:=h
  refine⟨_,(d6 (o8 (K:=K) (pu 0) (m3 G_orders_of hr ↑4 rfl j4 (d5 (a4x (K:=K) (pu 1)) (d5 (pu 2) i9))))
   (d6 (j9 (d3l G_Hand_init hr ↑4 rfl j4 (d5 (pu 0) (d5 (pu 1) (d5 m4 ↑18)))))
   (d6 (o8 (K:=K) (pu 0) (a0k T.m_NO_ORDER rfl))
   (d7 (o8 (K:=K) (pu 0) i4))))),?_⟩
  obtain⟨⟨dxb,eb⟩,_⟩:=id hB;fail "";refine⟨n,a,os,rfl,hR,(λo ho=>by have:=hG o ho;lia),hz,λD H1 nr=>?_⟩
  obtain⟨hD,s1,qs,eD,lq,rq⟩:=nr;have ex1:=s1 _ _ ex;have nDx:D≠x:=λz=>by rw[z,ex] at hD;cases hD
  fail "";refine .inl ⟨x,dx,bd,.ref D,rfl,d9,λm r H2 hm hr0 hmr kp em er ex2=>?_⟩;have nmx:m≠x:=λz=>by rw[z,d9] at hm;cases hm
  have nrx:r≠x:=λz=>by rw[z,d9] at hr0;cases hr0
  rw[d8 nmx] at hm;rw[d8 nrx] at hr0;have hm0:=n6 s1 hm;have hr1:=n6 s1 hr0;have nDm:D≠m:=λz=>by rw[<- z,eD] at hm;cases hm
  have nDr:D≠r:=λz=>by rw[<- z,eD] at hr0;cases hr0
  have eD2:H2 D=some (.lst (qs.map V.ref)):=kp _ _ (by rw[d8 nDx];exact eD) (by simpa using nDx)
  have k1:Kp [x] H H2:=λc o e n=>kp _ _ (by rw[d8 (by simpa using n)];exact s1 _ _ e) n
  have rows2:∀(j:Nat)(p:Addr)(o:List Int),qs[j]?=some p->os[j]?=some o->H p=none/\p≠D/\p≠x/\p≠m/\p≠r/\H2 p=some ↑53:=λj p o hp ho=>by
   obtain⟨a1,a2,a3⟩:=rq j p o hp ho;have px:p≠x:=λz=>by rw[z,ex] at a1;cases a1
   exact⟨a1,a2,px,(λz=>by rw[z,hm] at a3;cases a3),(λz=>by rw[z,hr0] at a3;cases a3),kp _ _ (by rw[d8 px];exact a3) (by simpa using px)⟩
  fail "";refine k D m r _ hD hm0 hr1 nDm nDr hmr (λc o e n=>?_) ⟨qs,?_,lq,λj p o hp ho=>?_⟩ ?_ ?_ ?_
  ·have nc:c≠x:=by simpa using n
   simp only[d8 nc];exact k1 _ _ e n
  ·simp only[d8 nDx]
   exact eD2
  ·obtain⟨a1,a2,a3,a4,a5,a6⟩:=rows2 j p o hp ho
   refine⟨a1,a2,by simp[a4,a5],?_⟩
   simp only[d8 a3];exact a6
  ·simp only[d8 nmx]
   exact em
  ·simp only[d8 nrx]
   exact er
  ·rw[d9]
   rfl
def b2z(cl:Cl):Sp:=λvs H Q _=>E10 λ(x dx bd a l:Addr)(n:Nat)(row:List Int)(many:Int)(last:V)(os:List ↑28)=>vs=[.ref x,.ref bd,.ref a]/\H x=some (.ins cl.Taker dx [])/\Brd cl H bd l n row many last/\Rws H a os/\Good n os/\os.length<=1000 /\
 ∀D m r q H',H D=none->H m=none->H r=none->D≠m->D≠r->m≠r->H q=none->q≠D->q≠m->q≠r->H' q=some (.lst [])->Kp [x] H H'->NRw H H' D [m,r,q] os->H' m=some (.lst [])->H' r=some (.lst [])->H' x=some (.ins cl.Taker dx [("taken",.ref D),("board",.ref bd),("name",.str "taker"),("other",.str "giver"),("stage_behind_marks",.str "look"),("stage_now",.str "rouse"),("marks_read",.ref m),("here",.non),("touched",.ref r),("not_freed",.non),("number",.int 0),("left",.int 0),("parts",.ref q)])->Q .non H'
noncomputable abbrev a8x:Stmt:=o9 (top 98) 0
theorem c1t:i8 ["self","board","book"] ["self","board","book"] (g9 a8x):=↑1
theorem c2u(D:DefM K cl.Taker "__init__" "Taker.__init__" a8x ["self","board","book"])(T:↑14)(G_orders_of:↑901 "orders_of" 2 ["size","orders"] (a7y cl))(G_Hand_init:d5x P w K mg base "Hand" "__init__" 1 ["self","board","name","other","stage_behind_marks"] (a5i cl)):↑903 "__init__" 3 ["self","board","book"] (b2z cl):=by
 refine D.fn c1t ↑8 ↑3
 ·obtain⟨x,dx,bd,a,l,n,row,many,last,os,rfl,ex,hB,hR,hG,hz,k⟩:=h
  refine⟨_,(d6 (o8 (K:=K) (pu 0) (m3 G_orders_of hr ↑4 rfl j4 (d5 (a4x (K:=K) (pu 1)) (d5 (pu 2) i9))))
   (d6 (j9 (d3l G_Hand_init hr ↑4 rfl j4 (d5 (pu 0) (d5 (pu 1) (d5 m4 ↑18)))))
   (d6 (o8 (K:=K) (pu 0) b3q)
   (d6 (o8 (K:=K) (pu 0) i4)
   (d6 (o8 (K:=K) (pu 0) i4)
   (d7 ↑93)))))),?_⟩
  obtain⟨⟨dxb,eb⟩,_⟩:=id hB;fail "";refine⟨n,a,os,rfl,hR,(λo ho=>by have:=hG o ho;lia),hz,λD H1 nr=>?_⟩
  obtain⟨hD,s1,qs,eD,lq,rq⟩:=nr;have ex1:=s1 _ _ ex;have nDx:D≠x:=λz=>by rw[z,ex] at hD;cases hD
  fail "";refine .inr ⟨x,dx,bd,.ref D,rfl,d9,λm r H2 hm hr0 hmr kp em er ex2=>?_⟩;have nmx:m≠x:=λz=>by rw[z,d9] at hm;cases hm
  have nrx:r≠x:=λz=>by rw[z,d9] at hr0;cases hr0
  rw[d8 nmx] at hm;rw[d8 nrx] at hr0;have hm0:=n6 s1 hm;have hr1:=n6 s1 hr0;have nDm:D≠m:=λz=>by rw[<- z,eD] at hm;cases hm
  have nDr:D≠r:=λz=>by rw[<- z,eD] at hr0;cases hr0
  have eD2:H2 D=some (.lst (qs.map V.ref)):=kp _ _ (by rw[d8 nDx];exact eD) (by simpa using nDx)
  have k1:Kp [x] H H2:=λc o e n=>kp _ _ (by rw[d8 (by simpa using n)];exact s1 _ _ e) n
  have rows2:∀(j:Nat)(p:Addr)(o:List Int),qs[j]?=some p->os[j]?=some o->H p=none/\p≠D/\p≠x/\p≠m/\p≠r/\H2 p=some ↑53:=λj p o hp ho=>by
   obtain⟨a1,a2,a3⟩:=rq j p o hp ho;have px:p≠x:=λz=>by rw[z,ex] at a1;cases a1
   exact⟨a1,a2,px,(λz=>by rw[z,hm] at a3;cases a3),(λz=>by rw[z,hr0] at a3;cases a3),kp _ _ (by rw[d8 px];exact a3) (by simpa using px)⟩
  fail "";refine⟨Nat.zero_le _,λq hq=>?_⟩;have nqx:q≠x:=λz=>by rw[z,d9] at hq;cases hq
  simp only[d8 nqx] at hq;have hq0:H q=none:=by
   cases e:H q with
   | none=>rfl
   | some o=>rw[k1 _ _ e (by simpa using nqx)] at hq;cases hq
  have nqD:q≠D:=λz=>by rw[z,eD2] at hq;cases hq
  have nqm:q≠m:=λz=>by rw[z,em] at hq;cases hq
  have nqr:q≠r:=λz=>by rw[z,er] at hq;cases hq
  fail "";refine k D m r q _ hD hm0 hr1 nDm nDr hmr hq0 nqD nqm nqr ?_ (λc o e n=>?_) ⟨qs,?_,lq,λj p o hp ho=>?_⟩ ?_ ?_ ?_
  ·simp only[d8 nqx,d9]
  ·have nc:c≠x:=by simpa using n
   have ncq:c≠q:=λz=>by rw[z,hq0] at e;cases e
   simp only[d8 nc,d8 ncq];exact k1 _ _ e n
  ·simp only[d8 nDx,d8 (Ne.symm nqD)]
   exact eD2
  ·obtain⟨a1,a2,a3,a4,a5,a6⟩:=rows2 j p o hp ho
   have npq:p≠q:=λz=>by rw[z,hq] at a6;cases a6
   refine⟨a1,a2,by simp[a4,a5,npq],?_⟩
   simp only[d8 a3,d8 npq];exact a6
  ·simp only[d8 nmx,d8 (Ne.symm nqm)]
   exact em
  ·simp only[d8 nrx,d8 (Ne.symm nqr)]
   exact er
  ·rw[d9]
   rfl
theorem b5n{H:Hp}{x dx:Addr}{u o:HO}(hx:H x=none)(hd:H dx=none)(ne:dx≠x):Same H (upd (upd H dx u) x o) :=
 (j1 hd).trans (j1 (by rw[d8 (Ne.symm ne)];exact hx))
def a1t(cl:Cl):Sp:=λvs H Q _=>E13 λ(la dxl bd kt a l:Addr)(n:Nat)(row:List Int)(many:Int)(last:V)(os:List ↑28)(fs:List (Str×V))(fs':Addr->List (Str×V))=>vs=[.ref la,.ref a]/\((fs=([("board",.ref bd),("kept_trail",.ref kt)]:List (Str×V))/\∀g,fs' g=([("board",.ref bd),("kept_trail",.ref kt),("giver",.ref g)]:List (Str×V)))\/(E2 λv u=>fs=([("board",.ref bd),("kept_trail",.ref kt),("giver",v),("taker",u)]:List (Str×V))/\∀g,fs' g=([("board",.ref bd),("kept_trail",.ref kt),("giver",.ref g),("taker",u)]:List (Str×V))))/\H la=some (.ins cl.Lane dxl fs)/\Brd cl H bd l n row many last/\Rws H a os/\Good n os/\os.length<=1000 /\
 ∀g dxg D m H',H g=none->H D=none->H m=none->g≠D->g≠m->D≠m->Kp [la] H H'->NRw H H' D [g,m] os->H' m=some (.lst [])->H' g=some (.ins cl.Giver dxg [("kept",.ref D),("board",.ref bd),("name",.str "giver"),("other",.str "taker"),("stage_behind_marks",.str "told"),("stage_now",.str "rouse"),("marks_read",.ref m),("here",.non),("touched",.ref kt),("number",.int (-1)),("left",.int 0)])->H' la=some (.ins cl.Lane dxl (fs' g))->Q .non H'
noncomputable abbrev a2m:Stmt:=o9 (top 100) 1
theorem a4r:i8 ["self","orders","giver"] ["self","orders"] (g9 a2m):=↑1
theorem b2j(D:DefM K cl.Lane "place_giver" "Lane.place_giver" a2m ["self","orders"])(T:↑14)(G_Giver:MakeT P w K mg base "Giver" cl.Giver 3 ["self","board","orders"] (b3c cl)):↑904 cl.Lane "place_giver" 5 ["self","orders"] (a1t cl):=by
 refine D.fn a4r ↑8 ↑3
 ·obtain⟨la,dxl,bd,kt,a,l,n,row,many,last,os,fs,fs',rfl,hfs,ela,hB,hR,hG,hz,k⟩:=h
  refine⟨_,(d6 (l9 (i:=2) a4r.nd rfl ↑22 (d6v G_Giver hr ↑4 rfl j4 (d5 ↑5 ↑64)))
   (d6 (o8 (K:=K) (pu 2) ↑5)
   (d7 (o8 (K:=K) (pu 0) (pu 2))))),?_⟩
  rcases hfs with hs1|hs2
  ·obtain⟨rfl,hfs⟩:=hs1
   fail "";intro x dx hx hdx ne;have sm:=b5n (u:=.own x) (o:=.ins cl.Giver dx []) hx hdx ne;refine⟨x,dx,bd,a,l,n,row,many,last,os,rfl,d9,hB.keep (ps:=[]) (Kp.of sm) (by simp) (by simp),hR.same sm,hG,hz,λD m r H2 hD hm hr0 nDm nDr nmr kp nr em er ex2=>⟨rfl,?_⟩⟩
   fail "g";obtain⟨qs,eD,lq,rq⟩:=nr;fail "";refine k x dx D m _ hx hD0 hm0 (Ne.symm nDx) (Ne.symm nmx) nDm (λc o e n=>?_) ⟨qs,?_,lq,λj p o hp ho=>?_⟩ ?_ ?_ ?_;fail "l"
   ·obtain⟨b0,b2,b3,b4⟩:=rq j p o hp ho
    fail "z";have b1:=(by simpa using b3:p≠m/\p≠r)
    refine⟨p0,b2,by simpa using ⟨px,b1.1⟩,?_⟩
    simp only[d8 px,d8 pl];exact b4
   fail "ad"
  ·obtain⟨v,u,rfl,hfs⟩:=hs2
   fail "";intro x dx hx hdx ne;have sm:=b5n (u:=.own x) (o:=.ins cl.Giver dx []) hx hdx ne;refine⟨x,dx,bd,a,l,n,row,many,last,os,rfl,d9,hB.keep (ps:=[]) (Kp.of sm) (by simp) (by simp),hR.same sm,hG,hz,λD m r H2 hD hm hr0 nDm nDr nmr kp nr em er ex2=>⟨rfl,?_⟩⟩
   fail "g";obtain⟨qs,eD,lq,rq⟩:=nr;fail "";refine k x dx D m _ hx hD0 hm0 (Ne.symm nDx) (Ne.symm nmx) nDm (λc o e n=>?_) ⟨qs,?_,lq,λj p o hp ho=>?_⟩ ?_ ?_ ?_;fail "l"
   ·obtain⟨b0,b2,b3,b4⟩:=rq j p o hp ho
    fail "z";have b1:=(by simpa using b3:p≠m/\p≠r)
    refine⟨p0,b2,by simpa using ⟨px,b1.1⟩,?_⟩
    simp only[d8 px,d8 pl];exact b4
   fail "ad"
def a1s(cl:Cl):Sp:=λvs H Q _=>E13 λ(la dxl bd kt a l:Addr)(n:Nat)(row:List Int)(many:Int)(last:V)(os:List ↑28)(fs:List (Str×V))(fs':Addr->List (Str×V))=>vs=[.ref la,.ref a]/\((∃v,fs=([("board",.ref bd),("kept_trail",.ref kt),("giver",v)]:List (Str×V))/\∀g,fs' g=([("board",.ref bd),("kept_trail",.ref kt),("giver",v),("taker",.ref g)]:List (Str×V)))\/(E2 λv u=>fs=([("board",.ref bd),("kept_trail",.ref kt),("giver",v),("taker",u)]:List (Str×V))/\∀g,fs' g=([("board",.ref bd),("kept_trail",.ref kt),("giver",v),("taker",.ref g)]:List (Str×V))))/\H la=some (.ins cl.Lane dxl fs)/\Brd cl H bd l n row many last/\Rws H a os/\Good n os/\os.length<=1000 /\
 ∀g dxg D m q H',H g=none->H D=none->H m=none->g≠D->g≠m->D≠m->H q=none->q≠g->q≠D->q≠m->H' q=some (.lst [])->Kp [la] H H'->NRw H H' D [g,m,q] os->H' m=some (.lst [])->H' g=some (.ins cl.Taker dxg [("taken",.ref D),("board",.ref bd),("name",.str "taker"),("other",.str "giver"),("stage_behind_marks",.str "look"),("stage_now",.str "rouse"),("marks_read",.ref m),("here",.non),("touched",.ref kt),("not_freed",.non),("number",.int 0),("left",.int 0),("parts",.ref q)])->H' la=some (.ins cl.Lane dxl (fs' g))->Q .non H'
noncomputable abbrev a2l:Stmt:=o9 (top 100) 2
theorem a4q:i8 ["self","book","taker"] ["self","book"] (g9 a2l):=↑1
theorem b2h(D:DefM K cl.Lane "place_taker" "Lane.place_taker" a2l ["self","book"])(T:↑14)(G_Taker:MakeT P w K mg base "Taker" cl.Taker 3 ["self","board","book"] (b2z cl)):↑904 cl.Lane "place_taker" 5 ["self","book"] (a1s cl):=by
 refine D.fn a4q ↑8 ↑3
 ·obtain⟨la,dxl,bd,kt,a,l,n,row,many,last,os,fs,fs',rfl,hfs,ela,hB,hR,hG,hz,k⟩:=h
  refine⟨_,(d6 (l9 (i:=2) a4q.nd rfl ↑22 (d6v G_Taker hr ↑4 rfl j4 (d5 ↑5 ↑64)))
   (d6 (o8 (K:=K) (pu 2) ↑5)
   (d7 (o8 (K:=K) (pu 0) (pu 2))))),?_⟩
  rcases hfs with hs1|hs2
  ·obtain⟨v,rfl,hfs⟩:=hs1
   fail "";intro x dx hx hdx ne;have sm:=b5n (u:=.own x) (o:=.ins cl.Taker dx []) hx hdx ne;refine⟨x,dx,bd,a,l,n,row,many,last,os,rfl,d9,hB.keep (ps:=[]) (Kp.of sm) (by simp) (by simp),hR.same sm,hG,hz,λD m r q H2 hD hm hr0 nDm nDr nmr hq nqD nqm nqr eq kp nr em er ex2=>⟨rfl,?_⟩⟩
   fail "g";have nqg:q≠x:=λz=>by rw[z,d9] at hq;cases hq
   have hq0:=n6 sm hq;have nql:q≠la:=λz=>by rw[z,ela] at hq0;cases hq0
   obtain⟨qs,eD,lq,rq⟩:=nr;fail "";refine k x dx D m q _ hx hD0 hm0 (Ne.symm nDx) (Ne.symm nmx) nDm hq0 nqg nqD nqm ?_ (λc o e n=>?_) ⟨qs,?_,lq,λj p o hp ho=>?_⟩ ?_ ?_ ?_
   ·simp only[d8 nql,d8 nqg]
    exact eq
   fail "l"
   ·obtain⟨b0,b2,b3,b4⟩:=rq j p o hp ho
    fail "z";have b1:=(by simpa using b3:p≠m/\p≠r/\p≠q)
    refine⟨p0,b2,by simpa using ⟨px,b1.1,b1.2.2⟩,?_⟩
    simp only[d8 px,d8 pl];exact b4
   fail "ad"
  ·obtain⟨v,u,rfl,hfs⟩:=hs2
   fail "";intro x dx hx hdx ne;have sm:=b5n (u:=.own x) (o:=.ins cl.Taker dx []) hx hdx ne;refine⟨x,dx,bd,a,l,n,row,many,last,os,rfl,d9,hB.keep (ps:=[]) (Kp.of sm) (by simp) (by simp),hR.same sm,hG,hz,λD m r q H2 hD hm hr0 nDm nDr nmr hq nqD nqm nqr eq kp nr em er ex2=>⟨rfl,?_⟩⟩
   fail "g";have nqg:q≠x:=λz=>by rw[z,d9] at hq;cases hq
   have hq0:=n6 sm hq;have nql:q≠la:=λz=>by rw[z,ela] at hq0;cases hq0
   obtain⟨qs,eD,lq,rq⟩:=nr;fail "";refine k x dx D m q _ hx hD0 hm0 (Ne.symm nDx) (Ne.symm nmx) nDm hq0 nqg nqD nqm ?_ (λc o e n=>?_) ⟨qs,?_,lq,λj p o hp ho=>?_⟩ ?_ ?_ ?_
   ·simp only[d8 nql,d8 nqg]
    exact eq
   fail "l"
   ·obtain⟨b0,b2,b3,b4⟩:=rq j p o hp ho
    fail "z";have b1:=(by simpa using b3:p≠m/\p≠r/\p≠q)
    refine⟨p0,b2,by simpa using ⟨px,b1.1,b1.2.2⟩,?_⟩
    simp only[d8 px,d8 pl];exact b4
   fail "ad"
theorem b0z{H:Hp}{x y:Addr}{o u:HO}(hx:H x=some o)(hy:H y=some u)(h:o≠u):x≠y:=λz=>h (by rw[z,hy] at hx;exact(Option.some.inj hx).symm)
noncomputable abbrev e4c(cl:Cl)(dx:Addr)(A:Ad):HO:=.ins cl.Lane dx [("board",.ref A.bd),("kept_trail",.ref A.kt),("giver",.ref A.gv),("taker",.ref A.tk)]
section
variable{H H':Hp}{A:Ad}{n:Nat}{c:Pr.Cells}{os bk:List ↑28}{gs ts ps:List Int}{Gq:Gm}{Tq:Tm}{tl:List Tr}{lt:Lt}{la g dxg D m q dxl:Addr}{fs:List (Str×V)}
noncomputable def Ad.newG(A:Ad)(g D m:Addr):Ad:={ o:=λj=>if j=2 then g else if j=5 then D else A.o j,mg:=m,mt:=A.mt,fo:=A.fo }
theorem Ad.newG_o{j:Nat}(h2:j≠2)(h5:j≠5):(A.newG g D m).o j=A.o j:=by unfold Ad.newG;dsimp only;rw[if_neg h2,if_neg h5]
theorem Ad.newG_off{x:Addr}(h:∀j,j<8->x≠A.o j)(x2:x≠g)(x5:x≠D):∀j,j<8->x≠(A.newG g D m).o j:=λj hj=>by
 by_cases e2:j=2
 ·rw[e2];exact x2
 by_cases e5:j=5
 ·rw[e5];exact x5
 rw[Ad.newG_o e2 e5];exact h j hj
theorem LH.newG(h:↑46)(ela:H la=some (.ins cl.Lane dxl fs))(hla:∀j,j<8->la≠A.o j)(nla:¬ A.fo la)(hg:H g=none)(hD:H D=none)(hm:H m=none)(gD:g≠D)(gm:g≠m)(Dm:D≠m)(kp:Kp [la] H H')(nr:NRw H H' D [g,m] os)(em:H' m=some (.lst []))(eg:H' g=some (.ins cl.Giver dxg [("kept",.ref D),("board",.ref A.bd),("name",.str "giver"),("other",.str "taker"),("stage_behind_marks",.str "told"),("stage_now",.str "rouse"),("marks_read",.ref m),("here",.non),("touched",.ref A.kt),("number",.int (-1)),("left",.int 0)])):
  LH cl H' (A.newG g D m) n c os bk [] ts ps ⟨"rouse",.non,-1,0⟩ Tq tl lt:=by
 have kn:∀x o,H x=some o->x≠la->H' x=some o:=λx o e z=>kp x o e (by simpa using z)
 have kl:∀x xs,H x=some (.lst xs)->H' x=some (.lst xs):=λx xs e=>kn x _ e (b0z e ela (λz=>↑94));have sN:∀{x y:Addr}{o:HO},H x=some o->H y=none->x≠y:=λe1 e2 z=>by rw[z,e2] at e1;cases e1
 have ho:=h.has;have off:∀{x:Addr}{o:HO},H x=some o->(∀j,j<8->x≠A.o j)->∀j,j<8->x≠(A.newG g D m).o j:=λe z=>Ad.newG_off z (sN e hg) (sN e hD);obtain⟨many,last,hB,hLt⟩:=h.brd;obtain⟨dg,eg0⟩:=h.gv;obtain⟨dt,et0⟩:=h.tk;refine⟨⟨many,last,hB.keep (ps:=[la]) kp (λz=>Ne.symm (hla 0 ↑2) (List.mem_singleton.mp z)) (λz=>Ne.symm (hla 1 ↑2) (List.mem_singleton.mp z)),hLt.1,hLt.2.1,λq0 z=>?_⟩,?_,?_,?_,?_,?_,?_,?_,(h.tr.gen (A':=A.newG g D m) (λo z=>kn _ _ z (Ne.symm (hla 4 ↑2))) λp t e n1 f=>⟨off e n1,f,kn _ _ e (b0z e ela (λz=>↑94))⟩),?_,?_,?_⟩
 ·obtain⟨t,e,nt,et⟩:=hLt.2.2 q0 z
  exact⟨t,e,off et nt,kn _ _ et (b0z et ela (λz=>↑94))⟩
 ·exact⟨dxg,eg⟩
 ·exact⟨dt,kn _ _ et0 (Ne.symm (hla 3 ↑2))⟩
 ·exact em
 ·exact kl _ _ h.mt
 ·obtain⟨qs,e,l,r⟩:=nr
  refine⟨qs,e,l,λi p o hp ho2=>?_⟩;obtain⟨p0,pD,pS,pe⟩:=r i p o hp ho2;have pS2:p≠g/\p≠m:=by simpa using pS
  exact⟨Ad.newG_off (λj hj=>λz=>by obtain⟨u,eu⟩:=ho j hj;rw[<- z,p0] at eu;cases eu) pS2.1 pD,pe⟩
 ·obtain⟨qs,e,l,r⟩:=h.book
  refine⟨qs,kl _ _ e,l,λi p o hp ho2=>?_⟩;obtain⟨p1,p2⟩:=r i p o hp ho2;exact⟨off p2 p1,kl _ _ p2⟩
 ·exact kl _ _ h.pa
 ·intro i j hi hj ij
  by_cases i2:i=2
  ·subst i2
   by_cases j5:j=5
   ·subst j5;exact gD
   rw[Ad.newG_o (Ne.symm ij) j5];obtain⟨u,eu⟩:=ho j hj;exact Ne.symm (sN eu hg)
  by_cases i5:i=5
  ·subst i5
   by_cases j2:j=2
   ·subst j2;exact Ne.symm gD
   rw[Ad.newG_o j2 (Ne.symm ij)];obtain⟨u,eu⟩:=ho j hj;exact Ne.symm (sN eu hD)
  rw[Ad.newG_o i2 i5];by_cases j2:j=2
  ·subst j2
   obtain⟨u,eu⟩:=ho i hi;exact sN eu hg
  by_cases j5:j=5
  ·subst j5
   obtain⟨u,eu⟩:=ho i hi;exact sN eu hD
  rw[Ad.newG_o j2 j5];exact h.nd i j hi hj ij
 ·intro i hi
  exact⟨Ad.newG_off (λj hj=>λz=>by obtain⟨u,eu⟩:=ho j hj;rw[<- z,hm] at eu;cases eu) (Ne.symm gm) (Ne.symm Dm) i hi,off h.mt (λj hj=>(h.om j hj).2) i hi⟩
 ·intro x hx
  obtain⟨⟨o,a⟩,b,c1,d,e,f,g⟩:=h.fo x hx;have xla:x≠la:=λz=>nla (z ▸ hx);obtain⟨o0,z0⟩:=ho 0 ↑2;have y0:H' A.bd=H A.bd:=(kn _ _ z0 (Ne.symm (hla 0 ↑2))).trans z0.symm;obtain⟨qs,eq0,lq,rq⟩:=nr;have new:Unr H' D x:=λxs z q0=>by
   rw[eq0] at z;cases z;obtain⟨p,hp,e2⟩:=List.mem_map.mp q0;obtain⟨i,hi,ei⟩:=List.mem_iff_getElem.mp hp;obtain⟨p0,_⟩:=rq i p (os[i]' ↑2) (by rw[<- ei];exact List.getElem?_eq_getElem hi) (List.getElem?_eq_getElem _)
   rw[V.ref.inj e2,a] at p0;cases p0
  obtain⟨xo,ekk,_⟩:=h.book;have y:H' A.kk=H A.kk:=(kl _ _ ekk).trans ekk.symm;exact⟨⟨o,kn _ _ a xla⟩,Ad.newG_off b (sN a hg) (sN a hD),sN a hm,d,new,(λxs z=>f xs (y ▸ z)),(λC dx fs z=>g C dx fs (y0 ▸ z))⟩
noncomputable def Ad.newT(A:Ad)(g D m q:Addr):Ad:={ o:=λj=>if j=3 then g else if j=6 then D else if j=7 then q else A.o j,mg:=A.mg,mt:=m,fo:=A.fo }
theorem Ad.newT_o{j:Nat}(h3:j≠3)(h6:j≠6)(h7:j≠7):(A.newT g D m q).o j=A.o j:=by unfold Ad.newT;dsimp only;rw[if_neg h3,if_neg h6,if_neg h7]
theorem Ad.newT_off{x:Addr}(h:∀j,j<8->x≠A.o j)(x3:x≠g)(x6:x≠D)(x7:x≠q):∀j,j<8->x≠(A.newT g D m q).o j:=λj hj=>by
 by_cases e3:j=3
 ·rw[e3];exact x3
 by_cases e6:j=6
 ·rw[e6];exact x6
 by_cases e7:j=7
 ·rw[e7];exact x7
 rw[Ad.newT_o e3 e6 e7];exact h j hj
theorem LH.newT(h:↑46)(ela:H la=some (.ins cl.Lane dxl fs))(hla:∀j,j<8->la≠A.o j)(nla:¬ A.fo la)(hg:H g=none)(hD:H D=none)(hm:H m=none)(gD:g≠D)(gm:g≠m)(Dm:D≠m)(hq:H q=none)(qg:q≠g)(qD:q≠D)(qm:q≠m)(eq:H' q=some (.lst []))(kp:Kp [la] H H')(nr:NRw H H' D [g,m,q] bk)(em:H' m=some (.lst []))(eg:H' g=some (.ins cl.Taker dxg [("taken",.ref D),("board",.ref A.bd),("name",.str "taker"),("other",.str "giver"),("stage_behind_marks",.str "look"),("stage_now",.str "rouse"),("marks_read",.ref m),("here",.non),("touched",.ref A.kt),("not_freed",.non),("number",.int 0),("left",.int 0),("parts",.ref q)])):
  LH cl H' (A.newT g D m q) n c os bk gs [] [] Gq ⟨"rouse",.non,.non,0,0⟩ tl lt:=by
 have kn:∀x o,H x=some o->x≠la->H' x=some o:=λx o e z=>kp x o e (by simpa using z)
 have kl:∀x xs,H x=some (.lst xs)->H' x=some (.lst xs):=λx xs e=>kn x _ e (b0z e ela (λz=>↑94));have sN:∀{x y:Addr}{o:HO},H x=some o->H y=none->x≠y:=λe1 e2 z=>by rw[z,e2] at e1;cases e1
 have ho:=h.has;have off:∀{x:Addr}{o:HO},H x=some o->(∀j,j<8->x≠A.o j)->∀j,j<8->x≠(A.newT g D m q).o j:=λe z=>Ad.newT_off z (sN e hg) (sN e hD) (sN e hq);obtain⟨many,last,hB,hLt⟩:=h.brd;obtain⟨dg,eg0⟩:=h.gv;obtain⟨dt,et0⟩:=h.tk;refine⟨⟨many,last,hB.keep (ps:=[la]) kp (λz=>Ne.symm (hla 0 ↑2) (List.mem_singleton.mp z)) (λz=>Ne.symm (hla 1 ↑2) (List.mem_singleton.mp z)),hLt.1,hLt.2.1,λq0 z=>?_⟩,?_,?_,?_,?_,?_,?_,?_,(h.tr.gen (A':=A.newT g D m q) (λo z=>kn _ _ z (Ne.symm (hla 4 ↑2))) λp t e n1 f=>⟨off e n1,f,kn _ _ e (b0z e ela (λz=>↑94))⟩),?_,?_,?_⟩
 ·obtain⟨t,e,nt,et⟩:=hLt.2.2 q0 z
  exact⟨t,e,off et nt,kn _ _ et (b0z et ela (λz=>↑94))⟩
 ·exact⟨dg,kn _ _ eg0 (Ne.symm (hla 2 ↑2))⟩
 ·exact⟨dxg,eg⟩
 ·exact kl _ _ h.mg
 ·exact em
 ·obtain⟨qs,e,l,r⟩:=h.kept
  refine⟨qs,kl _ _ e,l,λi p o hp ho2=>?_⟩;obtain⟨p1,p2⟩:=r i p o hp ho2;exact⟨off p2 p1,kl _ _ p2⟩
 ·obtain⟨qs,e,l,r⟩:=nr
  refine⟨qs,e,l,λi p o hp ho2=>?_⟩;obtain⟨p0,pD,pS,pe⟩:=r i p o hp ho2;have pS2:p≠g/\p≠m/\p≠q:=by simpa using pS
  exact⟨Ad.newT_off (λj hj=>λz=>by obtain⟨u,eu⟩:=ho j hj;rw[<- z,p0] at eu;cases eu) pS2.1 pD pS2.2.2,pe⟩
 ·exact eq
 ·intro i j hi hj ij
  by_cases i3:i=3
  ·subst i3
   by_cases j6:j=6
   ·subst j6;exact gD
   by_cases j7:j=7
   ·subst j7;exact Ne.symm qg
   rw[Ad.newT_o (Ne.symm ij) j6 j7];obtain⟨u,eu⟩:=ho j hj;exact Ne.symm (sN eu hg)
  by_cases i6:i=6
  ·subst i6
   by_cases j3:j=3
   ·subst j3;exact Ne.symm gD
   by_cases j7:j=7
   ·subst j7;exact Ne.symm qD
   rw[Ad.newT_o j3 (Ne.symm ij) j7];obtain⟨u,eu⟩:=ho j hj;exact Ne.symm (sN eu hD)
  by_cases i7:i=7
  ·subst i7
   by_cases j3:j=3
   ·subst j3;exact qg
   by_cases j6:j=6
   ·subst j6;exact qD
   rw[Ad.newT_o j3 j6 (Ne.symm ij)];obtain⟨u,eu⟩:=ho j hj;exact Ne.symm (sN eu hq)
  rw[Ad.newT_o i3 i6 i7];by_cases j3:j=3
  ·subst j3
   obtain⟨u,eu⟩:=ho i hi;exact sN eu hg
  by_cases j6:j=6
  ·subst j6
   obtain⟨u,eu⟩:=ho i hi;exact sN eu hD
  by_cases j7:j=7
  ·subst j7
   obtain⟨u,eu⟩:=ho i hi;exact sN eu hq
  rw[Ad.newT_o j3 j6 j7];exact h.nd i j hi hj ij
 ·intro i hi
  exact⟨off h.mg (λj hj=>(h.om j hj).1) i hi,Ad.newT_off (λj hj=>λz=>by obtain⟨u,eu⟩:=ho j hj;rw[<- z,hm] at eu;cases eu) (Ne.symm gm) (Ne.symm Dm) (Ne.symm qm) i hi⟩
 ·intro x hx
  obtain⟨⟨o,a⟩,b,c1,d,e,f,g⟩:=h.fo x hx;have xla:x≠la:=λz=>nla (z ▸ hx);obtain⟨o0,z0⟩:=ho 0 ↑2;have y0:H' A.bd=H A.bd:=(kn _ _ z0 (Ne.symm (hla 0 ↑2))).trans z0.symm;obtain⟨qs,eq0,lq,rq⟩:=nr;have new:Unr H' D x:=λxs z q0=>by
   rw[eq0] at z;cases z;obtain⟨p,hp,e2⟩:=List.mem_map.mp q0;obtain⟨i,hi,ei⟩:=List.mem_iff_getElem.mp hp;obtain⟨p0,_⟩:=rq i p (bk[i]' ↑2) (by rw[<- ei];exact List.getElem?_eq_getElem hi) (List.getElem?_eq_getElem _)
   rw[V.ref.inj e2,a] at p0;cases p0
  obtain⟨xo,ekk,_⟩:=h.kept;have y:H' A.kg=H A.kg:=(kl _ _ ekk).trans ekk.symm;exact⟨⟨o,kn _ _ a xla⟩,Ad.newT_off b (sN a hg) (sN a hD) (sN a hq),c1,sN a hm,(λxs z=>e xs (y ▸ z)),new,(λC dx fs z=>g C dx fs (y0 ▸ z))⟩
end
structure LN(cl:Cl)(H:Hp)(la:Addr)(A:Ad)(L:Ln)(tl:List Tr):Prop where
 lr:LR cl H A L tl
 ob:∃dx,H la=some (e4c cl dx A)
 off:∀j,j<8->la≠A.o j
 nfo:¬ A.fo la
def KpL(la:Addr)(A:Ad)(H H':Hp):Prop:=∀x o,H x=some o->x≠la->(∀j,j<8->x≠A.o j)->H' x=some o
def NxA(A A':Ad)(H:Hp):Prop:=(∀j,j<8->A'.o j=A.o j\/H (A'.o j)=none)/\A'.fo=A.fo
theorem Nx.all{A A':Ad}{H:Hp}(h:Nx A A' H):NxA A A' H:=⟨λj hj=>by
 by_cases e:j=7
 ·subst e;exact h.2.1
 ·exact .inl (h.1 j ↑2),h.2.2⟩
theorem NxA.off{A A':Ad}{H:Hp}{x:Addr}{o:HO}(h:NxA A A' H)(e:H x=some o)(n:∀j,j<8->x≠A.o j):∀j,j<8->x≠A'.o j:=λj hj=>by
 rcases h.1 j hj with z|z
 ·rw[z];exact n j hj
 ·exact λy=>by rw[y,z] at e;cases e
theorem LN.same{H H':Hp}{la:Addr}{A:Ad}{L:Ln}{tl:List Tr}(h:LN cl H la A L tl)(s:Same H H'):LN cl H' la A L tl:=by
 obtain⟨⟨ps,Gq,Tq,lt,a,b⟩,⟨dx,e⟩,o,f⟩:=h;exact⟨⟨ps,Gq,Tq,lt,a.same s,b⟩,⟨dx,s _ _ e⟩,o,f⟩
theorem c9r{n:Nat}(h2:2<=n)(h8:n<=8):a9l n=b8i n (a5q n):=by
 have:n=2\/n=3\/n=4\/n=5\/n=6\/n=7\/n=8:=by lia
 rcases this with rfl|rfl|rfl|rfl|rfl|rfl|rfl <;> decide
def HN(b:Bool)(h:Str):Prop:=(b=true/\h="giver")\/(b=false/\h="taker")
def a5h(cl:Cl):Sp:=λvs H Q _=>ExN λla A L tl=>E2 λ(b:Bool)(h:Str)=>vs=[.ref la,.str h]/\HN b h/\LN cl H la A L tl/\∀x,HOf A b x->Q (.ref x) H
noncomputable abbrev a3f:Stmt:=o9 (top 100) 3
theorem b3k:i8 ["self","hand"] ["self","hand"] (g9 a3f):=↑1
theorem b3u(D:DefM K cl.Lane "hand_named" "Lane.hand_named" a3f ["self","hand"])(T:↑14)(G_check_hand:↑901 "check_hand" 1 ["hand"] (a4g cl)):↑904 cl.Lane "hand_named" 2 ["self","hand"] (a5h cl):=by
 refine D.fn b3k ↑8 ↑3
 ·obtain⟨la,A,L,tl,b,h,rfl,hh,hN,k⟩:=h
  refine⟨_,(d6 (j9 (m3 G_check_hand hr ↑4 rfl j4 ↑64))
   (d7 (m8 (a0w (l7 a0m (pu 1) m4 ↑43) ↑5 ↑5)))),?_⟩
  obtain⟨dx,ex⟩:=hN.ob;rcases hh with ⟨rfl,rfl⟩|⟨rfl,rfl⟩
  ·fail ""
   refine ↑112;rw[if_pos ↑22];fail "";rw[if_pos ↑4];fail "";exact k _ (.inl ⟨rfl,rfl⟩)
  ·fail ""
   refine ↑112;rw[if_pos (.inr rfl)];fail "";rw[if_neg ↑4];fail "";exact k _ (.inr ⟨rfl,rfl⟩)
def a8e(cl:Cl):Sp:=λvs H Q _=>ExN λla A L tl=>E2 λ(a:Addr)(o:List Int)=>vs=[.ref la,.ref a]/\LN cl H la A L tl/\H a=some ↑53/\1<=o.length/\o.length<=L.n/\L.os.length<=400/\∀H',LN cl H' la A (a7t L o) tl->KpL la A H H'->Q (.int L.os.length) H'
noncomputable abbrev a6a:Stmt:=o9 (top 100) 4
theorem b7u:i8 ["self","order"] ["self","order"] (g9 a6a):=↑1
theorem b8p(D:DefM K cl.Lane "hand_in" "Lane.hand_in" a6a ["self","order"])(T:↑14)(GA:↑902 "add" 2 ["self","order"] (b6e cl)):↑904 cl.Lane "hand_in" 3 ["self","order"] (a8e cl):=by
 refine D.fn b7u ↑8 ↑3
 ·obtain⟨la,A,L,tl,a,o,rfl,hN,ea,o1,o2,os4,k⟩:=h
  refine⟨_,(d7 (m8 (d3i (k:=2) ↑5 hr ↑4 j4 ↑64))),?_⟩;fail "al";fail "q";fail "e";refine⟨A.gv,cl.Giver,dxg,_,_,_,rfl,eg,rfl,T.k_Giver,GA,?_⟩;fail "";refine⟨A,L,tl,a,o,rfl,hN.lr,ea,o1,o2,os4,λH' z1 z2=>?_⟩;exact k H' ⟨z1,⟨dx,z2 _ _ ex hN.off⟩,hN.off,hN.nfo⟩ (λx o e _ n=>z2 x o e n)
def b6a(cl:Cl):Sp:=λvs H Q _=>ExN λla A L tl=>E2 λ(b:Bool)(h:Str)=>vs=[.ref la,.str h]/\HN b h/\LN cl H la A L tl/\L.os.length<=400/\tl.length<=4000000/\∀H' A',LN cl H' la A' (b7g b L) (trB b L tl)->KpL la A H H'->NxA A A' H->Q (.bl (!a6n b L)) H'
def c1f(cl:Cl)(b:Bool):Sp:=λvs H Q E=>E3 λ(A:Ad)(L:Ln)(tl:List Tr)=>vs=[.ref (if b then A.gv else A.tk)]/\LR cl H A L tl/\L.os.length<=400/\tl.length<=4000000/\∀H' A',LR cl H' A' (b7g b L) (trB b L tl)->KpA A H H'->Nx A A' H->Q (.bl (!a6n b L)) H'
noncomputable abbrev b1z:Stmt:=o9 (top 100) 5
theorem c4q:i8 ["self","hand"] ["self","hand"] (g9 b1z):=↑1
theorem c6a(D:DefM K cl.Lane "step" "Lane.step" b1z ["self","hand"])(T:↑14)(G_Lane_hand_named:↑904 cl.Lane "hand_named" 2 ["self","hand"] (a5h cl))(GS:↑902 "step" 8 ["self"] (c1f cl true))(TS:↑903 "step" 8 ["self"] (c1f cl false)):↑904 cl.Lane "step" 9 ["self","hand"] (b6a cl):=by
 refine D.fn c4q ↑8 ↑3
 ·obtain⟨la,A,L,tl,b,h,rfl,hh,hN,os4,tl5,k⟩:=h
  refine⟨_,(d7 (m8 (a1n (k:=8) (a2s (pu 0) T.k_Lane G_Lane_hand_named hr ↑4 j4 ↑64) hr ↑4 j4))),?_⟩;fail "al";fail "m";fail "e";refine⟨la,A,L,tl,b,h,rfl,hh,hN,λx hx=>?_⟩;have fin:∀H' A',LR cl H' A' (b7g b L) (trB b L tl)->KpA A H H'->Nx A A' H->Q (.bl (!a6n b L)) H':=λH' A' z1 z2 z3=>by
   refine k H' A' ⟨z1,⟨dx,?_⟩,z3.all.off ex hN.off,(by rw[z3.2.2];exact hN.nfo)⟩ (λx o e _ n=>z2 x o e n) z3.all
   have:=z2 _ _ ex hN.off;rw[this];unfold e4c Ad.bd Ad.kt Ad.gv Ad.tk;rw[z3.1 0 ↑2,z3.1 4 ↑2,z3.1 2 ↑2,z3.1 3 ↑2]
  rcases hx with ⟨rfl,rfl⟩|⟨rfl,rfl⟩
  ·refine⟨A.gv,cl.Giver,dxg,_,_,_,rfl,eg,rfl,T.k_Giver,GS,?_⟩
   fail "";exact⟨A,L,tl,rfl,hN.lr,os4,tl5,fin⟩
  ·refine⟨A.tk,cl.Taker,dxt,_,_,_,rfl,et,rfl,T.k_Taker,TS,?_⟩
   fail "";exact⟨A,L,tl,rfl,hN.lr,os4,tl5,fin⟩
theorem NewRows.rws{H H':Hp}{p:Addr}{os:List ↑28}(h:NewRows H H' p os):Rws H' p os:=by
 obtain⟨_,_,ps,e,l,r⟩:=h;exact⟨ps,e,l,λi q o a b=>(r i q o a b).2.2⟩
def b6d(cl:Cl):Sp:=λvs H Q _=>ExN λla A L tl=>vs=[.ref la]/\LN cl H la A L tl/\L.os.length<=1000/\∀p H',NewRows H H' p L.bk->Q (.ref p) H'
noncomputable abbrev b2c:Stmt:=o9 (top 100) 10
theorem c4t:i8 ["self"] ["self"] (g9 b2c):=↑1
theorem c6d(D:DefM K cl.Lane "book" "Lane.book" b2c ["self"])(T:↑14)(GM:↑903 "book" 2 ["self"] (a7c cl)):↑904 cl.Lane "book" 3 ["self"] (b6d cl):=by
 refine D.fn c4t ↑8 ↑3
 ·obtain⟨la,A,L,tl,rfl,hN,os4,k⟩:=h
  refine⟨_,(d7 (m8 (a1n (k:=2) ↑5 hr ↑4 j4))),?_⟩;fail "al";obtain⟨dxg,eg⟩:=hL.tk;fail "e";refine⟨A.tk,cl.Taker,dxg,_,_,_,rfl,eg,rfl,T.k_Taker,GM,?_⟩;fail "";exact⟨A,L,tl,rfl,hN.lr,os4,k⟩
def b0o(cl:Cl):Sp:=λvs H Q _=>ExN λla A L tl=>vs=[.ref la]/\LN cl H la A L tl/\L.os.length<=1000/\∀p H',NewRows H H' p L.os->Q (.ref p) H'
noncomputable abbrev a7n:Stmt:=o9 (top 100) 11
theorem b9l:i8 ["self"] ["self"] (g9 a7n):=↑1
theorem b9y(D:DefM K cl.Lane "orders" "Lane.orders" a7n ["self"])(T:↑14)(GM:↑902 "orders" 2 ["self"] (a4n cl)):↑904 cl.Lane "orders" 3 ["self"] (b0o cl):=by
 refine D.fn b9l ↑8 ↑3
 ·obtain⟨la,A,L,tl,rfl,hN,os4,k⟩:=h
  refine⟨_,(d7 (m8 (a1n (k:=2) ↑5 hr ↑4 j4))),?_⟩;fail "al";fail "q";fail "e";refine⟨A.gv,cl.Giver,dxg,_,_,_,rfl,eg,rfl,T.k_Giver,GM,?_⟩;fail "";exact⟨A,L,tl,rfl,hN.lr,os4,k⟩
theorem LR.gfall{H':Hp}{A':Ad}{L:Ln}{tl:List Tr}{ps:List Int}{Tq:Tm}(h:LH cl H' A' L.n L.c L.os L.bk [] L.tseen ps ⟨"rouse",.non,-1,0⟩ Tq tl (c6j tl))(ht:↑117)(ok:Ok L):LR cl H' A' (gfall L) tl :=
 ⟨ps,_,Tq,(),h,⟨rfl,↑40,↑40,↑40,λ_=>rfl,λ_=>⟨rfl,rfl⟩⟩,⟨ht.st,ht.he,ht.nf,ht.nu,ht.le,ht.pa,ht.no⟩,d7q ok⟩
theorem LR.tfall{H':Hp}{A':Ad}{L:Ln}{tl:List Tr}{Gq:Gm}(h:LH cl H' A' L.n L.c L.os L.bk L.gseen [] [] Gq ⟨"rouse",.non,.non,0,0⟩ tl (c6j tl))(hg:GRel L Gq)(ok:Ok L):LR cl H' A' (tfall L) tl :=
 ⟨[],Gq,_,(),h,⟨hg.st,hg.he,hg.nu,hg.le,hg.no,hg.n0⟩,⟨rfl,↑40,↑40,(λz=>by rcases z with z|z <;> exact(nomatch (show Stg.rouse=_ from z))),(λz=>(nomatch (show Stg.rouse=Stg.thing from z))),(if_pos ↑22).symm,λ_=>⟨rfl,rfl⟩⟩,d6c ok⟩
def d8a(b:Bool)(L:Ln):Ln:=if b then gfall L else tfall L
def b6c(cl:Cl):Sp:=λvs H Q _=>ExN λla A L tl=>E2 λ(b:Bool)(h:Str)=>vs=[.ref la,.str h]/\HN b h/\LN cl H la A L tl/\L.os.length<=1000/\∀H' A',LN cl H' la A' (d8a b L) tl->KpL la A H H'->NxA A A' H->Q .non H'
noncomputable abbrev b2b:Stmt:=o9 (top 100) 6
theorem c4s:i8 ["self","hand"] ["self","hand"] (g9 b2b):=↑1
theorem c6c(D:DefM K cl.Lane "fall" "Lane.fall" b2b ["self","hand"])(T:↑14)(G_check_hand:↑901 "check_hand" 1 ["hand"] (a4g cl))(G_Lane_place_giver:↑904 cl.Lane "place_giver" 5 ["self","orders"] (a1t cl))(G_Lane_place_taker:↑904 cl.Lane "place_taker" 5 ["self","book"] (a1s cl))(GO:↑902 "orders" 2 ["self"] (a4n cl))(TB:↑903 "book" 2 ["self"] (a7c cl)):↑904 cl.Lane "fall" 6 ["self","hand"] (b6c cl):=by
 refine D.fn c4s ↑8 ↑3
 ·obtain⟨la,A,L,tl,b,h,rfl,hh,hN,os4,k⟩:=h
  refine⟨_,(d6 (j9 (m3 G_check_hand hr ↑4 rfl j4 ↑64))
   (d7 (x0 (l7 a0m (pu 1) m4 ↑43)
    (d7 (j9 (a2s (pu 0) T.k_Lane G_Lane_place_giver hr ↑4 j4 (d5 (a1n (k:=2) ↑5 hr ↑4 j4) i9))))
    (d7 (j9 (a2s (pu 0) T.k_Lane G_Lane_place_taker hr ↑4 j4 (d5 (a1n (k:=2) ↑5 hr ↑4 j4) i9))))))),?_⟩
  obtain⟨dx,ex⟩:=hN.ob;obtain⟨ps,Gq,Tq,lt,hL,hg,ht,ok⟩:=id hN.lr;fail "m";rcases hh with ⟨rfl,rfl⟩|⟨rfl,rfl⟩
  ·fail ""
   refine ↑112;rw[if_pos ↑22];fail "";rw[if_pos ↑4];fail "e";refine⟨A.gv,cl.Giver,dxg,_,_,_,rfl,eg,rfl,T.k_Giver,GO,?_⟩;fail "";refine⟨A,L,tl,rfl,hN.lr,os4,λa H1 nr0=>?_⟩;have s1:=nr0.2.1;have z1:=hL.same s1;have e1:=s1 _ _ ex;obtain⟨many,last,hB,_⟩:=z1.brd;fail "";refine⟨la,dx,A.bd,A.kt,a,A.l,L.n,_,many,last,L.os,_,_,rfl,.inr ⟨.ref A.gv,.ref A.tk,rfl,λ_=>rfl⟩,e1,hB,nr0.rws,ok.core.good,os4,λg dxg D m H2 hg0 hD hm gD gm Dm kp nr em eg2 el=>?_⟩;refine k H2 (A.newG g D m) ⟨LR.gfall (z1.newG e1 hN.off hN.nfo hg0 hD hm gD gm Dm kp nr em eg2) ht ok,⟨dx,el⟩,Ad.newG_off hN.off (λz=>by rw[<- z,e1] at hg0;cases hg0) (λz=>by rw[<- z,e1] at hD;cases hD),hN.nfo⟩ (λx o e n _=>kp _ _ (s1 _ _ e) (by simpa using n)) ⟨λj hj=>?_,rfl⟩
   by_cases e2:j=2
   ·subst e2;exact .inr (n6 s1 hg0)
   by_cases e5:j=5
   ·subst e5;exact .inr (n6 s1 hD)
   exact .inl (Ad.newG_o e2 e5)
  ·fail ""
   refine ↑112;rw[if_pos (.inr rfl)];fail "";rw[if_neg ↑4];fail "e";refine⟨A.tk,cl.Taker,dxt,_,_,_,rfl,et,rfl,T.k_Taker,TB,?_⟩;fail "";refine⟨A,L,tl,rfl,hN.lr,os4,λa H1 nr0=>?_⟩;have s1:=nr0.2.1;have z1:=hL.same s1;have e1:=s1 _ _ ex;obtain⟨many,last,hB,_⟩:=z1.brd;fail "";refine⟨la,dx,A.bd,A.kt,a,A.l,L.n,_,many,last,L.bk,_,_,rfl,.inr ⟨.ref A.gv,.ref A.tk,rfl,λ_=>rfl⟩,e1,hB,nr0.rws,(λo ho=>ok.core.good o (by have e:=ok.tk.bk;rw[e] at ho;exact List.mem_of_mem_take ho)),(have:=ok.tk.bl;by lia),λg dxg D m q H2 hg0 hD hm gD gm Dm hq qg qD qm eq kp nr em eg2 el=>?_⟩
   refine k H2 (A.newT g D m q) ⟨LR.tfall (z1.newT e1 hN.off hN.nfo hg0 hD hm gD gm Dm hq qg qD qm eq kp nr em eg2) hg ok,⟨dx,el⟩,Ad.newT_off hN.off (λz=>by rw[<- z,e1] at hg0;cases hg0) (λz=>by rw[<- z,e1] at hD;cases hD) (λz=>by rw[<- z,e1] at hq;cases hq),hN.nfo⟩ (λx o e n _=>kp _ _ (s1 _ _ e) (by simpa using n)) ⟨λj hj=>?_,rfl⟩
   by_cases e3:j=3
   ·subst e3;exact .inr (n6 s1 hg0)
   by_cases e6:j=6
   ·subst e6;exact .inr (n6 s1 hD)
   by_cases e7:j=7
   ·subst e7;exact .inr (n6 s1 hq)
   exact .inl (Ad.newT_o e3 e6 e7)
theorem d2r{H:Hp}{a:Addr}(h:H a=some (.lst [])):Rws H a []:=⟨[],h,rfl,λi p o hp=>by simp at hp⟩
theorem c8s{H H':Hp}{D:Addr}{S:List Addr}(h:NRw H H' D S []):H' D=some (.lst []):=by
 obtain⟨ps,e,l,_⟩:=h;have:ps=[]:=List.length_eq_zero_iff.mp l;subst this;exact e
def b6b(cl:Cl):Sp:=λvs H Q _=>E3 λ(la dx:Addr)(n:Nat)=>vs=[.ref la,.int n]/\H la=some (.ins cl.Lane dx [])/\2<=n/\n<=8/\∃F:Addr->Prop,(∀x,F x->x≠la/\∃o,H x=some o)/\∀A H',A.fo=F->LN cl H' la A (a0s n) []->Kp [la] H H'->(∀j,j<8->H (A.o j)=none)->(∀x,Unl H' A.bd x)->Q .non H'
noncomputable abbrev b2a:Stmt:=o9 (top 100) 0
theorem c4r:i8 ["self","size"] ["self","size"] (g9 b2a):=↑1
theorem c6b(D:DefM K cl.Lane "__init__" "Lane.__init__" b2a ["self","size"])(T:↑14)(G_Board:MakeT P w K mg base "Board" cl.Board 2 ["self","size"] (b3e cl))(G_Lane_place_giver:↑904 cl.Lane "place_giver" 5 ["self","orders"] (a1t cl))(G_Lane_place_taker:↑904 cl.Lane "place_taker" 5 ["self","book"] (a1s cl)):↑904 cl.Lane "__init__" 6 ["self","size"] (b6b cl):=by
 refine D.fn c4r ↑8 ↑3
 ·obtain⟨la,dx,n,rfl,ela,n2,n8,F,hF,k⟩:=h
  refine⟨_,(d6 (o8 (K:=K) (pu 0) (d6v G_Board hr ↑4 rfl j4 ↑64))
   (d6 ↑93
   (d6 (j9 (a2s (pu 0) T.k_Lane G_Lane_place_giver hr ↑4 j4 (d5 (v5 i9) i9)))
   (d7 (j9 (a2s (pu 0) T.k_Lane G_Lane_place_taker hr ↑4 j4 (d5 (v5 i9) i9))))))),?_⟩
  fail "";intro bd dxb hbd hdxb ne;have sm:=b5n (u:=.own bd) (o:=.ins cl.Board dxb []) hbd hdxb ne;refine⟨bd,dxb,n,rfl,d9,?_⟩;rw[if_pos ↑109];intro l H1 hl kp1 hB1;refine⟨rfl,?_⟩;rw[show((n:Nat):Int).toNat=n from rfl] at hB1;have hl0:=n6 sm hl;have nlb:la≠bd:=λz=>by rw[<- z,ela] at hbd;cases hbd
  have nll:la≠l:=λz=>by rw[<- z,ela] at hl0;cases hl0
  have ela1:=kp1 _ _ (sm _ _ ela) (by simpa using nlb)
  have n01:bd≠l:=by
   obtain⟨⟨_,e1⟩,e2,_⟩:=hB1;exact b0z e1 e2 (λz=>↑94)
  have kH1:∀x o,H x=some o->x≠la->H1 x=some o:=λx o e _=>kp1 _ _ (sm _ _ e) (by simpa using λz=>by rw[z,hbd] at e;cases e)
  fail "";refine⟨Nat.zero_le _,λkt hkt=>?_⟩;have nkl:kt≠la:=λz=>by rw[z,d9] at hkt;cases hkt
  rw[d8 nkl] at hkt;have n04:bd≠kt:=λz=>by obtain⟨⟨_,e1⟩,_⟩:=hB1;rw[z,hkt] at e1;cases e1
  have n14:l≠kt:=λz=>by obtain⟨_,e1,_⟩:=hB1;rw[z,hkt] at e1;cases e1
  have hkt0:H kt=none:=by
   cases e:H kt with
   | none=>rfl
   | some o=>rw[kH1 _ _ e nkl] at hkt;cases hkt
  fail "";refine⟨Nat.zero_le _,λa1 ha1=>?_⟩;have na1:a1≠la:=λz=>by rw[z,d9] at ha1;cases ha1
  have nak:a1≠kt:=λz=>by rw[z,d8 nkl,d9] at ha1;cases ha1
  simp only[d8 na1,d8 nak] at ha1;fail "";generalize e3:upd (upd (upd (upd H1 la _) kt _) la _) a1 _=H3;have l3:H3 la=some (.ins cl.Lane dx [("board",.ref bd),("kept_trail",.ref kt)]):=by rw[<- e3,d8 (Ne.symm na1),d9];rfl
  have k3:∀x o,H1 x=some o->x≠la->H3 x=some o:=λx o e nx=>by
   rw[<- e3,d8 (λz=>by rw[z,ha1] at e;cases e),d8 nx,d8 (λz=>by rw[z,hkt] at e;cases e),d8 nx]
   exact e
  have t3:H3 kt=some (.lst []):=by rw[<- e3,d8 (Ne.symm nak),d8 nkl,d9]
  have a3:H3 a1=some (.lst []):=by rw[<- e3,d9]
  have hB3:Brd cl H3 bd l n (a9l n) 0 .non:=hB1.keep (ps:=[la]) (λc o e nn=>k3 c o e (by simpa using nn)) (by simpa using Ne.symm nlb) (by simpa using Ne.symm nll)
  have kH3:∀x o,H x=some o->x≠la->H3 x=some o:=λx o e nx=>k3 x o (kH1 x o e nx) nx;clear e3;refine⟨la,dx,bd,kt,a1,l,n,a9l n,0,.non,[],_,_,rfl,.inl ⟨rfl,λ_=>rfl⟩,l3,hB3,d2r a3,(λo ho=>by cases ho),by decide,λg dxg D m H4 hg hD hm gD gm Dm kp4 nr4 em4 eg4 l4=>?_⟩
  fail "";refine⟨Nat.zero_le _,λa2 ha2=>?_⟩;fail "";generalize e5:upd H4 a2 _=H5;have s5:Same H4 H5:=by rw[<- e5];exact j1 ha2
  have a5:H5 a2=some (.lst []):=by rw[<- e5,d9]
  clear e5;have k35:Kp [la] H3 H5:=λx o e nx=>s5 _ _ (kp4 x o e nx);have hB5:=hB3.keep k35 (by simpa using Ne.symm nlb) (by simpa using Ne.symm nll)
  refine⟨la,dx,bd,kt,a2,l,n,a9l n,0,.non,[],_,_,rfl,.inl ⟨.ref g,rfl,λ_=>rfl⟩,s5 _ _ l4,hB5,d2r a5,(λo ho=>by cases ho),by decide,λt dxt D2 m2 q H6 ht hD2 hm2 tD2 tm2 Dm2 hq qt qD2 qm2 eq6 kp6 nr6 em6 et6 l6=>?_⟩
  obtain⟨⟨dxb3,eb3⟩,el3,_⟩:=id hB3;have g5:=s5 _ _ eg4;have D5:=s5 _ _ (c8s nr4);have m5:=s5 _ _ em4;have t5:=k35 _ _ t3 (by simpa using nkl)
  have eb5:=k35 _ _ eb3 (by simpa using Ne.symm nlb)
  have el5:=k35 _ _ el3 (by simpa using Ne.symm nll)
  have sN:∀{H:Hp}{x y:Addr}{o:HO},H x=some o->H y=none->x≠y:=λe1 e2 z=>by rw[z,e2] at e1;cases e1
  have lg:=sN l3 hg;have lD:=sN l3 hD;have lm:=sN l3 hm;have l5:=s5 _ _ l4;have lt:=sN l5 ht;have lD2:=sN l5 hD2;have lm2:=sN l5 hm2;have lq:=sN l5 hq;have hB6:=hB5.keep kp6 (by simpa using Ne.symm nlb) (by simpa using Ne.symm nll)
  rw[c9r n2 n8] at hB6;have k6:∀x o,H5 x=some o->la≠x->H6 x=some o:=λx o e nx=>kp6 x o e (by simpa using Ne.symm nx)
  have d01:bd≠l:=n01;have d02:bd≠g:=sN eb3 hg;have d03:bd≠t:=sN eb5 ht;have d04:bd≠kt:=n04;have d05:bd≠D:=sN eb3 hD;have d06:bd≠D2:=sN eb5 hD2;have d07:bd≠q:=sN eb5 hq;have d12:l≠g:=sN el3 hg;have d13:l≠t:=sN el5 ht;have d14:l≠kt:=n14;have d15:l≠D:=sN el3 hD;have d16:l≠D2:=sN el5 hD2;have d17:l≠q:=sN el5 hq;have d23:g≠t:=sN g5 ht;have d24:g≠kt:=Ne.symm (sN t3 hg);have d25:g≠D:=gD;have d26:g≠D2:=sN g5 hD2;have d27:g≠q:=sN g5 hq;have d34:t≠kt:=Ne.symm (sN t5 ht);have d35:t≠D:=Ne.symm (sN D5 ht);have d36:t≠D2:=tD2;have d37:t≠q:=Ne.symm qt;have d45:kt≠D:=sN t3 hD;have d46:kt≠D2:=sN t5 hD2;have d47:kt≠q:=sN t5 hq;have d56:D≠D2:=sN D5 hD2;have d57:D≠q:=sN D5 hq;have d67:D2≠q:=Ne.symm qD2;have e0:m≠bd:=Ne.symm (sN eb3 hm);have f0:m2≠bd:=Ne.symm (sN eb5 hm2);have o0:la≠bd:=nlb;have e1:m≠l:=Ne.symm (sN el3 hm);have f1:m2≠l:=Ne.symm (sN el5 hm2);have o1:la≠l:=nll;have e2:m≠g:=Ne.symm gm;have f2:m2≠g:=Ne.symm (sN g5 hm2);have o2:la≠g:=lg;have e3:m≠t:=sN m5 ht;have f3:m2≠t:=Ne.symm tm2;have o3:la≠t:=lt;have e4:m≠kt:=Ne.symm (sN t3 hm);have f4:m2≠kt:=Ne.symm (sN t5 hm2);have o4:la≠kt:=Ne.symm nkl;have e5:m≠D:=Ne.symm Dm;have f5:m2≠D:=Ne.symm (sN D5 hm2);have o5:la≠D:=lD;have e6:m≠D2:=sN m5 hD2;have f6:m2≠D2:=Ne.symm Dm2;have o6:la≠D2:=lD2;have e7:m≠q:=sN m5 hq;have f7:m2≠q:=Ne.symm qm2;have o7:la≠q:=lq;have back3:∀x,la≠x->H3 x=none->H x=none:=λx nx e=>by
   cases z:H x with
   | none=>rfl
   | some o=>rw[kH3 _ _ z (Ne.symm nx)] at e;cases e
  have back5:∀x,la≠x->H5 x=none->H x=none:=λx nx e=>back3 x nx (by
   cases z:H3 x with
   | none=>rfl
   | some o=>rw[k35 _ _ z (by simpa using Ne.symm nx)] at e;cases e)
  have h0:H bd=none:=hbd;have h1:H l=none:=hl0;have h2:H g=none:=back3 _ lg hg;have h3:H t=none:=back5 _ lt ht;have h4:H kt=none:=hkt0;have h5:H D=none:=back3 _ lD hD;have h6:H D2=none:=back5 _ lD2 hD2;have h7:H q=none:=back5 _ lq hq;have j8:∀j,j<8->j=0\/j=1\/j=2\/j=3\/j=4\/j=5\/j=6\/j=7:=λj hj=>by lia
  refine k ⟨λj=>[bd,l,g,t,kt,D,D2,q].getD j bd,m,m2,F⟩ H6 rfl ⟨⟨[],⟨"rouse",.non,-1,0⟩,⟨"rouse",.non,.non,0,0⟩,(),⟨⟨0,.non,hB6,rfl,(λ_=>rfl),(λq z=>↑94)⟩,⟨dxg,k6 _ _ g5 lg⟩,⟨dxt,et6⟩,k6 _ _ m5 lm,em6,⟨[],k6 _ _ D5 lD,rfl,λi p o hp=>by simp at hp⟩,⟨[],c8s nr6,rfl,λi p o hp=>by simp at hp⟩,eq6,⟨[],k6 _ _ t5 (Ne.symm nkl),rfl,λi p o hp=>by simp at hp⟩,?_,?_,?_⟩,⟨rfl,↑40,↑40,↑40,λ_=>rfl,λ_=>⟨rfl,rfl⟩⟩,⟨rfl,↑40,↑40,(λz=>by rcases z with z|z <;> exact(nomatch (show Stg.rouse=_ from z))),(λz=>(nomatch (show Stg.rouse=Stg.thing from z))),(if_pos ↑22).symm,λ_=>⟨rfl,rfl⟩⟩,d1s n2 n8⟩,⟨dx,l6⟩,?_,(λz=>(hF la z).1 rfl)⟩ ?_ ?_ ?_
  ·intro i j hi hj ij
   rcases j8 i hi with rfl|rfl|rfl|rfl|rfl|rfl|rfl|rfl <;> rcases j8 j hj with rfl|rfl|rfl|rfl|rfl|rfl|rfl|rfl <;> first|exact absurd rfl ij|assumption|(apply Ne.symm;assumption)
  ·intro i hi
   rcases j8 i hi with rfl|rfl|rfl|rfl|rfl|rfl|rfl|rfl <;> exact⟨by assumption,by assumption⟩
  ·intro x hx
   obtain⟨xl,o,ex⟩:=hF x hx;have x6:∀y,H y=none->x≠y:=λy hy z=>by rw[z,hy] at ex;cases ex
   have ex6:H6 x=some o:=k6 _ _ (k35 _ _ (kH3 _ _ ex xl) (by simpa using xl)) (Ne.symm xl)
   refine⟨⟨o,ex6⟩,?_,x6 _ (back3 _ lm hm),x6 _ (back5 _ lm2 hm2),?_,?_,?_⟩
   ·intro i hi
    rcases j8 i hi with rfl|rfl|rfl|rfl|rfl|rfl|rfl|rfl <;> (apply x6;assumption)
   ·intro xs z
    have:=k6 _ _ D5 lD;rw[show H6 D=some (.lst xs) from z] at this;cases this;exact λq=>by cases q
   ·intro xs z
    have:=c8s nr6;rw[show H6 D2=some (.lst xs) from z] at this;cases this;exact λq=>by cases q
   ·intro C dx2 fs z
    obtain⟨⟨dxb6,eb6⟩,_⟩:=hB6;rw[show H6 bd=some (.ins C dx2 fs) from z] at eb6;cases eb6;exact λq=>by cases q
  ·intro i hi
   rcases j8 i hi with rfl|rfl|rfl|rfl|rfl|rfl|rfl|rfl <;> assumption
  ·intro c o e nc
   exact k6 _ _ (k35 _ _ (kH3 _ _ e (by simpa using nc)) nc) (λz=>by simp[z] at nc)
  ·intro i hi
   rcases j8 i hi with rfl|rfl|rfl|rfl|rfl|rfl|rfl|rfl <;> assumption
  ·intro x C dx2 fs z
   obtain⟨⟨dxb6,eb6⟩,_⟩:=hB6;rw[show H6 bd=some (.ins C dx2 fs) from z] at eb6;cases eb6;exact λq=>by cases q
def c3z(b:Bool)(L:Ln):Stg:=if b then L.gs else L.ts
theorem a3l{a b:Stg}(h:y9 a=y9 b):a=b:=by cases a <;> cases b <;> first|rfl|exact absurd h ↑4
noncomputable abbrev b6i:Stmt:=o9 (top 72) 1
theorem LR.same{H H':Hp}{A:Ad}{L:Ln}{tl:List Tr}(h:LR cl H A L tl)(s:Same H H'):LR cl H' A L tl:=by
 obtain⟨ps,Gq,Tq,lt,a,b⟩:=h;exact⟨ps,Gq,Tq,lt,a.same s,b⟩
noncomputable abbrev b6h:Stmt:=o9 (top 100) 7
def a7d(cl:Cl):Sp:=λvs H Q _=>ExN λla A L tl=>vs=[.ref la]/\LN cl H la A L tl/\∀p,H p=none->Q (.ref p) (upd H p (.lst ((b8i L.n L.c).map V.int)))
noncomputable abbrev a9a:Stmt:=o9 (top 100) 14
theorem c1w:i8 ["self"] ["self"] (g9 a9a):=↑1
theorem c2x(D:DefM K cl.Lane "cells" "Lane.cells" a9a ["self"])(T:↑14)(G_Board_all_cells:↑904 cl.Board "all_cells" 1 ["self"] (a5k cl)):↑904 cl.Lane "cells" 2 ["self"] (a7d cl):=by
 refine D.fn c1w ↑8 ↑3
 ·obtain⟨la,A,L,tl,rfl,hN,k⟩:=h
  refine⟨_,(d7 (m8 (c0n ↑5 T.k_Board G_Board_all_cells hr ↑4 j4))),?_⟩;fail "al";obtain⟨many,last,hB,hLt⟩:=hL.brd;obtain⟨⟨dxb,eb⟩,_⟩:=id hB;fail "";exact⟨A.bd,A.l,L.n,_,many,last,rfl,hB,k⟩
end
noncomputable def nc:HO->Bool
 | .own _=>false
 | .tbl _=>false
 | .frz _ _=>false
 | _=>true
noncomputable def ow(H:Hp):Hp:=λx=>match H x with
 | some o=>if nc o=true then some o else none
 | none=>none
section
variable{cl:Cl}{H H1':Hp}{F F2:Addr->Prop}{la la2:Addr}{A A' A2:Ad}{L L' L2':Ln}{tl tl' tl2:List Tr}
theorem b5g{x:Addr}{o:HO}(e:H x=some o)(n:nc o=true):ow H x=some o:=by
 unfold ow;rw[e];exact if_pos n
theorem d6z{x:Addr}{o:HO}(e:ow H x=some o):H x=some o/\nc o=true:=by
 unfold ow at e;split at e
 ·rename_i u q
  split at e
  ·rename_i n;cases e;exact⟨q,n⟩
  ·cases e
 ·cases e
theorem a9m{o:HO}(n:nc o=true):∀a,o≠.own a:=λa z=>by rw[z] at n;cases n
theorem LN.ow(h:LN cl H la A L tl)(nf:∀x,¬ A.fo x):LN cl (ow H) la A L tl:=by
 obtain⟨⟨ps,Gq,Tq,lt,a,b⟩,⟨dx,e⟩,o,f⟩:=h;refine⟨⟨ps,Gq,Tq,lt,?_,b⟩,⟨dx,b5g e rfl⟩,o,f⟩;obtain⟨⟨m,l,⟨⟨d0,e0⟩,e1,z⟩,y⟩,⟨d2,e2⟩,⟨d3,e3⟩,e4,e5,e6,e7,e8,e9,nd,om,fo⟩:=a;have ro:∀{a os},RwsX A H a os->RwsX A (S.ow H) a os:=λh=>by
  obtain⟨ps,e,l,r⟩:=h;exact⟨ps,b5g e rfl,l,λi p o hp ho=>⟨(r i p o hp ho).1,b5g (r i p o hp ho).2 rfl⟩⟩
 refine⟨⟨m,l,⟨⟨d0,b5g e0 rfl⟩,b5g e1 rfl,z⟩,?_⟩,⟨d2,b5g e2 rfl⟩,⟨d3,b5g e3 rfl⟩,b5g e4 rfl,b5g e5 rfl,ro e6,ro e7,b5g e8 rfl,?_,nd,om,λx hx=>absurd hx (nf x)⟩
 ·obtain⟨y1,y2,y3⟩:=y
  refine⟨y1,y2,λq hq=>?_⟩;obtain⟨t,u1,u2,u3⟩:=y3 q hq;exact⟨t,u1,u2,b5g u3 rfl⟩
 ·obtain⟨ps,e,l,r⟩:=e9
  refine⟨ps,b5g e rfl,l,λi p t hp ht=>?_⟩;obtain⟨r1,r2,r3⟩:=r i p t hp ht;exact⟨r1,r2,b5g r3 rfl⟩
def c8z(H:Hp)(x:Addr):Prop:=∃o,H x=some o/\b9e (some o)=false/\∀a,o≠.own a
structure LP(cl:Cl)(H:Hp)(F:Addr->Prop)(la:Addr)(A:Ad)(L:Ln)(tl:List Tr):Prop where
 ln:LN cl (rs F H) la A L tl
 dom:∀x,F x->c8z H x
 nf:∀x,¬ A.fo x
theorem c3k{x:Addr}{o:HO}(ot:Out H1' (rs F H) H)(e:H x=some o)(n:∀a,o≠.own a)(nx:b9e (some o)=false)(hF:¬ F x):jn H1' (rs F H) H x=some o/\¬ c8z H1' x:=by
 have h1:rs F H x=none:=c0i e n (by rw[e,nx];exact λz=>z.elim hF (λq=>by cases q))
 have h2:=ot.fr x o e h1;refine⟨(c3j h1 h2).trans e,λz=>?_⟩;obtain⟨_,q,_⟩:=z;rw[h2] at q;cases q
theorem LP.behind(ot:Out H1' (rs F H) H)(n:LN cl H1' la A' L' tl')(nf:∀x,¬ A'.fo x):LP cl (jn H1' (rs F H) H) (c8z H1') la A' L' tl':=by
 refine⟨(n.ow nf).same λx o e=>?_,λx hx=>?_,nf⟩
 ·have e':H1' x=some o/\∀a,o≠.own a:=⟨(d6z e).1,a9m (d6z e).2⟩
  have ej:=a2c (H1:=rs F H) (H:=H) e'.1;refine b5e ej e'.2 ?_;cases q:b9e (some o) with
  | true=>right;rw[ej];exact q
  | false=>left;exact⟨o,e'.1,q,e'.2⟩
 ·obtain⟨o,e,z⟩:=hx
  exact⟨o,a2c e,z⟩
end
end
section
open PySem L2 Pr
section
variable{P:Program}{w:World}{K:Frag}{mg:Str->Option Value}{base:Heap}{cl:Cl}
local macro_rules | `(tactic| walk_at "go1")=>`(tactic| walk_at "ga")
local macro_rules | `(tactic| walk_at "dg")=>`(tactic| ((refine' g_dg ?h ?v ?_);(case h=>assumption);(case v=>exact rfl)))
structure Hd where
 st:Str
 sp:Hr
 fi:Hr
 se:List Int
 at_:Int
 pa:Int
 ps:List Int
 le:Int
structure Ow where
 n:Nat
 c:List Int
 g:Hd
 t:Hd
 os:List ↑28
 bk:List ↑28
 tr:List Tr
noncomputable def kvH(x:Hd)(s p:Addr):List (Key×V):=[(.inr "stage",.str x.st),(.inr "spot",x.sp.v),(.inr "first",x.fi.v),(.inr "seen",.ref s),(.inr "at",.int x.at_),(.inr "part",.int x.pa),(.inr "parts",.ref p),(.inr "left",.int x.le)]
noncomputable def hdO(x:Hd)(s p:Addr):HO:=.dK (kvH x s p)
noncomputable def d3z(s:Ow)(a:Nat->Addr)(ks bs ts:List Addr):Nat->HO
 | 0=>.dK [(.inr "size",.int s.n),(.inr "cells",.ref (a 1)),(.inr "hands",.ref (a 2)),(.inr "orders",.ref (a 9)),(.inr "book",.ref (a 10)),(.inr "trail",.ref (a 11))]
 | 1=>.lst (s.c.map V.int)
 | 2=>.lst [.ref (a 3),.ref (a 4)]
 | 3=>hdO s.g (a 5) (a 7)
 | 4=>hdO s.t (a 6) (a 8)
 | 5=>.lst (s.g.se.map V.int)
 | 6=>.lst (s.t.se.map V.int)
 | 7=>.lst (s.g.ps.map V.int)
 | 8=>.lst (s.t.ps.map V.int)
 | 9=>.lst (ks.map V.ref)
 | 10=>.lst (bs.map V.ref)
 | _=>.lst (ts.map V.ref)
def RwO(H:Hp)(a:Nat->Addr)(ps:List Addr)(os:List ↑28):Prop:=ps.length=os.length/\∀(i:Nat)(p:Addr)(o:List Int),ps[i]?=some p->os[i]?=some o->(∀j,j<12->p≠a j)/\H p=some ↑53
def TrO(H:Hp)(ps:List Addr)(tl:List Tr):Prop:=ps.length=tl.length/\∀(i:Nat)(p:Addr)(t:Tr),ps[i]?=some p->tl[i]?=some t->H p=some (d6b t)
structure OWx(H:Hp)(a:Nat->Addr)(s:Ow)(ks bs ts:List Addr):Prop where
 inj:∀i j,i<12->j<12->i≠j->a i≠a j
 ob:∀k,k<12->H (a k)=some (d3z s a ks bs ts k)
 rk:RwO H a ks s.os
 rb:RwO H a bs s.bk
 rt:TrO H ts s.tr
def OW(H:Hp)(a:Nat->Addr)(s:Ow):Prop:=∃ks bs ts,OWx H a s ks bs ts
theorem OWx.same{H H':Hp}{a:Nat->Addr}{s:Ow}{ks bs ts:List Addr}(h:↑57)(m:Same H H'):OWx H' a s ks bs ts :=
 ⟨h.inj,λk hk=>m _ _ (h.ob k hk),⟨h.rk.1,λi p o hp ho=>⟨(h.rk.2 i p o hp ho).1,m _ _ (h.rk.2 i p o hp ho).2⟩⟩,⟨h.rb.1,λi p o hp ho=>⟨(h.rb.2 i p o hp ho).1,m _ _ (h.rb.2 i p o hp ho).2⟩⟩,⟨h.rt.1,λi p o hp ho=>m _ _ (h.rt.2 i p o hp ho)⟩⟩
def e3y:HO->Prop|.tup _=>False|_=>True
theorem d3y(s:Ow)(a:Nat->Addr)(ks bs ts:List Addr)(k:Nat):e3y (d3z s a ks bs ts k):=by
 unfold d3z hdO;split <;> exact True.intro
theorem OWx.set{H:Hp}{a:Nat->Addr}{s s':Ow}{ks bs ts:List Addr}(h:↑57){k:Nat}(hk:k<12)(he:∀j,j<12->j≠k->d3z s' a ks bs ts j=d3z s a ks bs ts j)(eo:s'.os=s.os)(eb:s'.bk=s.bk)(et:s'.tr=s.tr){o:HO}(ho:o=d3z s' a ks bs ts k):OWx (upd H (a k) o) a s' ks bs ts:=by
 refine⟨h.inj,λj hj=>?_,?_,?_,?_⟩
 ·by_cases z:j=k
  ·subst z;rw[d9,ho]
  ·rw[d8 (h.inj j k hj hk z),h.ob j hj,he j hj z]
 ·rw[eo];exact⟨h.rk.1,λi p o hp ho=>⟨(h.rk.2 i p o hp ho).1,by rw[d8 ((h.rk.2 i p o hp ho).1 k hk)];exact(h.rk.2 i p o hp ho).2⟩⟩
 ·rw[eb];exact⟨h.rb.1,λi p o hp ho=>⟨(h.rb.2 i p o hp ho).1,by rw[d8 ((h.rb.2 i p o hp ho).1 k hk)];exact(h.rb.2 i p o hp ho).2⟩⟩
 ·rw[et]
  refine⟨h.rt.1,λi p t hp ht=>?_⟩;have e:=h.rt.2 i p t hp ht;rw[d8]
  ·exact e
  ·rintro rfl
   have:=d3y s a ks bs ts k;rw[h.ob k hk] at e;injection e with e
   rw[e] at this;exact this
theorem OWx.push{H:Hp}{a:Nat->Addr}{s:Ow}{ks bs ts:List Addr}(h:↑57){t:Tr}{p:Addr}(hp:H p=some (d6b t)):OWx (upd H (a 11) (.lst ((ts++[p]).map V.ref))) a { s with tr:=s.tr++[t] } ks bs (ts++[p]):=by
 have nt:∀(q:Addr)(u:Tr),H q=some (d6b u)->q≠a 11:=λq u e z=>by
  rw[z,h.ob 11 ↑4] at e;injection e with e
  cases e
 refine⟨h.inj,λj hj=>?_,⟨h.rk.1,λi p o hp ho=>⟨(h.rk.2 i p o hp ho).1,by rw[d8 ((h.rk.2 i p o hp ho).1 11 ↑4)];exact(h.rk.2 i p o hp ho).2⟩⟩,⟨h.rb.1,λi p o hp ho=>⟨(h.rb.2 i p o hp ho).1,by rw[d8 ((h.rb.2 i p o hp ho).1 11 ↑4)];exact(h.rb.2 i p o hp ho).2⟩⟩,by rw[List.length_append,List.length_append,h.rt.1];rfl,λi q u hq hu=>?_⟩
 ·by_cases z:j=11
  ·subst z;exact d9
  ·rw[d8 (h.inj j 11 hj ↑4 z),h.ob j hj]
   have:j=0\/j=1\/j=2\/j=3\/j=4\/j=5\/j=6\/j=7\/j=8\/j=9\/j=10:=by lia
   fail "v"
 ·by_cases z:i<ts.length
  ·rw[List.getElem?_append_left z] at hq
   rw[List.getElem?_append_left (by rw[<- h.rt.1];exact z)] at hu
   have e:=h.rt.2 i q u hq hu;rw[d8 (nt q u e)];exact e
  ·rw[List.getElem?_append_right ↑2] at hq
   have:i=ts.length:=by
    by_cases y:i-ts.length=0
    ·lia
    ·rw[List.getElem?_eq_none (by simp;lia)] at hq;cases hq
   subst this;rw[Nat.sub_self] at hq;rw[List.getElem?_append_right (by rw[h.rt.1];exact Nat.le_refl _),h.rt.1,Nat.sub_self] at hu
   cases hq;cases hu;rw[d8 (nt _ _ hp)];exact hp
theorem nwS{H H':Hp}{p:Addr}{o:HO}(u:upd H p o=H')(h:H p=none):Same H H'/\H' p=some o:=by subst u;exact⟨j1 h,d9⟩
def wi(b:Bool):Int:=if b then 0 else 1
def vO:Option Int->V|none=>.non|some x=>.int x
noncomputable def n5(s:Ow)(b:Bool)(k:Nat)(v:Option Int):Ow :=
 let c':=match v with|none=>s.c|some x=>s.c.set k x
 { s with c:=c',tr:=s.tr++[(b,⟨v.isSome,k,c'.getD k 0⟩)] }
def KpO(a:Nat->Addr)(H H':Hp):Prop:=∀x o,H x=some o->(∀j,j<12->x≠a j)->H' x=some o
def a2e:Sp:=λvs H Q _=>E5 λ(a:Nat->Addr)(s:Ow)(b:Bool)(k:Nat)(v:Option Int)=>vs=[.ref (a 0),.int (wi b),.int k,vO v]/\OW H a s/\k<s.c.length/\s.c.length<=100/\s.tr.length<=4000000/\∀H',OW H' a (n5 s b k v)->KpO a H H'->Q (.int ((n5 s b k v).c.getD k 0)) H'
abbrev b1m:Stmt:=top 110
theorem a8g:i8 ["lane","who","cell","value","deed"] ["lane","who","cell","value"] (g9 b1m):=↑1
theorem c5m(D:DefT K mg "_law_touch" b1m ["lane","who","cell","value"])(T:↑14):↑901 "_law_touch" 1 ["lane","who","cell","value"] a2e:=by
 refine D.fn a8g ↑8 ↑7
 ·obtain⟨a,o,b,i,v,rfl,⟨ks,bs,ts,ow⟩,hi,hc,ht,k⟩:=h
  refine⟨_,(d6 (l9 (i:=4) a8g.nd rfl ↑22 m4)
   (d6 (x0 (l7 e0u (pu 3) b3q ↑43)
     (
     d6 (l9 (i:=4) a8g.nd rfl ↑22 m4)
     (d7 (c0l (pu 3) (c5a ↑10 (pu 2) b3f))))
     v6)
   (d6 (j9 (z9 (K:=K) ↑10 (d5 (a2x (d5 (a0c ↑19 (v5 ↑18) (pu 1) ↑11) (d5 (pu 4) (d5 (pu 2) (d5 (a0c ↑19 ↑10 (pu 2) ↑11) i9))))) i9)))
   (d7 (m8 (a0c ↑19 ↑10 (pu 2) ↑11)))))),?_⟩
  fail "";rename_i nX hX;have fin:∀(d:Str)(v':V)(s':Ow)(H':Hp),s'.tr=o.tr->s'.c.length=o.c.length->OWx H' a s' ks bs ts->(∀H2,OW H2 a { s' with tr:=s'.tr++[(b,⟨decide (d="write"),i,s'.c.getD i 0⟩)] }->KpO a H' H2->Q (.int (s'.c.getD i 0)) H2)->(d="read"\/d="write")->nX [some (.ref (a 0)),some (.int (wi b)),some (.int i),some v',some (.str d)] H':=by
   intro d v' s' H' etr ec ow' q hd;have e0:=ow'.ob 0 ↑4;have e11:H' (a 11)=some (.lst (ts.map V.ref)):=ow'.ob 11 ↑4;have hcell:atI (s'.c.map V.int) (i:Int)=some (.int (s'.c.getD i 0)):=by
    have:=c7d (row:=s'.c) (c:=(i:Int)) ↑2 ↑2
    rwa [Int.toNat_natCast] at this
   refine b9b hX ?_;fail "";refine⟨_,.ref (a 11),rfl,DGet.k (k:=.inr "trail") e0,?_⟩;fail "";refine⟨by show 2<=sizeLine;decide,λl hl=>?_⟩
   generalize u1:upd H' l _=H1;obtain⟨s1,f1⟩:=nwS u1 hl;replace ow':=ow'.same s1;replace e0:=ow'.ob 0 ↑4;fail "";refine a1c (v:=.str (if b then "giver" else "taker")) f1 (by cases b <;> rfl) ?_
   fail "";refine⟨_,.ref (a 1),rfl,DGet.k (k:=.inr "cells") e0,?_⟩;have e1:H1 (a 1)=some (.lst (s'.c.map V.int)):=ow'.ob 1 ↑4;fail "";refine a1c e1 hcell ?_;fail "";refine⟨by show 4<=sizeLine;decide,λp hp=>?_⟩
   generalize u2:upd H1 p _=H2;obtain⟨s2,f2⟩:=nwS u2 hp;replace ow':=ow'.same s2;clear e11 e1 e0 f1 u1 u2;have e11:H2 (a 11)=some (.lst (ts.map V.ref)):=ow'.ob 11 ↑4;have lt:(ts.map V.ref).length<sizeLine:=by
    rw[List.length_map,ow'.rt.1,etr];exact Nat.lt_of_le_of_lt ht ↑4
   fail "";have ft:H2 p=some (d6b (b,⟨decide (d="write"),i,s'.c.getD i 0⟩)):=by
    rw[f2];rcases hd with rfl|rfl <;> rfl
   have ow3:=ow'.push ft;rw[List.map_append] at ow3;have e0:=ow3.ob 0 ↑4;have e1:upd H2 (a 11) (.lst (ts.map V.ref++[V.ref p])) (a 1)=some (.lst (s'.c.map V.int)):=ow3.ob 1 ↑4;refine⟨_,.ref (a 1),rfl,DGet.k (k:=.inr "cells") e0,?_⟩;fail "";refine a1c e1 hcell ?_;exact q _ ⟨_,_,_,ow3⟩ λx o e n=>by rw[d8 (n 11 ↑4)];exact s2 _ _ (s1 _ _ e)
  clear hX;refine⟨rfl,_,rfl,?_⟩;cases v with
  | none=>
   rw[show(!decide (vO none=V.non))=false by simp[vO]]
   fail "";exact fin "read" .non o H rfl rfl ow (λH2 h kp=>k H2 h kp) ↑22
  | some x=>
   rw[show(!decide (vO (some x)=V.non))=true by simp[vO]]
   have e0:=ow.ob 0 ↑4;fail "";refine⟨_,.ref (a 1),rfl,DGet.k (k:=.inr "cells") e0,?_⟩;fail "";have e1:H (a 1)=some (.lst (o.c.map V.int)):=ow.ob 1 ↑4;refine d4t (j:=i) e1 (by rw[List.length_map];unfold ixN;rw[if_pos ↑2,if_pos ↑2];rfl) ?_
   show nX [some (.ref (a 0)),some (.int (wi b)),some (.int i),some (.int x),some (.str "write")] _;refine fin "write" (.int x) { o with c:=o.c.set i x } _ rfl (by show(o.c.set i x).length=_;rw[List.length_set]) (ow.set (s':={ o with c:=o.c.set i x }) (k:=1) (by decide) (λj hj z=>?_) rfl rfl rfl ?_) (λH2 h kp=>k H2 h λx o e n=>kp x o (by rw[d8 (n 1 (by decide))];exact e) n) (.inr rfl)
   ·have:j=0\/j=2\/j=3\/j=4\/j=5\/j=6\/j=7\/j=8\/j=9\/j=10\/j=11:=by lia
    fail "v"
   ·show _=HO.lst ((o.c.set i x).map V.int)
    rw[List.map_set]
    rfl
def Ow.h(s:Ow)(b:Bool):Hd:=if b then s.g else s.t
def ha(b:Bool):Nat:=if b then 3 else 4
theorem OWx.hd{H:Hp}{a:Nat->Addr}{s:Ow}{ks bs ts:List Addr}(h:↑57)(b:Bool):H (a (ha b))=some (hdO (s.h b) ↑103 (a (if b then 7 else 8))):=by
 cases b with
 | true=>exact h.ob 3 ↑4
 | false=>exact h.ob 4 ↑4
theorem OWx.hs{H:Hp}{a:Nat->Addr}{s:Ow}{ks bs ts:List Addr}(h:↑57):H (a 2)=some (.lst [.ref (a 3),.ref (a 4)]):=h.ob 2 ↑4
theorem b9f(a:Nat->Addr)(b:Bool):atI [V.ref (a 3),V.ref (a 4)] (wi b)=some (.ref (a (ha b))):=by cases b <;> rfl
theorem a5a(x y:Int):decide (V.int x=V.int y)=decide (x=y):=by
 rw[decide_eq_decide];exact⟨V.int.inj,λz=>by rw[z]⟩
theorem a2v(x y:Str):decide (V.str x=V.str y)=decide (x=y):=by
 rw[decide_eq_decide];exact⟨V.str.inj,λz=>by rw[z]⟩
noncomputable def c3h(n:Nat)(b:Bool)(sp m:Int):Bool:=decide (m=if b then 2-2*(sp / n) else 2*(sp / n)+1)
def a6v:Sp:=λvs H Q _=>E5 λ(a:Nat->Addr)(s:Ow)(b:Bool)(m sp:Int)=>vs=[.ref (a 0),.int (wi b),.int m]/\OW H a s/\(s.h b).sp=.int sp/\2<=s.n/\s.n<=8/\0<=sp/\sp<2*s.n/\∀H',Same H H'->OW H' a s->Q (.bl (c3h s.n b sp m)) H'
abbrev b4v:Stmt:=top 113
theorem b7r:i8 ["lane","who","mark","lap"] ["lane","who","mark"] (g9 b4v):=↑1
theorem c8h(D:DefT K mg "_law_lets" b4v ["lane","who","mark"])(T:↑14):↑901 "_law_lets" 1 ["lane","who","mark"] a6v:=by
 refine D.fn b7r ↑8 ↑7
 ·obtain⟨a,o,b,m,sp,rfl,⟨ks,bs,ts,ow⟩,es,n2,n8,s0,s1,k⟩:=h
  refine⟨_,(d6 (l9 (i:=3) b7r.nd rfl ↑22 (k7 a2t (b5f ↑23 (a0c ↑19 ↑10 (pu 1) ↑11) m4 ↑11) ↑10))
   (d7 (m8 (a3k a0m (pu 2) (a0c ↑19 (v5 (d5 (k7 a2g i4 ↑85) (d5 (k7 v3 ↑85 i4) i9))) (pu 1) ↑11) ↑43)))),?_⟩
  have e0:=ow.ob 0 ↑4;have e2:=ow.hs;have eh:=ow.hd b;fail "";refine⟨_,.ref (a 2),rfl,DGet.k (k:=.inr "hands") e0,?_⟩;fail "";refine a1c e2 (b9f a b) ?_;fail "";refine⟨_,.int sp,rfl,?_,?_⟩
  ·have q:DGet H (a (ha b)) (.str "spot") (some (o.h b).sp.v):=DGet.k (k:=.inr "spot") eh
   rw[es] at q;exact q
  fail "";refine⟨_,.int o.n,rfl,DGet.k (k:=.inr "size") e0,?_⟩;fail "";refine g_I ⟨by lia,by
   have:((o.n:Int)).natAbs=o.n:=Int.natAbs_natCast _;rw[this];have h2:o.n.log2<=o.n:=Nat.log2_le_self _;lia⟩ ?_
  fail "";refine⟨by show 2<=sizeLine;decide,λl hl=>?_⟩
  generalize u1:upd H l _=H1;obtain⟨s1',f1⟩:=nwS u1 hl;fail "";refine a1c (v:=.int (if b then 2-2*(sp / o.n) else 2*(sp / o.n)+1)) f1 (by cases b <;> rfl) ?_
  fail "";rw[a5a];exact k H1 s1' ⟨_,_,_,ow.same s1'⟩
noncomputable def Ow.setH(s:Ow)(b:Bool)(x:Hd):Ow:=if b then { s with g:=x } else { s with t:=x }
theorem OWx.stage{H:Hp}{a:Nat->Addr}{s:Ow}{ks bs ts:List Addr}(h:↑57)(b:Bool)(x:Hd)(hs:x.se=(s.h b).se)(hp:x.ps=(s.h b).ps):OWx (upd H (a (ha b)) (hdO x ↑103 (a (if b then 7 else 8)))) a (s.setH b x) ks bs ts:=by
 cases b with
 | true=>
  refine h.set (s':={ s with g:=x }) (k:=3) (by decide) (λj hj z=>?_) rfl rfl rfl rfl
  have:j=0\/j=1\/j=2\/j=4\/j=5\/j=6\/j=7\/j=8\/j=9\/j=10\/j=11:=by lia
  have hs:x.se=s.g.se:=hs;have hp:x.ps=s.g.ps:=hp;rcases this with rfl|rfl|rfl|rfl|rfl|rfl|rfl|rfl|rfl|rfl|rfl <;> first|rfl|(show HO.lst _=HO.lst _;first|rw[hs] | rw[hp])
 | false=>
  refine h.set (s':={ s with t:=x }) (k:=4) (by decide) (λj hj z=>?_) rfl rfl rfl rfl
  have:j=0\/j=1\/j=2\/j=3\/j=5\/j=6\/j=7\/j=8\/j=9\/j=10\/j=11:=by lia
  have hs:x.se=s.t.se:=hs;have hp:x.ps=s.t.ps:=hp;rcases this with rfl|rfl|rfl|rfl|rfl|rfl|rfl|rfl|rfl|rfl|rfl <;> first|rfl|(show HO.lst _=HO.lst _;first|rw[hs] | rw[hp])
theorem d2w(x:Hd)(s p:Addr)(v:Str):b6y (kvH x s p) (.inr "stage") (.str v)=kvH { x with st:=v } s p:=rfl
theorem d2x(x:Hd)(s p:Addr)(v:Int):b6y (kvH x s p) (.inr "at") (.int v)=kvH { x with at_:=v } s p:=rfl
theorem d8q(x:Hd)(s p:Addr)(v:Int):b6y (kvH x s p) (.inr "part") (.int v)=kvH { x with pa:=v } s p:=rfl
theorem lit{k:St->Hp->Prop}{σ:St}(τ:St){H:Hp}(e:σ=τ)(q:k τ H):k σ H:=e ▸ q
noncomputable def Ow.stg(s:Ow)(b:Bool)(x:Stg):Ow:=s.setH b { s.h b with st:=y9 x }
structure Fit(s:Ow)(b:Bool)(sp:Int):Prop where
 n2:2<=s.n
 n8:s.n<=8
 lc:s.c.length=4*s.n+4
 es:(s.h b).sp=.int sp
 s0:0<=sp
 s1:sp<2*s.n
 lt:s.tr.length<=4000000
def wn(b:Bool):Nat:=if b then 0 else 1
theorem c7h(b:Bool):wi b=(wn b:Int):=by cases b <;> rfl
theorem e2k(b:Bool):wn b<2:=by cases b <;> decide
noncomputable def c7i(s:Ow)(b:Bool)(sp:Int):Stg->Ow
 | .wish=>(n5 s b (4*s.n+wn b) (some sp)).stg b .again
 | .again=>(n5 s b (4*(sp % s.n).toNat) none).stg b (if c3h s.n b sp (s.c.getD (4*(sp % s.n).toNat) 0) then .unwish else .sleep)
 | .sleep=>(n5 s b (4*s.n+2+wn b) none).stg b (if s.c.getD (4*s.n+2+wn b) 0=0 then .sleep else .hush)
 | .hush=>(n5 s b (4*s.n+2+wn b) (some 0)).stg b .unwish
 | _=>(n5 s b (4*s.n+wn b) (some (-1))).stg b .look
theorem a3w(s:Ow)(b d:Bool)(k:Nat)(v:Option Int):(n5 s b k v).h d=s.h d:=by cases d <;> rfl
def b7i:Sp:=λvs H Q _=>E5 λ(a:Nat->Addr)(s:Ow)(b:Bool)(sp:Int)(x:Stg)=>vs=[.ref (a 0),.int (wi b)]/\OW H a s/\Fit s b sp/\x.wait=true/\(s.h b).st=y9 x/\∀H',OW H' a (c7i s b sp x)->Q .non H'
abbrev b4r:Stmt:=top 114
theorem a3b:i8 ["lane","who","hand","size","stage","mark","bell"] ["lane","who"] (g9 b4r):=↑1
theorem c8d(D:DefT K mg "_law_wait" b4r ["lane","who"])(T:↑14)(G_law_touch:↑36)(G_law_lets:↑901 "_law_lets" 1 ["lane","who","mark"] a6v):↑901 "_law_wait" 2 ["lane","who"] b7i:=by
 refine D.fn a3b ↑8 ↑7
 ·obtain⟨a,o,b,sp,x,rfl,ow,ft,wx,es,k⟩:=h
  refine⟨_,(d6 (l9 (i:=2) a3b.nd rfl ↑22 (a0c ↑19 ↑10 (pu 1) ↑11))
   (d6 (l9 (i:=3) a3b.nd rfl ↑22 ↑10)
   (d6 (l9 (i:=4) a3b.nd rfl ↑22 ↑127)
   (d7 (x0 ↑132
    (
     d6 (j9 (m3 G_law_touch hr ↑4 rfl j4 (d5 (pu 0) (d5 (pu 1) (d5 (k7 v3 ↑85 (pu 1)) (d5 ↑127 i9))))))
     ↑135)
    (d7 (
         x0 ↑132
      (
      d6 (l9 (i:=5) a3b.nd rfl ↑22 (m3 G_law_touch hr ↑4 rfl j4 (d5 (pu 0) (d5 (pu 1) (d5 (k7 a0p i4 (k7 a0l ↑127 (pu 3))) ↑145)))))
      (d7 (a0d ↑23 (pu 2) m4 (a0c ↑19 (v5 ↑18) (v2 a6q (by rfl) T.z_int PyProof.Rows.boot_int (d5 (m3 G_law_lets hr ↑4 rfl j4 (d5 (pu 0) (d5 (pu 1) (d5 (pu 5) i9)))) i9)) ↑11) rfl)))
      (d7 (x0 ↑132
       (
        d6 (l9 (i:=6) a3b.nd rfl ↑22 (m3 G_law_touch hr ↑4 rfl j4 (d5 (pu 0) (d5 (pu 1) (d5 (k7 v3 (k7 v3 ↑85 i4) (pu 1)) ↑145)))))
        (d7 (a0d ↑23 (pu 2) m4 (a0c ↑19 (v5 ↑18) (v2 a6q (by rfl) T.z_int PyProof.Rows.boot_int (d5 (a3k e3u (pu 6) i4 ↑43) i9)) ↑11) rfl)))
       (d7 (x0 ↑132
         (
         d6 (j9 (m3 G_law_touch hr ↑4 rfl j4 (d5 (pu 0) (d5 (pu 1) (d5 (k7 v3 (k7 v3 ↑85 i4) (pu 1)) ↑25)))))
         ↑135)
         (
         d6 (j9 (m3 G_law_touch hr ↑4 rfl j4 (d5 (pu 0) (d5 (pu 1) (d5 (k7 v3 ↑85 (pu 1)) (d5 (d1g c0c i4) i9))))))
         ↑135)))))))))))),?_⟩
  fail "ar";have e0:=owx.ob 0 ↑4;have e2:=owx.hs;have eh:H (a (ha b))=some (.dK (kvH (o.h b) ↑103 (a (if b then 7 else 8)))):=owx.hd b;have n2:=ft.n2;have n8:=ft.n8;have lc:=ft.lc;have w2:=e2k b;fail "";refine⟨_,.ref (a 2),rfl,DGet.k (k:=.inr "hands") e0,?_⟩;fail "";refine a1c e2 (b9f a b) ?_;fail "";refine⟨_,.int o.n,rfl,DGet.k (k:=.inr "size") e0,?_⟩;fail "";refine⟨_,.str (o.h b).st,rfl,DGet.k (k:=.inr "stage") eh,?_⟩;refine d4v ?_;refine lit [some (.ref (a 0)),some (.int (wi b)),some (.ref (a (ha b))),some (.int o.n),some (.str (o.h b).st),none,none] (by rfl) ?_
  fail "";rw[es];have fin:∀(s':Ow)(y:Stg)(H':Hp),OW H' a s'->(∀H2,OW H2 a (s'.stg b y)->Q .non H2)->∃H4,DPut H' (a (ha b)) (.str "stage") (.str (y9 y)) H4/\Q .non H4:=by
   intro s' y H' hw q;obtain⟨ks,bs,ts,hx⟩:=hw;refine⟨_,DPut.k (k:=.inr "stage") (hx.hd b) (by show 8<sizeLine;decide),q _ ⟨ks,bs,ts,?_⟩⟩
   rw[d2w];exact hx.stage b { s'.h b with st:=y9 y } rfl rfl
  have dsp:DGet H (a (ha b)) (.str "spot") (some (.int sp)):=by
   have q:DGet H (a (ha b)) (.str "spot") (some (o.h b).sp.v):=DGet.k (k:=.inr "spot") eh;rw[ft.es] at q;exact q
  rw[a2v];refine a4j (λz=>?_) (λz=>?_)
  ·have hx:x=.wish:=a3l (z.trans (show("wish":Str)=y9 .wish from rfl))
   subst hx;fail "";refine⟨_,.int sp,rfl,dsp,?_⟩;fail "";refine⟨a,o,b,4*o.n+wn b,some sp,by rw[show((4*o.n+wn b:Nat):Int)=4*(o.n:Int)+wi b by rw[c7h];lia];rfl,ow,by lia,by lia,ft.lt,λH1 h1 _=>?_⟩
   obtain⟨H4,d4,q4⟩:=fin _ .again H1 h1 k;fail "";exact⟨_,H4,rfl,d4,q4⟩
  fail "";rw[a2v];refine a4j (λz2=>?_) (λz2=>?_)
  ·have hx:x=.again:=a3l (z2.trans (show("again":Str)=y9 .again from rfl))
   subst hx;fail "";refine⟨_,.int sp,rfl,dsp,?_⟩;fail "";refine⟨a,o,b,4*(sp % o.n).toNat,none,?_,ow,?_,by lia,ft.lt,λH1 h1 _=>?_⟩
   ·rw[show((4*(sp % o.n).toNat:Nat):Int)=4*(sp % (o.n:Int)) by have:=Int.emod_nonneg sp (show(o.n:Int)≠0 by lia);lia]
    rfl
   ·have:=Int.emod_nonneg sp (show(o.n:Int)≠0 by lia)
    have:=Int.emod_lt_of_pos sp (show(0:Int)<o.n by lia)
    lia
   fail "ab";fail "at";fail "";refine⟨a,_,b,_,sp,rfl,⟨k1,b1,t1,x1.same s2⟩,by rw[a3w];exact ft.es,n2,n8,ft.s0,ft.s1,λH3 s3 h3=>.inr ↑112⟩
   refine a1c (v:=.str (y9 (if c3h o.n b sp (o.c.getD (4*(sp % o.n).toNat) 0) then .unwish else .sleep))) (s3 _ _ f2) (by show atI _ (if c3h o.n b sp (o.c.getD (4*(sp % o.n).toNat) 0)=true then 1 else 0)=_;cases c3h o.n b sp (o.c.getD (4*(sp % o.n).toNat) 0) <;> rfl) ?_
   obtain⟨H4,d4,q4⟩:=fin _ _ H3 h3 k;fail "";exact⟨_,H4,rfl,d4,q4⟩
  fail "";rw[a2v];refine a4j (λz3=>?_) (λz3=>?_)
  ·have hx:x=.sleep:=a3l (z3.trans (show("sleep":Str)=y9 .sleep from rfl))
   subst hx;fail "";refine⟨a,o,b,4*o.n+2+wn b,none,by rw[show((4*o.n+2+wn b:Nat):Int)=4*(o.n:Int)+2+wi b by rw[c7h];lia];rfl,ow,by lia,by lia,ft.lt,λH1 h1 _=>?_⟩
   fail "ab";fail "at";fail "";refine .inr ↑112;refine a1c (v:=.str (y9 (if o.c.getD (4*o.n+2+wn b) 0=0 then .sleep else .hush))) f2 ?_ ?_
   ·rw[a5a]
    show atI _ (if (!decide (o.c.getD (4*o.n+2+wn b) 0=0))=true then 1 else 0)=_;by_cases y:o.c.getD (4*o.n+2+wn b) 0=0
    ·rw[if_pos y,decide_eq_true y];rfl
    ·rw[if_neg y,decide_eq_false y];rfl
   obtain⟨H4,d4,q4⟩:=fin _ _ H2 ⟨k1,b1,t1,x1.same s2⟩ k;fail "";exact⟨_,H4,rfl,d4,q4⟩
  fail "";rw[a2v];refine a4j (λz4=>?_) (λz4=>?_)
  ·have hx:x=.hush:=a3l (z4.trans (show("hush":Str)=y9 .hush from rfl))
   subst hx;fail "";refine⟨a,o,b,4*o.n+2+wn b,some 0,by rw[show((4*o.n+2+wn b:Nat):Int)=4*(o.n:Int)+2+wi b by rw[c7h];lia];rfl,ow,by lia,by lia,ft.lt,λH1 h1 _=>?_⟩
   obtain⟨H4,d4,q4⟩:=fin _ .unwish H1 h1 k;fail "";exact⟨_,H4,rfl,d4,q4⟩
  ·have hx:x=.unwish:=by
    cases x <;> first|rfl|(exfalso;first|exact absurd wx ↑4|exact z rfl|exact z2 rfl|exact z3 rfl|exact z4 rfl)
   subst hx;fail "";refine⟨a,o,b,4*o.n+wn b,some (-1),by rw[show((4*o.n+wn b:Nat):Int)=4*(o.n:Int)+wi b by rw[c7h];lia];rfl,ow,by lia,by lia,ft.lt,λH1 h1 _=>?_⟩
   obtain⟨H4,d4,q4⟩:=fin _ .look H1 h1 k;fail "";exact⟨_,H4,rfl,d4,q4⟩
noncomputable def d6s(s:Ow):Bool:=decide (s.g.st="look") && decide (s.g.at_ >= s.os.length)
def b5v:Sp:=λvs H Q _=>E2 λ(a:Nat->Addr)(s:Ow)=>vs=[.ref (a 0)]/\OW H a s/\Q (.bl (d6s s)) H
abbrev b1p:Stmt:=top 119
theorem b6f:i8 ["lane","hand"] ["lane"] (g9 b1p):=↑1
theorem c5p(D:DefT K mg "_law_rests" b1p ["lane"])(T:↑14):↑901 "_law_rests" 1 ["lane"] b5v:=by
 refine D.fn b6f ↑8 ↑7
 ·obtain⟨a,o,rfl,⟨ks,bs,ts,ow⟩,k⟩:=h
  refine⟨_,(d6 (l9 (i:=1) b6f.nd rfl ↑22 (a0c ↑19 ↑10 i4 ↑11))
   (d7 (m8 (c9z (a3k a0m ↑9 m4 ↑43) (c0m (a3k d3s ↑9 (v7 ↑42 (by rfl) T.z_len PySem.boot_len (d5 ↑10 i9)) ↑43)))))),?_⟩
  have e0:=ow.ob 0 ↑4;have e2:=ow.hs;have eh:H (a 3)=some (.dK (kvH o.g (a 5) (a 7))):=ow.ob 3 ↑4;have e9:H (a 9)=some (.lst (ks.map V.ref)):=ow.ob 9 ↑4;fail "";refine⟨_,.ref (a 2),rfl,DGet.k (k:=.inr "hands") e0,?_⟩;fail "";refine⟨_,.str o.g.st,rfl,DGet.k (k:=.inr "stage") eh,?_⟩;fail "";rw[a2v];unfold d6s at k;refine a4j (λz=>?_) (λz=>?_)
  ·rw[decide_eq_true z,Bool.true_and] at k
   fail "";refine⟨_,.int o.g.at_,rfl,DGet.k (k:=.inr "at") eh,?_⟩;fail "";refine⟨_,.ref (a 9),rfl,DGet.k (k:=.inr "orders") e0,?_⟩;fail "";rw[List.length_map,ow.rk.1];exact k
  ·rw[decide_eq_false z,Bool.false_and] at k
   exact k
noncomputable def e2f(s:Ow)(sp:Int)(told:Bool):Ow :=
 let ah:=4*((sp-1) % s.n).toNat
 if told then (n5 s true (ah+1) none).setH true { s.g with at_:=s.c.getD (ah+1) 0,st:="lacks" }
 else
  let left:=s.c.getD (ah+2) 0
  (n5 s true (ah+2) none).setH true (if 0<=s.g.at_/\0<left then { s.g with st:="look",pa:=((s.os.getD s.g.at_.toNat []).length:Int)-left } else { s.g with st:="look",pa:=0,at_:=s.g.at_+1 })
def a8b:Sp:=λvs H Q _=>E4 λ(a:Nat->Addr)(s:Ow)(sp:Int)(told:Bool)=>vs=[.ref (a 0)]/\OW H a s/\Fit s true sp/\s.g.st=y9 (if told then .told else .lacks)/\(told=false->0<=s.g.at_->s.g.at_<s.os.length)/\∀H',OW H' a (e2f s sp told)->Q .non H'
abbrev a5z:Stmt:=top 115
theorem a0z:i8 ["lane","hand","size","ahead","left"] ["lane"] (g9 a5z):=↑1
theorem b8o(D:DefT K mg "_law_remember" a5z ["lane"])(T:↑14)(G_law_touch:↑36):↑901 "_law_remember" 2 ["lane"] a8b:=by
 refine D.fn a0z ↑8 ↑7
 ·obtain⟨a,o,sp,told,rfl,ow,ft,es,ha9,k⟩:=h
  refine⟨_,(d6 (l9 (i:=1) a0z.nd rfl ↑22 (a0c ↑19 ↑10 i4 ↑11))
   (d6 (l9 (i:=2) a0z.nd rfl ↑22 ↑10)
   (d6 (l9 (i:=3) a0z.nd rfl ↑22 (k7 a0p i4 (k7 a0l (k7 a2g ↑9 i4) (pu 2))))
   (d7 (x0 (l7 a0m ↑9 m4 ↑43)
    (
     d6 (a0d ↑23 (pu 1) m4 (m3 G_law_touch hr ↑4 rfl j4 ↑37) rfl)
     (d7 ↑17))
    (
     d6 (l9 (i:=4) a0z.nd rfl ↑22 (m3 G_law_touch hr ↑4 rfl j4 ↑37))
     (d6 ↑17
     (d6 (a0d ↑23 (pu 1) m4 i4 rfl)
     (d7 (x0 (PW.pt (c4y (l7 d3s ↑9 i4 ↑43) (b8k (l7 c5d (pu 4) i4 ↑43))))
      (d7 (a0d ↑23 (pu 1) m4 (k7 a2g (v7 ↑42 (by rfl) T.z_len PySem.boot_len (d5 (a0c ↑19 ↑10 ↑9 ↑11) i9)) (pu 4)) rfl))
      (d7 (a0d ↑23 (pu 1) m4 (k7 v3 ↑9 i4) rfl)))))))))))),?_⟩
  fail "ar";have e0:=owx.ob 0 ↑4;have e2:=owx.hs;have eh:H (a 3)=some (.dK (kvH o.g (a 5) (a 7))):=owx.ob 3 ↑4;have n2:=ft.n2;have n8:=ft.n8;have lc:=ft.lc;have m0:=Int.emod_nonneg (sp-1) (show(o.n:Int)≠0 by lia)
  have m1:=Int.emod_lt_of_pos (sp-1) (show(0:Int)<o.n by lia)
  have dsp:DGet H (a 3) (.str "spot") (some (.int sp)):=by
   have q:DGet H (a 3) (.str "spot") (some o.g.sp.v):=DGet.k (k:=.inr "spot") eh;have:=ft.es;rw[show o.g.sp=.int sp from this] at q;exact q
  fail "";refine⟨_,.ref (a 2),rfl,DGet.k (k:=.inr "hands") e0,?_⟩;fail "";refine⟨_,.int o.n,rfl,DGet.k (k:=.inr "size") e0,?_⟩;fail "";refine⟨_,.int sp,rfl,dsp,?_⟩;fail "";refine⟨_,.str o.g.st,rfl,DGet.k (k:=.inr "stage") eh,?_⟩;fail "";rw[a2v,es];have l8:∀(x:Hd)(s p:Addr),(kvH x s p).length<sizeLine:=λ_ _ _=>by show 8<sizeLine;decide
  cases told with
  | true=>
   rw[show decide (y9 (if true=true then .told else .lacks)="told")=true from by decide]
   fail "";refine⟨a,o,true,4*((sp-1) % o.n).toNat+1,none,?_,ow,by lia,by lia,ft.lt,λH1 h1 _=>?_⟩
   ·rw[show((4*((sp-1) % o.n).toNat+1:Nat):Int)=4*((sp-1) % (o.n:Int))+1 by lia]
    rfl
   fail "at";fail "";refine⟨_,_,rfl,DPut.k (k:=.inr "at") (x1.ob 3 ↑4) (l8 _ _ _),?_⟩;rw[d2x];fail "";refine⟨_,_,rfl,DPut.k (k:=.inr "stage") d9 (l8 _ _ _),?_⟩;rw[d2w,c7j];exact k _ ⟨k1,b1,t1,x1.stage true { o.g with at_:=o.c.getD (4*((sp-1) % o.n).toNat+1) 0,st:="lacks" } rfl rfl⟩
  | false=>
   rw[show decide (y9 (if false=true then .told else .lacks)="told")=false from by decide]
   fail "";refine⟨a,o,true,4*((sp-1) % o.n).toNat+2,none,?_,ow,by lia,by lia,ft.lt,λH1 h1 _=>?_⟩
   ·rw[show((4*((sp-1) % o.n).toNat+2:Nat):Int)=4*((sp-1) % (o.n:Int))+2 by lia]
    rfl
   fail "at";refine d4v ?_;refine lit [some (.ref (a 0)),some (.ref (a 3)),some (.int o.n),some (.int (4*((sp-1) % (o.n:Int)))),some (.int (o.c.getD (4*((sp-1) % o.n).toNat+2) 0))] (by rfl) ?_
   fail "";refine⟨_,_,rfl,DPut.k (k:=.inr "stage") (x1.ob 3 ↑4) (l8 _ _ _),?_⟩;rw[d2w];fail "";refine⟨_,_,rfl,DPut.k (k:=.inr "part") d9 (l8 _ _ _),?_⟩;rw[d8q,c7j];generalize u2:upd H1 (a 3) _=H2;have x2:OWx H2 a ((n5 o true (4*((sp-1) % o.n).toNat+2) none).setH true { o.g with st:="look",pa:=0 }) k1 b1 t1:=by
    rw[<- u2];exact x1.stage true { o.g with st:="look",pa:=0 } rfl rfl
   clear u2;have e3:H2 (a 3)=some (.dK (kvH { o.g with st:="look",pa:=0 } (a 5) (a 7))):=x2.ob 3 (by decide)
   have f0:=x2.ob 0 ↑4;have f9:H2 (a 9)=some (.lst (k1.map V.ref)):=x2.ob 9 ↑4;fail "";refine⟨_,.int o.g.at_,rfl,DGet.k (k:=.inr "at") e3,?_⟩;fail "";have kk:∀y:Hd,y.se=o.g.se->y.ps=o.g.ps->e2f o sp false=(n5 o true (4*((sp-1) % o.n).toNat+2) none).setH true y->Q .non (upd H2 (a 3) (.dK (kvH y (a 5) (a 7)))):=λy h1 h2 h3=>by
    refine k _ ⟨k1,b1,t1,?_⟩;rw[h3];exact x2.stage true y h1 h2
   have ka:¬ (0<=o.g.at_/\0<o.c.getD (4*((sp-1) % o.n).toNat+2) 0)->Q .non (upd H2 (a 3) (.dK (kvH { o.g with st:="look",pa:=0,at_:=o.g.at_+1 } (a 5) (a 7)))):=λz=>kk _ rfl rfl (by
    unfold e2f;rw[if_neg ↑4];exact congrArg (λy=>(n5 o true (4*((sp-1) % o.n).toNat+2) none).setH true y) (if_neg z))
   refine a4j (λz=>?_) (λz=>?_)
   ·fail ""
    refine a4j (λz2=>?_) (λz2=>?_)
    ·fail ""
     refine⟨_,.ref (a 9),rfl,DGet.k (k:=.inr "orders") f0,?_⟩;fail "";refine⟨_,.int o.g.at_,rfl,DGet.k (k:=.inr "at") e3,?_⟩;fail "";have hi:=ha9 rfl z;obtain⟨q,hq⟩:∃q,k1[o.g.at_.toNat]?=some q:=⟨_,List.getElem?_eq_getElem (by have:=x2.rk.1;have:k1.length=o.os.length:=this;lia)⟩
     have hr:=(x2.rk.2 _ q _ hq (show o.os[o.g.at_.toNat]?=some (o.os.getD o.g.at_.toNat []) by rw[List.getD_eq_getElem?_getD,List.getElem?_eq_getElem ↑2];rfl)).2
     refine a1c (v:=.ref q) f9 ?_ ?_
     ·unfold atI ixN
      rw[if_pos z,if_pos (by rw[List.length_map];have:=x2.rk.1;have:k1.length=o.os.length:=this;lia)]
      show(k1.map V.ref)[o.g.at_.toNat]?=_;rw[List.getElem?_map,hq]
      rfl
     fail "aq";refine⟨_,_,rfl,DPut.k (k:=.inr "part") e3 (l8 _ _ _),?_⟩;rw[d8q];refine kk { o.g with st:="look",pa:=((o.os.getD o.g.at_.toNat []).length:Int)-o.c.getD (4*((sp-1) % o.n).toNat+2) 0 } rfl rfl ?_
     unfold e2f;rw[if_neg ↑4];exact congrArg (λy=>(n5 o true (4*((sp-1) % o.n).toNat+2) none).setH true y) (if_pos ⟨z,z2⟩)
    ·fail ""
     refine⟨_,.int o.g.at_,rfl,DGet.k (k:=.inr "at") e3,?_⟩;fail "";refine⟨_,_,rfl,DPut.k (k:=.inr "at") e3 (l8 _ _ _),?_⟩;rw[d2x];exact ka (λy=>z2 y.2)
   ·fail ""
    refine⟨_,.int o.g.at_,rfl,DGet.k (k:=.inr "at") e3,?_⟩;fail "";refine⟨_,_,rfl,DPut.k (k:=.inr "at") e3 (l8 _ _ _),?_⟩;rw[d2x];exact ka (λy=>z y.1)
noncomputable def d7f:List (Key×V)->Str->Option V
 | [],_=>none
 | (k,v)::r,s=>if k=.inr s then some v else d7f r s
theorem d0d:∀(kvs:List (Key×V))(s:Str),d0t kvs (.inr s)=d7f kvs s
 | [],_=>rfl
 | (k,v)::r,s=>by
  have:=d0d r s;unfold d0t at this ⊢;unfold d7f;rw[List.find?_cons];by_cases z:k=.inr s
  ·subst z;simp
  ·rw[if_neg z,<- this];simp[z]
theorem c7f{R:V->Prop}{H:Hp}{a:Addr}{kvs:List (Key×V)}{s:Str}{v:V}(h:H a=some (.dK kvs))(hv:d7f kvs s=some v)(q:R v):∃a' v',V.ref a=.ref a'/\DGet H a' (.str s) (some v')/\R v' :=
 ⟨a,v,rfl,hv ▸ d0d kvs s ▸ DGet.k (k:=.inr s) h,q⟩
set_option hygiene false in
local macro_rules | `(tactic| walk_at "go1")=>`(tactic| first|walk_at "ga"|((with_reducible refine' c7f ?h ?v ?_);(case h=>assumption);(case v=>exact rfl))|rw[efv] | rw[esv] | ((with_reducible refine' g_I ?h ?_);(case h=>exact⟨by lia,e0y _ ↑2 ↑2⟩)))
set_option hygiene false in
local macro_rules | `(tactic| walk_at "st")=>`(tactic| ((rw[a2v]);first|(rw[decide_eq_true (by rfl)])|(rw[decide_eq_false ↑4])))
section
variable{H:Hp}{a:Nat->Addr}{s:Ow}{ks bs ts:List Addr}
noncomputable def kvO(n:Nat)(a:Nat->Addr):List (Key×V):=[(.inr "size",.int n),(.inr "cells",.ref (a 1)),(.inr "hands",.ref (a 2)),(.inr "orders",.ref (a 9)),(.inr "book",.ref (a 10)),(.inr "trail",.ref (a 11))]
noncomputable def kvQ(st:Str)(sp fi:Hr)(at_ pa le:Int)(s p:Addr):List (Key×V):=[(.inr "stage",.str st),(.inr "spot",sp.v),(.inr "first",fi.v),(.inr "seen",.ref s),(.inr "at",.int at_),(.inr "part",.int pa),(.inr "parts",.ref p),(.inr "left",.int le)]
theorem OWx.e0(h:↑57):H (a 0)=some (.dK (kvO s.n a)):=h.ob 0 ↑4
theorem OWx.eg(h:↑57):H (a 3)=some (.dK (kvQ s.g.st s.g.sp s.g.fi s.g.at_ s.g.pa s.g.le (a 5) (a 7))):=h.ob 3 ↑4
theorem OWx.et(h:↑57):H (a 4)=some (.dK (kvQ s.t.st s.t.sp s.t.fi s.t.at_ s.t.pa s.t.le (a 6) (a 8))):=h.ob 4 ↑4
theorem a4i(h:↑57)(b:Bool)(x:Hd){R:Hp->Prop}{k:Str}{v:V}(hs:x.se=(s.h b).se)(hp:x.ps=(s.h b).ps)(e:b6y (kvH (s.h b) ↑103 (a (if b then 7 else 8))) (.inr k) v=kvH x ↑103 (a (if b then 7 else 8)))(q:∀H',OWx H' a (s.setH b x) ks bs ts->R H'):∃a' H',V.ref (a (ha b))=.ref a'/\DPut H a' (.str k) v H'/\R H' :=
 ⟨_,_,rfl,DPut.k (k:=.inr k) (h.hd b) (by show 8<sizeLine;decide),q _ (by rw[e];exact h.stage b x hs hp)⟩
theorem OWx.parts(h:↑57){l:Addr}(hl:H l=none):OWx (upd (upd H l (.lst [])) (a 4) (.dK (b6y (kvH s.t (a 6) (a 8)) (.inr "parts") (.ref l)))) (λj=>if j=8 then l else a j) { s with t:={ s.t with ps:=[] } } ks bs ts:=by
 have na:∀j,j<12->a j≠l:=λj hj z=>by have:=h.ob j hj;rw[z,hl] at this;cases this
 have nr:∀{p:Addr}{o:HO},H p=some o->p≠l:=λe z=>by rw[z,hl] at e;cases e
 have rows:∀{ps:List Addr}{os:List ↑28},RwO H a ps os->RwO (upd (upd H l (.lst [])) (a 4) (.dK (b6y (kvH s.t (a 6) (a 8)) (.inr "parts") (.ref l)))) (λj=>if j=8 then l else a j) ps os:=λr=>⟨r.1,λi p o hp ho=>by
  obtain⟨r1,r2⟩:=r.2 i p o hp ho;refine⟨λj hj=>?_,by rw[d8 (r1 4 ↑4),d8 (nr r2)];exact r2⟩
  dsimp only;split
  ·exact nr r2
  ·exact r1 j hj⟩
 refine⟨λi j hi hj n=>?_,λk hk=>?_,rows h.rk,rows h.rb,h.rt.1,λi p t hp ht=>?_⟩
 ·show(if i=8 then l else a i)≠(if j=8 then l else a j)
  split <;> split
  ·lia
  ·exact(na j hj).symm
  ·exact na i hi
  ·exact h.inj i j hi hj n
 ·dsimp only
  by_cases e8:k=8
  ·subst e8;rw[if_pos rfl,d8 (na 4 ↑4).symm,d9];rfl
  rw[if_neg e8];by_cases e4:k=4
  ·subst e4;rw[d9];rfl
  rw[d8 (h.inj k 4 hk ↑4 e4),d8 (na k hk),h.ob k hk];have:k=0\/k=1\/k=2\/k=3\/k=5\/k=6\/k=7\/k=9\/k=10\/k=11:=by lia
  rcases this with rfl|rfl|rfl|rfl|rfl|rfl|rfl|rfl|rfl|rfl <;> rfl
 ·have e:=h.rt.2 i p t hp ht
  rw[d8,d8 (nr e)]
  ·exact e
  ·intro z;rw[z,h.et] at e;cases e
end
noncomputable def c6o(s:Ow)(sp fi:Int):Ow :=
 if fi=sp then { s with t:={ s.t with st:="look",sp:=.int ((sp+1) % (2*s.n)),ps:=[],fi:=.int ((fi+1) % (2*s.n)) } }
 else { s with t:={ s.t with st:="free",fi:=.int ((fi+1) % (2*s.n)) } }
noncomputable def b9c(s:Ow)(sp fi:Int):Stg->Ow
 | .free=>{ n5 s false (4*(fi % s.n).toNat) (some (2*(fi / s.n))) with t:={ s.t with st:="card" } }
 | .card=>if s.c.getD (4*s.n) 0=(fi+s.n) % (2*s.n) then { n5 s false (4*s.n) none with t:={ s.t with st:="ring" } } else c6o (n5 s false (4*s.n) none) sp fi
 | _=>c6o (n5 s false (4*s.n+2) (some 1)) sp fi
def b5y:Sp:=λvs H Q _=>E5 λ(a:Nat->Addr)(s:Ow)(sp fi:Int)(x:Stg)=>vs=[.ref (a 0)]/\OW H a s/\Fit s false sp/\s.t.fi=.int fi/\0<=fi/\fi<2*s.n/\(x=.free\/x=.card\/x=.ring)/\s.t.st=y9 x/\∀H' a' s',a' 0=a 0->OW H' a' s'->s'=b9c s sp fi x->Q .non H'
set_option hygiene false in
abbrev b1t:Stmt:=top 118
theorem a3s:i8 ["lane","hand","size","stage","due"] ["lane"] (g9 b1t):=↑1
theorem c5u(D:DefT K mg "_law_frees" b1t ["lane"])(T:↑14)(G_law_touch:↑36):↑901 "_law_frees" 2 ["lane"] b5y:=by
 refine D.fn a3s ↑8 ↑7
 ·obtain⟨a,⟨n,c,g,⟨st,spv,fiv,se,at_,pa,ps,le⟩,os,bk,tr⟩,sp,fi,x,rfl,ow,ft,ef,f0,f1,hx,es,k⟩:=h
  obtain rfl:fiv=.int fi:=ef;obtain rfl:spv=.int sp:=ft.es;obtain rfl:st=y9 x:=es;refine⟨_,(
        d6 (l9 (i:=1) a3s.nd rfl ↑22 (a0c ↑19 ↑10 i4 ↑11))
   (d6 (l9 (i:=2) a3s.nd rfl ↑22 ↑10)
   (d6 (l9 (i:=3) a3s.nd rfl ↑22 ↑9)
   (d6 (l9 (i:=4) a3s.nd rfl ↑22 (k7 a0l (k7 v3 ↑9 (pu 2)) ↑86))
   (d7 (
        x0 (l7 a0m (pu 3) m4 ↑43)
    (
     d6 (j9 (m3 G_law_touch hr ↑4 rfl j4 (d5 (pu 0) (d5 i4 (d5 (k7 a0p i4 (k7 a0l ↑9 (pu 2))) (d5 (k7 a0p i4 (k7 a2t ↑9 (pu 2))) i9))))))
     (d7 ↑17))
    (d7 (x0 (PW.pt (c4y (l7 a0m (pu 3) m4 ↑43) (b8k (l7 a0m (m3 G_law_touch hr ↑4 rfl j4 (d5 (pu 0) (d5 i4 (d5 ↑86 ↑145)))) (pu 4) ↑43))))
      (d7 ↑17)
      (
      d6 (x0 (l7 a0m (pu 3) m4 ↑43)
        (d7 (j9 (m3 G_law_touch hr ↑4 rfl j4 (d5 (pu 0) (d5 i4 (d5 (k7 v3 ↑86 i4) ↑25))))))
        v6)
      (d6 ↑17
      (d6 (x0 (l7 a0m ↑9 ↑9 ↑43)
        (
        d6 ↑17
        (d6 (a0d ↑23 (pu 1) m4 (k7 a0l (k7 v3 ↑9 i4) ↑86) rfl)
        (d7 (a0d ↑23 (pu 1) m4 (v5 i9) rfl))))
        v6)
      (d7 (a0d ↑23 (pu 1) m4 (k7 a0l (k7 v3 ↑9 i4) ↑86) rfl))))))))))))),?_⟩
  fail "ar";have e0:H (a 0)=some (.dK (kvO n a)):=owx.e0;have e2:=owx.hs;have et:H (a 4)=some (.dK (kvQ (y9 x) (.int sp) (.int fi) at_ pa le (a 6) (a 8))):=owx.et;have n2:2<=n:=ft.n2;have n8:n<=8:=ft.n8;have lc:c.length=4*n+4:=ft.lc;have lt:tr.length<=4000000:=ft.lt;have f0:0<=fi:=f0;have f1:fi<2*n:=f1;have m0:=Int.emod_nonneg fi (show(n:Int)≠0 by lia)
  have m1:=Int.emod_lt_of_pos fi (show(0:Int)<n by lia)
  fail "";rcases hx with rfl|rfl|rfl
  ·walk_at "st"
   fail "";refine⟨a,_,false,4*(fi % n).toNat,some (2*(fi / n)),?_,ow,?_,?_,lt,λH1 h1 _=>?_⟩
   ·rw[show((4*(fi % n).toNat:Nat):Int)=4*(fi % (n:Int)) by lia]
    rfl
   ·show _<c.length;lia
   ·show c.length<=_;lia
   fail "at";fail "";exact a4i x1 false ⟨"card",.int sp,.int fi,se,at_,pa,ps,le⟩ rfl rfl rfl λH2 x2=>k H2 a _ rfl ⟨_,_,_,x2⟩ rfl
  ·walk_at "st"
   fail "";walk_at "st";fail "";refine⟨a,_,false,4*n,none,by push_cast;rfl,ow,(by show _<c.length;lia),(by show c.length<=_;lia),lt,λH1 h1 _=>?_⟩
   fail "at";fail "";rw[a5a];fail "y"
   ·fail ""
    exact a4i x1 false ⟨"ring",.int sp,.int fi,se,at_,pa,ps,le⟩ rfl rfl rfl λH2 x2=>k H2 a _ rfl ⟨_,_,_,x2⟩ (if_pos y).symm
   ·have eF:b9c ⟨n,c,g,⟨y9 .card,.int sp,.int fi,se,at_,pa,ps,le⟩,os,bk,tr⟩ sp fi .card=c6o _ sp fi:=if_neg y
    fail "";walk_at "st"
    (fail "");(refine a4i x1 false ⟨"free",.int sp,.int fi,se,at_,pa,ps,le⟩ rfl rfl rfl λH2 x2=>?_)
    (have et2:H2 (a 4)=some (.dK (kvQ "free" (.int sp) (.int fi) at_ pa le (a 6) (a 8))):=x2.et)
    (fail "");(rw[a5a])
    fail "y"
    ·(fail "")
     refine a4i x2 false ⟨"look",.int sp,.int fi,se,at_,pa,ps,le⟩ rfl rfl rfl λH3 x3=>?_
     (have et3:H3 (a 4)=some (.dK (kvQ "look" (.int sp) (.int fi) at_ pa le (a 6) (a 8))):=x3.et)
     (fail "")
     refine a4i x3 false ⟨"look",.int ↑99,.int fi,se,at_,pa,ps,le⟩ rfl rfl rfl λH4 x4=>?_
     (fail "")
     refine⟨Nat.zero_le _,λl hl=>?_⟩;have x5:OWx (upd (upd H4 l (.lst [])) (a 4) (.dK (b6y (kvH ⟨"look",.int ↑99,.int fi,se,at_,pa,ps,le⟩ (a 6) (a 8)) (.inr "parts") (.ref l)))) (λj=>if j=8 then l else a j) _ _ _ _:=x4.parts hl
     (have et4:H4 (a 4)=some (.dK (kvH ⟨"look",.int ↑99,.int fi,se,at_,pa,ps,le⟩ (a 6) (a 8))):=x4.et)
     (fail "")
     refine⟨_,_,rfl,DPut.k (k:=.inr "parts") (j1 hl _ _ et4) (by show 8<sizeLine;decide),?_⟩
     have et5:_=some (HO.dK (kvQ "look" (.int ↑99) (.int fi) at_ pa le (a 6) l)):=x5.et
     revert x5 et5
     generalize upd (upd H4 l _) (a 4) _=H5;intro x5 et5;obtain⟨a2,ea2⟩:∃a2,a2=λj=>if j=8 then l else a j:=⟨_,rfl⟩
     (have e20:a2 0=a 0:=by rw[ea2];rfl);(have e24:a 4=a2 4:=by rw[ea2];rfl)
     rw[<- ea2] at x5;rw[e24];rw[e24] at et5
     (fail "")
     exact a4i x5 false ⟨"look",.int ↑99,.int ((fi+1) % (2*n)),se,at_,pa,[],le⟩ rfl rfl rfl λH6 x6=>k H6 a2 _ e20 ⟨_,_,_,x6⟩ (eF.trans (if_pos y)).symm
    ·(fail "")
     exact a4i x2 false ⟨"free",.int sp,.int ((fi+1) % (2*n)),se,at_,pa,ps,le⟩ rfl rfl rfl λH4 x4=>k H4 a _ rfl ⟨_,_,_,x4⟩ (eF.trans (if_neg y)).symm
  ·walk_at "st"
   fail "";walk_at "st";fail "";walk_at "st";fail "";refine⟨a,_,false,4*n+2,some 1,by push_cast;rfl,ow,(by show _<c.length;lia),(by show c.length<=_;lia),lt,λH1 h1 _=>?_⟩
   fail "at";have eF:b9c ⟨n,c,g,⟨y9 .ring,.int sp,.int fi,se,at_,pa,ps,le⟩,os,bk,tr⟩ sp fi .ring=c6o _ sp fi:=rfl
   (fail "");(refine a4i x1 false ⟨"free",.int sp,.int fi,se,at_,pa,ps,le⟩ rfl rfl rfl λH2 x2=>?_)
   (have et2:H2 (a 4)=some (.dK (kvQ "free" (.int sp) (.int fi) at_ pa le (a 6) (a 8))):=x2.et)
   (fail "");(rw[a5a])
   fail "y"
   ·(fail "")
    refine a4i x2 false ⟨"look",.int sp,.int fi,se,at_,pa,ps,le⟩ rfl rfl rfl λH3 x3=>?_
    (have et3:H3 (a 4)=some (.dK (kvQ "look" (.int sp) (.int fi) at_ pa le (a 6) (a 8))):=x3.et)
    (fail "")
    refine a4i x3 false ⟨"look",.int ↑99,.int fi,se,at_,pa,ps,le⟩ rfl rfl rfl λH4 x4=>?_
    (fail "")
    refine⟨Nat.zero_le _,λl hl=>?_⟩;have x5:OWx (upd (upd H4 l (.lst [])) (a 4) (.dK (b6y (kvH ⟨"look",.int ↑99,.int fi,se,at_,pa,ps,le⟩ (a 6) (a 8)) (.inr "parts") (.ref l)))) (λj=>if j=8 then l else a j) _ _ _ _:=x4.parts hl
    (have et4:H4 (a 4)=some (.dK (kvH ⟨"look",.int ↑99,.int fi,se,at_,pa,ps,le⟩ (a 6) (a 8))):=x4.et)
    (fail "")
    refine⟨_,_,rfl,DPut.k (k:=.inr "parts") (j1 hl _ _ et4) (by show 8<sizeLine;decide),?_⟩
    have et5:_=some (HO.dK (kvQ "look" (.int ↑99) (.int fi) at_ pa le (a 6) l)):=x5.et
    revert x5 et5
    generalize upd (upd H4 l _) (a 4) _=H5;intro x5 et5;obtain⟨a2,ea2⟩:∃a2,a2=λj=>if j=8 then l else a j:=⟨_,rfl⟩
    (have e20:a2 0=a 0:=by rw[ea2];rfl);(have e24:a 4=a2 4:=by rw[ea2];rfl)
    rw[<- ea2] at x5;rw[e24];rw[e24] at et5
    (fail "")
    exact a4i x5 false ⟨"look",.int ↑99,.int ((fi+1) % (2*n)),se,at_,pa,[],le⟩ rfl rfl rfl λH6 x6=>k H6 a2 _ e20 ⟨_,_,_,x6⟩ (eF.trans (if_pos y)).symm
   ·(fail "")
    exact a4i x2 false ⟨"free",.int sp,.int ((fi+1) % (2*n)),se,at_,pa,ps,le⟩ rfl rfl rfl λH4 x4=>k H4 a _ rfl ⟨_,_,_,x4⟩ (eF.trans (if_neg y)).symm
set_option hygiene false in
local macro_rules | `(tactic| walk_at "gb")=>`(tactic| first|walk_at "ga"|((with_reducible refine' c7f ?h ?v ?_);(case h=>assumption);(case v=>exact rfl)))
local macro_rules | `(tactic| walk_at "gc")=>`(tactic| first|walk_at "gb"|((with_reducible refine' g_I ?h ?_);(case h=>exact⟨by lia,e0y _ ↑2 ↑2⟩)))
local macro_rules | `(tactic| walk_at "go1")=>`(tactic| walk_at "gc")
noncomputable def d4s(s:Ow)(sp:Int):Ow :=
 if s.g.pa+1=((s.os.getD s.g.at_.toNat []).length:Int) then { s with g:={ s.g with st:="look",sp:=.int ((sp+1) % (2*s.n)),at_:=s.g.at_+1,pa:=0 } }
 else { s with g:={ s.g with st:="look",sp:=.int ((sp+1) % (2*s.n)),pa:=s.g.pa+1 } }
noncomputable def b9a(s:Ow)(sp:Int)(x:Stg):Ow :=
 let h:=4*(sp % s.n).toNat
 let o:=s.os.getD s.g.at_.toNat []
 match x with
 | .look=>{ n5 s true h none with g:={ s.g with st:=y9 (if c3h s.n true sp (s.c.getD h 0) then .number else .wish) } }
 | .number=>{ n5 s true (h+1) (some s.g.at_) with g:={ s.g with st:="left" } }
 | .left=>{ n5 s true (h+2) (some ((o.length:Int)-1-s.g.pa)) with g:={ s.g with st:="thing" } }
 | .thing=>{ n5 s true (h+3) (some (o.getD s.g.pa.toNat 0)) with g:={ s.g with st:="mark" } }
 | .mark=>{ n5 s true h (some (2*(sp / s.n)+1)) with g:={ s.g with st:="card" } }
 | .card=>if s.c.getD (4*s.n+1) 0=sp then { n5 s true (4*s.n+1) none with g:={ s.g with st:="ring" } } else d4s (n5 s true (4*s.n+1) none) sp
 | _=>d4s (n5 s true (4*s.n+3) (some 1)) sp
def b7m:Sp:=λvs H Q _=>E4 λ(a:Nat->Addr)(s:Ow)(sp:Int)(x:Stg)=>vs=[.ref (a 0)]/\OW H a s/\Fit s true sp/\(x=.look\/x=.number\/x=.left\/x=.thing\/x=.mark\/x=.card\/x=.ring)/\s.g.st=y9 x/\0<=s.g.at_/\s.g.at_<s.os.length/\(x=.thing->0<=s.g.pa/\s.g.pa<(s.os.getD s.g.at_.toNat []).length)/\∀H' s',OW H' a s'->s'=b9a s sp x->Q .non H'
set_option hygiene false in
theorem d4u{H:Hp}{a:Nat->Addr}{s:Ow}{ks bs ts:List Addr}(h:↑57){q:Addr}{o:HO}(nq:∀j,j<12->q≠a j)(eq:H q=some o)(b:Bool)(x:Hd){R:Hp->Prop}{k:Str}{v:V}(hs:x.se=(s.h b).se)(hp:x.ps=(s.h b).ps)(e:b6y (kvH (s.h b) ↑103 (a (if b then 7 else 8))) (.inr k) v=kvH x ↑103 (a (if b then 7 else 8)))(r:∀H',OWx H' a (s.setH b x) ks bs ts->H' q=some o->R H'):∃a' H',V.ref (a (ha b))=.ref a'/\DPut H a' (.str k) v H'/\R H' :=
 ⟨_,_,rfl,DPut.k (k:=.inr k) (h.hd b) (by show 8<sizeLine;decide),r _ (by rw[e];exact h.stage b x hs hp) (by rw[d8 (nq _ (by cases b <;> decide))];exact eq)⟩
theorem OWx.row{H:Hp}{a:Nat->Addr}{s:Ow}{ks bs ts:List Addr}{i:Int}{q:Addr}(h:↑57)(hq:ks[i.toNat]?=some q)(h0:0<=i)(h1:i<(s.os.length:Int)):(∀j,j<12->q≠a j)/\H q=some (.lst ((s.os.getD i.toNat []).map V.int)) :=
 h.rk.2 i.toNat q _ hq (by rw[List.getD_eq_getElem?_getD,List.getElem?_eq_getElem ↑2];rfl)
abbrev b4x:Stmt:=top 116
theorem a1x:i8 ["lane","hand","size","here","order","stage","mark"] ["lane"] (g9 b4x):=↑1
theorem c8j(
           D:DefT K mg "_law_give" b4x ["lane"])(T:↑14)(G_law_touch:↑36)(G_law_lets:↑901 "_law_lets" 1 ["lane","who","mark"] a6v):↑901 "_law_give" 2 ["lane"] b7m:=by
 refine D.fn a1x ↑8 ↑7
 ·obtain⟨a,⟨n,c,⟨st,spv,fiv,se,at_,pa,ps,le⟩,t,os,bk,tr⟩,sp,x,rfl,ow,ft,hx,es,hi0,hi1,hp,k⟩:=h
  obtain rfl:spv=.int sp:=ft.es;obtain rfl:st=y9 x:=es;refine⟨_,(d6 (
             l9 (i:=1) a1x.nd rfl ↑22 (a0c ↑19 ↑10 i4 ↑11))
   (d6 (l9 (i:=2) a1x.nd rfl ↑22 ↑10)
   (d6 (l9 (i:=3) a1x.nd rfl ↑22 (k7 a0p i4 (k7 a0l ↑9 (pu 2))))
   (d6 (l9 (i:=4) a1x.nd rfl ↑22 (a0c ↑19 ↑10 ↑9 ↑11))
   (d6 (l9 (i:=5) a1x.nd rfl ↑22 ↑9)
   (d7 (x0 (
            l7 a0m (pu 5) m4 ↑43)
    (
     d6 (l9 (i:=6) a1x.nd rfl ↑22 (m3 G_law_touch hr ↑4 rfl j4 (d5 (pu 0) (d5 i4 (d5 (pu 3) ↑145)))))
     (d7 (a0d ↑23 (pu 1) m4 (a0c ↑19 (v5 ↑18) (v2 a6q (by rfl) T.z_int PyProof.Rows.boot_int (d5 (m3 G_law_lets hr ↑4 rfl j4 (d5 (pu 0) (d5 i4 (d5 (pu 6) i9)))) i9)) ↑11) rfl)))
    (d7 (
         x0 (l7 a0m (pu 5) m4 ↑43)
      (
      d6 (j9 (m3 G_law_touch hr ↑4 rfl j4 (d5 (pu 0) (d5 i4 (d5 (k7 v3 (pu 3) i4) (d5 ↑9 i9))))))
      (d7 ↑17))
      (d7 (
           x0 (l7 a0m (pu 5) m4 ↑43)
       (
        d6 (j9 (m3 G_law_touch hr ↑4 rfl j4 (d5 (pu 0) (d5 i4 (d5 (k7 v3 (pu 3) i4) (d5 (k7 a2g (k7 a2g (v7 ↑42 (by rfl) T.z_len PySem.boot_len (d5 (pu 4) i9)) i4) ↑9) i9))))))
        (d7 ↑17))
       (d7 (
            x0 (l7 a0m (pu 5) m4 ↑43)
         (
         d6 (j9 (m3 G_law_touch hr ↑4 rfl j4 (d5 (pu 0) (d5 i4 (d5 (k7 v3 (pu 3) i4) (d5 (a0c ↑19 (pu 4) ↑9 ↑11) i9))))))
         (d7 ↑17))
         (d7 (
              x0 (l7 a0m (pu 5) m4 ↑43)
          (
           d6 (j9 (m3 G_law_touch hr ↑4 rfl j4 (d5 (pu 0) (d5 i4 (d5 (pu 3) (d5 (k7 v3 (k7 a0p i4 (k7 a2t ↑9 (pu 2))) i4) i9))))))
           (d7 ↑17))
          (d7 (x0 (PW.pt (c4y (l7 a0m (pu 5) m4 ↑43) (b8k (l7 a0m (m3 G_law_touch hr ↑4 rfl j4 (d5 (pu 0) (d5 i4 (d5 (k7 v3 ↑86 i4) ↑145)))) ↑9 ↑43))))
            (d7 ↑17)
            (
            d6 (x0 (l7 a0m (pu 5) m4 ↑43)
              (d7 (j9 (m3 G_law_touch hr ↑4 rfl j4 (d5 (pu 0) (d5 i4 (d5 (k7 v3 ↑86 i4) ↑25))))))
              v6)
            (d6 ↑17
            (d6 (a0d ↑23 (pu 1) m4 (k7 a0l (k7 v3 ↑9 i4) ↑86) rfl)
            (d6 (a0d ↑23 (pu 1) m4 (k7 v3 ↑9 i4) rfl)
            (d7 (x0 (l7 a0m ↑9 (v7 ↑42 (by rfl) T.z_len PySem.boot_len (d5 (pu 4) i9)) ↑43)
             (
              d6 (a0d ↑23 (pu 1) m4 (k7 v3 ↑9 i4) rfl)
              (d7 (a0d ↑23 (pu 1) m4 i4 rfl)))
             v6))))))))))))))))))))))),?_⟩
  fail "ar";have e0:H (a 0)=some (.dK (kvO n a)):=owx.e0;have e2:=owx.hs;have eg:H (a 3)=some (.dK (kvQ (y9 x) (.int sp) fiv at_ pa le (a 5) (a 7))):=owx.eg;have e9:H (a 9)=some (.lst (ks.map V.ref)):=owx.ob 9 ↑4;have n2:2<=n:=ft.n2;have n8:n<=8:=ft.n8;have lc:c.length=4*n+4:=ft.lc;have lt:tr.length<=4000000:=ft.lt;have hi0:0<=at_:=hi0;have hi1:at_<os.length:=hi1;have m0:=Int.emod_nonneg sp (show(n:Int)≠0 by lia)
  have m1:=Int.emod_lt_of_pos sp (show(0:Int)<n by lia)
  have lk:ks.length=os.length:=owx.rk.1;obtain⟨q,hq⟩:∃q,ks[at_.toNat]?=some q:=⟨_,List.getElem?_eq_getElem ↑2⟩;obtain⟨nq,eq⟩:=owx.row hq hi0 hi1;have eq:H q=some (.lst ((os.getD at_.toNat []).map V.int)):=eq;have hat:atI (ks.map V.ref) at_=some (.ref q):=by
   unfold atI ixN;rw[if_pos hi0,if_pos (by rw[List.length_map];lia)]
   show(ks.map V.ref)[at_.toNat]?=_;rw[List.getElem?_map,hq]
   rfl
  fail "";refine a1c e9 hat ?_;have tch:∀(j:Nat)(v:Option Int)(R:V->Hp->Prop),j<4*n+4->(∀H1 k1 b1 t1,OWx H1 a (n5 ⟨n,c,⟨y9 x,.int sp,fiv,se,at_,pa,ps,le⟩,t,os,bk,tr⟩ true j v) k1 b1 t1->H1 q=some (.lst ((os.getD at_.toNat []).map V.int))->R (.int ((n5 ⟨n,c,⟨y9 x,.int sp,fiv,se,at_,pa,ps,le⟩,t,os,bk,tr⟩ true j v).c.getD j 0)) H1)->a2e [.ref (a 0),.int 0,.int (j:Nat),vO v] H R E:=λj v R hj fn=>⟨a,_,true,j,v,rfl,ow,(by show _<c.length;lia),(by show c.length<=_;lia),lt,λH1 h1 kp=>by
   fail "at";exact fn H1 k1 b1 t1 x1 (kp _ _ eq nq)⟩
  have eh:((4*(sp % n).toNat:Nat):Int)=4*(sp % (n:Int)):=by lia
  rcases hx with rfl|rfl|rfl|rfl|rfl|rfl|rfl
  ·walk_at "st"
   fail "";rw[<- eh];refine tch _ none _ ↑2 λH1 k1 b1 t1 x1 eq1=>?_;fail "ab";fail "";refine⟨a,_,true,_,sp,rfl,⟨k1,b1,t1,x1.same s2⟩,rfl,n2,n8,ft.s0,ft.s1,λH3 s3 h3=>.inr ↑112⟩;obtain⟨k3,b3,t3,x3⟩:=h3;refine a1c (v:=.str (y9 (if c3h n true sp ↑90 then .number else .wish))) (s3 _ _ f2) (by show atI _ (if c3h n true sp ↑90=true then 1 else 0)=_;cases c3h n true sp ↑90 <;> rfl) ?_
   fail "";exact a4i x3 true ⟨y9 (if c3h n true sp ↑90 then .number else .wish),.int sp,fiv,se,at_,pa,ps,le⟩ rfl rfl rfl λH4 x4=>k H4 _ ⟨_,_,_,x4⟩ rfl
  ·walk_at "st"
   walk_at "st";fail "";rw[<- eh];refine tch (4*(sp % n).toNat+1) (some at_) _ ↑2 λH1 k1 b1 t1 x1 eq1=>?_;fail "";exact a4i x1 true ⟨"left",.int sp,fiv,se,at_,pa,ps,le⟩ rfl rfl rfl λH4 x4=>k H4 _ ⟨_,_,_,x4⟩ rfl
  ·walk_at "st"
   fail "ai";rw[<- eh,List.length_map];refine tch (4*(sp % n).toNat+2) (some (((os.getD at_.toNat []).length:Int)-1-pa)) _ ↑2 λH1 k1 b1 t1 x1 eq1=>?_;fail "";exact a4i x1 true ⟨"thing",.int sp,fiv,se,at_,pa,ps,le⟩ rfl rfl rfl λH4 x4=>k H4 _ ⟨_,_,_,x4⟩ rfl
  ·obtain⟨p0,p1⟩:=hp rfl
   have p0:0<=pa:=p0;have p1:pa<(os.getD at_.toNat []).length:=p1;walk_at "st";walk_at "st";fail "ai";refine a1c eq (c7d p0 p1) ?_;fail "";rw[<- eh];refine tch ↑106 (some ((os.getD at_.toNat []).getD pa.toNat 0)) _ ↑2 λH1 k1 b1 t1 x1 eq1=>?_;fail "";exact a4i x1 true ⟨"mark",.int sp,fiv,se,at_,pa,ps,le⟩ rfl rfl rfl λH4 x4=>k H4 _ ⟨_,_,_,x4⟩ rfl
  ·walk_at "st"
   walk_at "st";walk_at "st";fail "ai";rw[<- eh];refine tch (4*(sp % n).toNat) (some (2*(sp / n)+1)) _ ↑2 λH1 k1 b1 t1 x1 eq1=>?_;fail "";exact a4i x1 true ⟨"card",.int sp,fiv,se,at_,pa,ps,le⟩ rfl rfl rfl λH4 x4=>k H4 _ ⟨_,_,_,x4⟩ rfl
  ·walk_at "st"
   walk_at "st";walk_at "st";walk_at "st";fail "ai";refine tch (4*n+1) none _ ↑2 λH1 k1 b1 t1 x1 eq1=>?_;have eg1:H1 (a 3)=some (.dK (kvQ (y9 .card) (.int sp) fiv at_ pa le (a 5) (a 7))):=x1.eg;fail "";rw[a5a];fail "y"
   ·fail ""
    exact a4i x1 true ⟨"ring",.int sp,fiv,se,at_,pa,ps,le⟩ rfl rfl rfl λH2 x2=>k H2 _ ⟨_,_,_,x2⟩ (if_pos y).symm
   ·have eF:b9a ⟨n,c,⟨y9 .card,.int sp,fiv,se,at_,pa,ps,le⟩,t,os,bk,tr⟩ sp .card=d4s _ sp:=if_neg y
    walk_at "st"
    (fail "");(refine d4u x1 nq eq1 true ⟨"look",.int sp,fiv,se,at_,pa,ps,le⟩ rfl rfl rfl λH2 x2 eq2=>?_)
    (have eg2:H2 (a 3)=some (.dK (kvQ "look" (.int sp) fiv at_ pa le (a 5) (a 7))):=x2.eg)
    (fail "")
    (refine d4u x2 nq eq2 true ⟨"look",.int ↑99,fiv,se,at_,pa,ps,le⟩ rfl rfl rfl λH3 x3 eq3=>?_)
    (have eg3:H3 (a 3)=some (.dK (kvQ "look" (.int ↑99) fiv at_ pa le (a 5) (a 7))):=x3.eg)
    (fail "")
    (refine d4u x3 nq eq3 true ⟨"look",.int ↑99,fiv,se,at_,pa+1,ps,le⟩ rfl rfl rfl λH4 x4 eq4=>?_)
    (have eg4:H4 (a 3)=some (.dK (kvQ "look" (.int ↑99) fiv at_ (pa+1) le (a 5) (a 7))):=x4.eg)
    (fail "")
    rw[a5a,List.length_map];refine a4j (λy2=>?_) (λy2=>?_)
    ·(fail "")
     (refine a4i x4 true ⟨"look",.int ↑99,fiv,se,at_+1,pa+1,ps,le⟩ rfl rfl rfl λH5 x5=>?_)
     (fail "")
     exact a4i x5 true ⟨"look",.int ↑99,fiv,se,at_+1,0,ps,le⟩ rfl rfl rfl λH6 x6=>k H6 _ ⟨_,_,_,x6⟩ (eF.trans (if_pos y2)).symm
    ·(fail "")
     exact k H4 _ ⟨_,_,_,x4⟩ (eF.trans (if_neg y2)).symm
  ·walk_at "st"
   walk_at "st";walk_at "st";walk_at "st";walk_at "st";fail "ai";refine tch (4*n+3) (some 1) _ ↑2 λH1 k1 b1 t1 x1 eq1=>?_;have eg1:H1 (a 3)=some (.dK (kvQ (y9 .ring) (.int sp) fiv at_ pa le (a 5) (a 7))):=x1.eg;have eF:b9a ⟨n,c,⟨y9 .ring,.int sp,fiv,se,at_,pa,ps,le⟩,t,os,bk,tr⟩ sp .ring=d4s _ sp:=rfl
   (fail "");(refine d4u x1 nq eq1 true ⟨"look",.int sp,fiv,se,at_,pa,ps,le⟩ rfl rfl rfl λH2 x2 eq2=>?_)
   (have eg2:H2 (a 3)=some (.dK (kvQ "look" (.int sp) fiv at_ pa le (a 5) (a 7))):=x2.eg)
   (fail "")
   (refine d4u x2 nq eq2 true ⟨"look",.int ↑99,fiv,se,at_,pa,ps,le⟩ rfl rfl rfl λH3 x3 eq3=>?_)
   (have eg3:H3 (a 3)=some (.dK (kvQ "look" (.int ↑99) fiv at_ pa le (a 5) (a 7))):=x3.eg)
   (fail "")
   (refine d4u x3 nq eq3 true ⟨"look",.int ↑99,fiv,se,at_,pa+1,ps,le⟩ rfl rfl rfl λH4 x4 eq4=>?_)
   (have eg4:H4 (a 3)=some (.dK (kvQ "look" (.int ↑99) fiv at_ (pa+1) le (a 5) (a 7))):=x4.eg)
   (fail "")
   rw[a5a,List.length_map];refine a4j (λy2=>?_) (λy2=>?_)
   ·(fail "")
    (refine a4i x4 true ⟨"look",.int ↑99,fiv,se,at_+1,pa+1,ps,le⟩ rfl rfl rfl λH5 x5=>?_)
    (fail "")
    exact a4i x5 true ⟨"look",.int ↑99,fiv,se,at_+1,0,ps,le⟩ rfl rfl rfl λH6 x6=>k H6 _ ⟨_,_,_,x6⟩ (eF.trans (if_pos y2)).symm
   ·(fail "")
    exact k H4 _ ⟨_,_,_,x4⟩ (eF.trans (if_neg y2)).symm
set_option hygiene false in
section
variable{H:Hp}{a:Nat->Addr}{s:Ow}{ks bs ts:List Addr}
theorem OWx.pushP(h:↑57)(v:Int):OWx (upd H (a 8) (.lst (s.t.ps.map V.int++[.int v]))) a { s with t:={ s.t with ps:=s.t.ps++[v] } } ks bs ts:=by
 refine h.set (s':={ s with t:={ s.t with ps:=s.t.ps++[v] } }) (k:=8) (by decide) (λj hj z=>?_) rfl rfl rfl (by show _=HO.lst ((s.t.ps++[v]).map V.int);rw[List.map_append];rfl)
 have:j=0\/j=1\/j=2\/j=3\/j=4\/j=5\/j=6\/j=7\/j=9\/j=10\/j=11:=by lia
 fail "v"
theorem RwO.push{ps:List Addr}{os:List ↑28}{p:Addr}{o:List Int}{k:Nat}(hk:k<12){u:HO}(h:RwO H a ps os)(hp:H p=some ↑53)(np:∀j,j<12->p≠a j):RwO (upd H (a k) u) a (ps++[p]) (os++[o]):=by
 refine⟨by rw[List.length_append,List.length_append,h.1];rfl,λi q r hq hr=>?_⟩
 by_cases z:i<ps.length
 ·rw[List.getElem?_append_left z] at hq
  rw[List.getElem?_append_left (by rw[<- h.1];exact z)] at hr
  obtain⟨r1,r2⟩:=h.2 i q r hq hr;exact⟨r1,by rw[d8 (r1 k hk)];exact r2⟩
 ·rw[List.getElem?_append_right ↑2] at hq
  have e:i=ps.length:=by
   by_cases y:i-ps.length=0
   ·lia
   ·rw[List.getElem?_eq_none (by simp;lia)] at hq;cases hq
  subst e;rw[Nat.sub_self] at hq;rw[List.getElem?_append_right (by rw[h.1];exact Nat.le_refl _),h.1,Nat.sub_self] at hr
  cases hq;cases hr;exact⟨np,by rw[d8 (np k hk)];exact hp⟩
theorem RwO.off{ps:List Addr}{os:List ↑28}{k:Nat}(hk:k<12){u:HO}(h:RwO H a ps os):RwO (upd H (a k) u) a ps os:=⟨h.1,λi q r hq hr=>by
 obtain⟨r1,r2⟩:=h.2 i q r hq hr;exact⟨r1,by rw[d8 (r1 k hk)];exact r2⟩⟩
theorem OWx.pushR(h:↑57)(b:Bool){p:Addr}{o:List Int}(hp:H p=some ↑53)(np:∀j,j<12->p≠a j):OWx (upd H (a (if b then 9 else 10)) (.lst ((if b then ks else bs).map V.ref++[.ref p]))) a (if b then { s with os:=s.os++[o] } else { s with bk:=s.bk++[o] }) (if b then ks++[p] else ks) (if b then bs else bs++[p]) ts:=by
 have rt:∀k u,k<12->TrO (upd H (a k) u) ts s.tr:=λk u hk=>⟨h.rt.1,λi p t hp ht=>by
  have e:=h.rt.2 i p t hp ht;rw[d8]
  ·exact e
  ·rintro rfl
   have:=d3y s a ks bs ts k;rw[h.ob k hk] at e;injection e with e
   rw[e] at this;exact this⟩
 cases b with
 | true=>
  refine⟨h.inj,λj hj=>?_,h.rk.push ↑4 hp np,h.rb.off ↑4,rt 9 _ ↑4⟩;by_cases z:j=9
  ·subst z;exact d9.trans (by show _=some (HO.lst ((ks++[p]).map V.ref));rw[List.map_append];rfl)
  ·refine (d8 (h.inj j 9 hj ↑4 z)).trans ((h.ob j hj).trans ?_)
   have:j=0\/j=1\/j=2\/j=3\/j=4\/j=5\/j=6\/j=7\/j=8\/j=10\/j=11:=by lia
   fail "v"
 | false=>
  refine⟨h.inj,λj hj=>?_,h.rk.off ↑4,h.rb.push ↑4 hp np,rt 10 _ ↑4⟩;by_cases z:j=10
  ·subst z;exact d9.trans (by show _=some (HO.lst ((bs++[p]).map V.ref));rw[List.map_append];rfl)
  ·refine (d8 (h.inj j 10 hj ↑4 z)).trans ((h.ob j hj).trans ?_)
   have:j=0\/j=1\/j=2\/j=3\/j=4\/j=5\/j=6\/j=7\/j=8\/j=9\/j=11:=by lia
   fail "v"
end
noncomputable def c0f(s:Ow)(sp:Int)(x:Stg):Ow :=
 let h:=4*(sp % s.n).toNat
 match x with
 | .look=>{ n5 s false h none with t:={ s.t with st:=y9 (if c3h s.n false sp (s.c.getD h 0) then .number else .wish) } }
 | .number=>{ n5 s false (h+1) none with t:={ s.t with at_:=s.c.getD (h+1) 0,st:="left" } }
 | .left=>{ n5 s false (h+2) none with t:={ s.t with le:=s.c.getD (h+2) 0,st:="thing" } }
 | _=>if 0<s.t.le then { n5 s false (h+3) none with t:={ s.t with ps:=s.t.ps++[s.c.getD (h+3) 0],st:="look",sp:=.int ((sp+1) % (2*s.n)) } }
  else if s.t.at_=s.bk.length then { n5 s false (h+3) none with t:={ s.t with ps:=s.t.ps++[s.c.getD (h+3) 0],st:="free" },bk:=s.bk++[s.t.ps++[s.c.getD (h+3) 0]] }
  else { n5 s false (h+3) none with t:={ s.t with ps:=s.t.ps++[s.c.getD (h+3) 0],st:="free" } }
def b5t:Sp:=λvs H Q _=>E4 λ(a:Nat->Addr)(s:Ow)(sp:Int)(x:Stg)=>vs=[.ref (a 0)]/\OW H a s/\Fit s false sp/\(x=.look\/x=.number\/x=.left\/x=.thing)/\s.t.st=y9 x/\s.t.ps.length<=1000/\s.bk.length<=1000/\∀H' s',OW H' a s'->s'=c0f s sp x->Q .non H'
abbrev b1n:Stmt:=top 117
theorem a2f:i8 ["lane","hand","size","here","stage","mark"] ["lane"] (g9 b1n):=↑1
theorem c5n(D:DefT K mg "_law_takes" b1n ["lane"])(T:↑14)(G_law_touch:↑36)(G_law_lets:↑901 "_law_lets" 1 ["lane","who","mark"] a6v):↑901 "_law_takes" 2 ["lane"] b5t:=by
 refine D.fn a2f ↑8 ↑7
 ·obtain⟨a,⟨n,c,g,⟨st,spv,fiv,se,at_,pa,ps,le⟩,os,bk,tr⟩,sp,x,rfl,ow,ft,hx,es,lp,lb,k⟩:=h
  obtain rfl:spv=.int sp:=ft.es;obtain rfl:st=y9 x:=es;refine⟨_,(d6 (l9 (i:=1) a2f.nd rfl ↑22 (a0c ↑19 ↑10 i4 ↑11))
   (d6 (l9 (i:=2) a2f.nd rfl ↑22 ↑10)
   (d6 (l9 (i:=3) a2f.nd rfl ↑22 (k7 a0p i4 (k7 a0l ↑9 (pu 2))))
   (d6 (l9 (i:=4) a2f.nd rfl ↑22 ↑9)
   (d7 (x0 ↑132
    (
     d6 (l9 (i:=5) a2f.nd rfl ↑22 (m3 G_law_touch hr ↑4 rfl j4 (d5 (pu 0) (d5 i4 (d5 (pu 3) ↑145)))))
     (d7 (a0d ↑23 (pu 1) m4 (a0c ↑19 (v5 ↑18) (v2 a6q (by rfl) T.z_int PyProof.Rows.boot_int (d5 (m3 G_law_lets hr ↑4 rfl j4 (d5 (pu 0) (d5 i4 (d5 (pu 5) i9)))) i9)) ↑11) rfl)))
    (d7 (
         x0 ↑132
      (
      d6 (a0d ↑23 (pu 1) m4 (m3 G_law_touch hr ↑4 rfl j4 ↑37) rfl)
      (d7 ↑17))
      (d7 (x0 ↑132
       (
        d6 (a0d ↑23 (pu 1) m4 (m3 G_law_touch hr ↑4 rfl j4 ↑37) rfl)
        (d7 ↑17))
       (
        d6 (j9 (z9 (K:=K) ↑9 (d5 (m3 G_law_touch hr ↑4 rfl j4 ↑37) i9)))
        (d6 ↑17
        (d7 (x0 (l7 c5d ↑9 i4 ↑43)
         (d7 (a0d ↑23 (pu 1) m4 (k7 a0l (k7 v3 ↑9 i4) ↑86) rfl))
         (
         d6 ↑17
         (d7 (x0 (l7 a0m ↑9 (v7 ↑42 (by rfl) T.z_len PySem.boot_len (d5 ↑10 i9)) ↑43)
          (d7 (j9 (z9 (K:=K) ↑10 (d5 (v2 (a4l (K:=K)) (by rfl) T.z_list PyProof.Rows.boot_list (d5 ↑9 i9)) i9))))
          v6))))))))))))))))),?_⟩
  fail "ar";have e0:H (a 0)=some (.dK (kvO n a)):=owx.e0;have e2:=owx.hs;have et:H (a 4)=some (.dK (kvQ (y9 x) (.int sp) fiv at_ pa le (a 6) (a 8))):=owx.et;have n2:2<=n:=ft.n2;have n8:n<=8:=ft.n8;have lc:c.length=4*n+4:=ft.lc;have lt:tr.length<=4000000:=ft.lt;have lp:ps.length<=1000:=lp;have lb:bk.length<=1000:=lb;fail "ah";have m0:=Int.emod_nonneg sp (show(n:Int)≠0 by lia)
  have m1:=Int.emod_lt_of_pos sp (show(0:Int)<n by lia)
  have tch:∀(j:Nat)(R:V->Hp->Prop),j<4*n+4->(∀H1 k1 b1 t1,OWx H1 a (n5 ⟨n,c,g,⟨y9 x,.int sp,fiv,se,at_,pa,ps,le⟩,os,bk,tr⟩ false j none) k1 b1 t1->R (.int (c.getD j 0)) H1)->a2e [.ref (a 0),.int 1,.int (j:Nat),.non] H R E:=λj R hj fn=>⟨a,_,false,j,none,rfl,ow,(by show _<c.length;lia),(by show c.length<=_;lia),lt,λH1 h1 kp=>by
   fail "at";exact fn H1 k1 b1 t1 x1⟩
  have eh:((4*(sp % n).toNat:Nat):Int)=4*(sp % (n:Int)):=by lia
  fail "";rcases hx with rfl|rfl|rfl|rfl
  ·walk_at "st"
   fail "";rw[<- eh];refine tch _ _ ↑2 λH1 k1 b1 t1 x1=>?_;fail "ab";fail "";refine⟨a,_,false,_,sp,rfl,⟨k1,b1,t1,x1.same s2⟩,rfl,n2,n8,ft.s0,ft.s1,λH3 s3 h3=>.inr ↑112⟩;obtain⟨k3,b3,t3,x3⟩:=h3;refine a1c (v:=.str (y9 (if c3h n false sp ↑90 then .number else .wish))) (s3 _ _ f2) (by show atI _ (if c3h n false sp ↑90=true then 1 else 0)=_;cases c3h n false sp ↑90 <;> rfl) ?_
   fail "";exact a4i x3 false ⟨y9 (if c3h n false sp ↑90 then .number else .wish),.int sp,fiv,se,at_,pa,ps,le⟩ rfl rfl rfl λH4 x4=>k H4 _ ⟨_,_,_,x4⟩ rfl
  ·walk_at "st"
   walk_at "st";fail "";rw[<- eh];refine tch (4*(sp % n).toNat+1) _ ↑2 λH1 k1 b1 t1 x1=>?_;fail "";refine a4i x1 false ⟨y9 .number,.int sp,fiv,se,c.getD (4*(sp % n).toNat+1) 0,pa,ps,le⟩ rfl rfl rfl λH3 x3=>?_;fail "";exact a4i x3 false ⟨"left",.int sp,fiv,se,c.getD (4*(sp % n).toNat+1) 0,pa,ps,le⟩ rfl rfl rfl λH4 x4=>k H4 _ ⟨_,_,_,x4⟩ rfl
  ·walk_at "st"
   fail "ai";rw[<- eh];refine tch (4*(sp % n).toNat+2) _ ↑2 λH1 k1 b1 t1 x1=>?_;fail "";refine a4i x1 false ⟨y9 .left,.int sp,fiv,se,at_,pa,ps,c.getD (4*(sp % n).toNat+2) 0⟩ rfl rfl rfl λH3 x3=>?_;fail "";exact a4i x3 false ⟨"thing",.int sp,fiv,se,at_,pa,ps,c.getD (4*(sp % n).toNat+2) 0⟩ rfl rfl rfl λH4 x4=>k H4 _ ⟨_,_,_,x4⟩ rfl
  ·walk_at "st"
   fail "ai";have e80:H (a 8)=some (.lst (ps.map V.int)):=owx.ob 8 ↑4;fail "";rw[<- eh];refine tch ↑106 _ ↑2 λH1 k1 b1 t1 x1=>?_;have e8:H1 (a 8)=some (.lst (ps.map V.int)):=x1.ob 8 ↑4;have lp2:(ps.map V.int).length<sizeLine:=by rw[List.length_map];lia
   fail "";have x2:OWx (upd H1 (a 8) (.lst (ps.map V.int++[.int (c.getD ↑106 0)]))) a _ _ _ _:=x1.pushP (c.getD ↑106 0)
   revert x2
   generalize upd H1 (a 8) _=H2;intro x2;refine a4i x2 false ⟨"look",.int sp,fiv,se,at_,pa,ps++[c.getD ↑106 0],le⟩ rfl rfl rfl λH3 x3=>?_;have et3:H3 (a 4)=some (.dK (kvQ "look" (.int sp) fiv at_ pa le (a 6) (a 8))):=x3.et;fail "";fail "y"
   ·fail ""
    exact a4i x3 false ⟨"look",.int ↑99,fiv,se,at_,pa,ps++[c.getD ↑106 0],le⟩ rfl rfl rfl λH4 x4=>k H4 _ ⟨_,_,_,x4⟩ (if_pos y).symm
   ·fail ""
    refine a4i x3 false ⟨"free",.int sp,fiv,se,at_,pa,ps++[c.getD ↑106 0],le⟩ rfl rfl rfl λH4 x4=>?_;have et4:H4 (a 4)=some (.dK (kvQ "free" (.int sp) fiv at_ pa le (a 6) (a 8))):=x4.et;have e04:H4 (a 0)=some (.dK (kvO n a)):=x4.e0;have e8:H4 (a 8)=some (.lst ((ps++[c.getD ↑106 0]).map V.int)):=x4.ob 8 ↑4;have e10:H4 (a 10)=some (.lst (b1.map V.ref)):=x4.ob 10 ↑4;have lb1:b1.length=bk.length:=x4.rb.1;fail "";rw[a5a,List.length_map,lb1];refine a4j (λy2=>?_) (λy2=>?_)
    ·fail ""
     intro l hl;have s5:=j1 (o:=.lst ((ps++[c.getD ↑106 0]).map V.int)) hl;have x5:=(x4.same s5).pushR false d9 λj hj z=>by
      have:=x4.ob j hj;rw[<- z,hl] at this;cases this
     have e105:=s5 _ _ e10;have ll:(b1.map V.ref).length<sizeLine:=by rw[List.length_map];lia
     fail "";exact k _ _ ⟨_,_,_,x5⟩ ((if_neg y).trans (if_pos y2)).symm
    ·fail ""
     exact k H4 _ ⟨_,_,_,x4⟩ ((if_neg y).trans (if_neg y2)).symm
set_option hygiene false in
theorem c9u{α:Type}(k:Nat)(x:α):(List.replicate k [x]).flatten=List.replicate k x:=by
 induction k with
 | zero=>rfl
 | succ k ih=>rw[List.replicate_succ,List.flatten_cons,ih];rfl
theorem e3g{n t:Nat}(n2:2<=n)(ht:t<2*n):(List.replicate ((t:Int) % (n:Int)).toNat [V.int ((t:Int) / (n:Int))]).flatten++(List.replicate ((n:Int)-(t:Int) % (n:Int)).toNat [V.int (1-(t:Int) / (n:Int))]).flatten=((c3r n t).map b2i).map V.int:=by
 rw[c9u,c9u];have e1:((t:Int) % (n:Int)).toNat=t % n:=by lia
 have hm:=Nat.mod_lt t (show 0<n by lia)
 have e2:((n:Int)-(t:Int) % (n:Int)).toNat=n-t % n:=by lia
 have hd:t / n<2:=by rw[Nat.div_lt_iff_lt_mul ↑2];lia
 have e3:(t:Int) / (n:Int)=b2i (t / n == 1):=by
  have:((t:Int) / (n:Int))=((t / n:Nat):Int):=by push_cast;rfl
  rw[this]
  revert hd
  generalize t / n=d;intro hd
  match d,hd with
  | 0,_=>rfl
  | 1,_=>rfl
 have e4:1-b2i (t / n == 1)=b2i (!(t / n == 1)):=by cases (t / n == 1) <;> rfl
 rw[e1,e2,e3,e4];unfold c3r;simp only[List.map_append,List.map_replicate]
theorem d6r{n i t:Nat}(n2:2<=n)(n8:n<=8)(hi:i<2*n)(ht:t<2*n)(e:c3r n i=c3r n t):i=t:=by
 have:=b0b n2 n8 hi;rw[e,b0b n2 n8 ht] at this;cases this;rfl
theorem d6q{n t:Nat}(n2:2<=n):(c3r n t).length=n:=by
 unfold c3r;have:=Nat.mod_lt t (show 0<n by lia)
 rw[List.length_append,List.length_replicate,List.length_replicate];lia
def b0l:Sp:=λvs H Q _=>E3 λ(n t:Nat)(p:Addr)=>vs=[.int n,.ref p]/\H p=some (.lst (((c3r n t).map b2i).map V.int))/\2<=n/\n<=8/\t<2*n/\∀H',Same H H'->Q (.int t) H'
abbrev a7h:Stmt:=top 111
theorem a1p:i8 ["size","bits","turn","lap","place","row"] ["size","bits"] (g9 a7h):=↑1
theorem b9t(D:DefT K mg "_law_turn_by" a7h ["size","bits"])(T:↑14):↑901 "_law_turn_by" 1 ["size","bits"] b0l:=by
 refine D.fn a1p ↑8 ↑7
 ·obtain⟨n,t,p,rfl,ep,n2,n8,ht,k⟩:=h
  refine⟨_,(d6 (b8l a5o rfl (b3p rfl T.z_range (d5 (k7 a0p i4 (pu 0)) i9)) (a1b (i:=2) a1p.nd rfl ↑22)
     (
     d6 (l9 (i:=3) a1p.nd rfl ↑22 (k7 a2t (pu 2) (pu 0)))
     (d6 (l9 (i:=4) a1p.nd rfl ↑22 (k7 a0l (pu 2) (pu 0)))
     (d6 (l9 (i:=5) a1p.nd rfl ↑22 (k7 c5e (k7 c0o (v5 (d5 (pu 3) i9)) (pu 4)) (k7 c0o (v5 (d5 (k7 a2g i4 (pu 3)) i9)) (k7 a2g (pu 0) (pu 4)))))
     (d7 (x0 (l7 (d8t (K:=K) (n:=0) ↑23) (pu 1) (pu 5) ↑43)
      (d7 (m8 (pu 2)))
      v6))))))
   (d7 (m8 b3q))),?_⟩
  fail "ah";fail "";rw[show(2*(n:Int)).toNat=2*n by lia]
  refine b0c (n:=2*n) (λi σ H'=>E4 λx2 x3 x4 x5=>σ=[some (.int n),some (.ref p),x2,x3,x4,x5]/\Same H H'/\i<=t) ⟨_,_,_,_,rfl,Same.refl H,Nat.zero_le _⟩ ?_ ?_
  ·rintro i σ H1 hi ⟨x2,x3,x4,x5,rfl,s1,hn⟩
   rw[Int.zero_add];have m0:=Int.emod_nonneg (i:Int) (show(n:Int)≠0 by lia)
   have m1:=Int.emod_lt_of_pos (i:Int) (show(0:Int)<(n:Int) by lia)
   fail "";refine⟨(by show 1<=sizeLine;decide),λp1 hp1=>?_⟩
   fail "";refine⟨p1,_,_,rfl,rfl,d9,by lia,by lia,(by show 1*_<=_;lia),λp2 hp2=>?_⟩
   fail "";refine⟨(by show 1<=sizeLine;decide),λp3 hp3=>?_⟩
   fail "";refine⟨p3,_,_,rfl,rfl,d9,by lia,by lia,(by show 1*_<=_;lia),λp4 hp4=>?_⟩
   have re:=e3g n2 hi;refine⟨p2,p4,_,_,rfl,rfl,j1 hp4 _ _ (j1 hp3 _ _ d9),d9,?_,λp5 hp5=>?_⟩
   ·rw[<- List.length_append,re,List.length_map,List.length_map,d6q n2];lia
   rw[re];have s5:Same H1 (upd (upd (upd (upd H1 p1 (.lst [.int ((i:Int) / (n:Int))])) p2 (.lst (List.replicate ((i:Int) % (n:Int)).toNat [V.int ((i:Int) / (n:Int))]).flatten)) p3 (.lst [.int (1-(i:Int) / (n:Int))])) p4 (.lst (List.replicate ((n:Int)-(i:Int) % (n:Int)).toNat [V.int (1-(i:Int) / (n:Int))]).flatten)):=(((j1 hp1).trans (j1 hp2)).trans (j1 hp3)).trans (j1 hp4)
   revert s5 hp5
   generalize upd (upd (upd (upd H1 p1 _) p2 _) p3 _) p4 _=H5;intro hp5 s5;have s6:Same H (upd H5 p5 (.lst (((c3r n i).map b2i).map V.int))):=(s1.trans s5).trans (j1 hp5);fail "";refine e5h (d8d (k8 (s5 _ _ (s1 _ _ ep)) hp5) (SqL.of (s6 _ _ ep)) (SqL.of d9) (b9d _) (b9d _)) ?_;rw[d0m];fail "";by_cases c:((c3r n t).map b2i)=((c3r n i).map b2i)
   ·rw[decide_eq_true c]
    have e:=d6r n2 n8 ht hi (e1z c);subst e;fail "";exact k _ s6
   ·rw[decide_eq_false c]
    have ne:i≠t:=λz=>c (by rw[z])
    fail "";exact⟨_,_,_,_,rfl,s6,by lia⟩
  ·rintro σ H1 ⟨x2,x3,x4,x5,rfl,s1,hn⟩
   exact absurd ht ↑2
section
variable{H:Hp}{a:Nat->Addr}{s:Ow}{ks bs ts:List Addr}
def ia(b:Bool):Nat:=if b then 5 else 6
def ib(b:Bool):Nat:=if b then 7 else 8
theorem OWx.eh(h:↑57)(b:Bool):H (a (ha b))=some (.dK (kvQ (s.h b).st (s.h b).sp (s.h b).fi (s.h b).at_ (s.h b).pa (s.h b).le (a (ia b)) (a (ib b)))):=by
 cases b
 ·exact h.et
 ·exact h.eg
theorem OWx.es(h:↑57)(b:Bool):H (a (ia b))=some (.lst ((s.h b).se.map V.int)):=by
 cases b
 ·exact h.ob 6 ↑4
 ·exact h.ob 5 ↑4
theorem a8f(s:Ow)(b:Bool)(x:Hd):(s.setH b x).h b=x:=by cases b <;> rfl
theorem b7n(s:Ow)(b:Bool)(x y:Hd):(s.setH b x).setH b y=s.setH b y:=by cases b <;> rfl
theorem OWx.pushS(h:↑57)(b:Bool)(v:Int):OWx (upd H (a (ia b)) (.lst ((s.h b).se.map V.int++[.int v]))) a (s.setH b { s.h b with se:=(s.h b).se++[v] }) ks bs ts:=by
 cases b with
 | true=>
  refine h.set (s':={ s with g:={ s.g with se:=s.g.se++[v] } }) (k:=5) (by decide) (λj hj z=>?_) rfl rfl rfl (by show _=HO.lst ((s.g.se++[v]).map V.int);rw[List.map_append];rfl)
  have:j=0\/j=1\/j=2\/j=3\/j=4\/j=6\/j=7\/j=8\/j=9\/j=10\/j=11:=by lia
  fail "v"
 | false=>
  refine h.set (s':={ s with t:={ s.t with se:=s.t.se++[v] } }) (k:=6) (by decide) (λj hj z=>?_) rfl rfl rfl (by show _=HO.lst ((s.t.se++[v]).map V.int);rw[List.map_append];rfl)
  have:j=0\/j=1\/j=2\/j=3\/j=4\/j=5\/j=7\/j=8\/j=9\/j=10\/j=11:=by lia
  fail "v"
theorem c0w(h:↑57)(b:Bool)(x:Hd){R:Hp->Prop}{k:Str}{v:V}(hs:x.se=(s.h b).se)(hp:x.ps=(s.h b).ps)(e:b6y (kvQ (s.h b).st (s.h b).sp (s.h b).fi (s.h b).at_ (s.h b).pa (s.h b).le (a (ia b)) (a (ib b))) (.inr k) v=kvQ x.st x.sp x.fi x.at_ x.pa x.le (a (ia b)) (a (ib b)))(q:∀H',OWx H' a (s.setH b x) ks bs ts->R H'):∃a' H',V.ref (a (ha b))=.ref a'/\DPut H a' (.str k) v H'/\R H' :=
 a4i h b x hs hp e q
end
noncomputable def d5s(b:Bool)(m:Int):Int:=if b then m / 2 else (m / 2+m) % 2
noncomputable def d2s(s:Ow)(b:Bool)(t:Nat)(x:Stg):Ow :=
 match x with
 | .rouse=>(n5 s b (4*s.n+3-wn b) (some 1)).setH b { s.h b with st:="clear" }
 | .clear=>(n5 s b (4*s.n+wn b) (some (-1))).setH b { s.h b with st:="mute" }
 | .mute=>(n5 s b (4*s.n+2+wn b) (some 0)).setH b { s.h b with st:="marks" }
 | _=>if (s.h b).se.length+1=s.n then (n5 s b (4*(s.h b).se.length) none).setH b { s.h b with se:=(s.h b).se++[s.c.getD (4*(s.h b).se.length) 0],sp:=.int t,fi:=.int t,st:=if b then "told" else "look" }
  else (n5 s b (4*(s.h b).se.length) none).setH b { s.h b with se:=(s.h b).se++[s.c.getD (4*(s.h b).se.length) 0] }
def b7j:Sp:=λvs H Q _=>E5 λ(a:Nat->Addr)(s:Ow)(b:Bool)(t:Nat)(x:Stg)=>vs=[.ref (a 0),.int (wi b)]/\OW H a s/\2<=s.n/\s.n<=8/\s.c.length=4*s.n+4/\s.tr.length<=4000000/\(x=.rouse\/x=.clear\/x=.mute\/x=.marks)/\(s.h b).st=y9 x /\
 (x=.marks->(s.h b).se.length<s.n/\((s.h b).se.length+1=s.n->t<2*s.n/\((s.h b).se++[s.c.getD (4*(s.h b).se.length) 0]).map (d5s b)=(c3r s.n t).map b2i))/\∀H' s',OW H' a s'->s'=d2s s b t x->Q .non H'
abbrev b4t:Stmt:=top 112
theorem a4p:i8 ["lane","who","hand","size","stage","bits"] ["lane","who"] (g9 b4t):=↑1
theorem c8f(D:DefT K mg "_law_rise" b4t ["lane","who"])(T:↑14)(G_law_touch:↑36)(G_law_turn_by:↑901 "_law_turn_by" 1 ["size","bits"] b0l):↑901 "_law_rise" 2 ["lane","who"] b7j:=by
 refine D.fn a4p ↑8 ↑7
 ·obtain⟨a,o,b,t,x,rfl,ow,n2,n8,lc,lt,hx,es,hm,k⟩:=h
  refine⟨_,(d6 (l9 (i:=2) a4p.nd rfl ↑22 (a0c ↑19 ↑10 (pu 1) ↑11))
   (d6 (l9 (i:=3) a4p.nd rfl ↑22 ↑10)
   (d6 (l9 (i:=4) a4p.nd rfl ↑22 ↑127)
   (d7 (x0 ↑132
    (
     d6 (j9 (m3 G_law_touch hr ↑4 rfl j4 (d5 (pu 0) (d5 (pu 1) (d5 (k7 a2g (k7 v3 ↑85 i4) (pu 1)) ↑25)))))
     ↑135)
    (d7 (
         x0 ↑132
      (
      d6 (j9 (m3 G_law_touch hr ↑4 rfl j4 (d5 (pu 0) (d5 (pu 1) (d5 (k7 v3 ↑85 (pu 1)) (d5 (d1g c0c i4) i9))))))
      ↑135)
      (d7 (x0 ↑132
       (
        d6 (j9 (m3 G_law_touch hr ↑4 rfl j4 (d5 (pu 0) (d5 (pu 1) (d5 (k7 v3 (k7 v3 ↑85 i4) (pu 1)) ↑25)))))
        ↑135)
       (
        d6 (j9 (z9 (K:=K) ↑127 (d5 (m3 G_law_touch hr ↑4 rfl j4 (d5 (pu 0) (d5 (pu 1) (d5 (k7 a0p i4 (v7 ↑42 (by rfl) T.z_len PySem.boot_len (d5 ↑127 i9))) ↑145)))) i9)))
        (d7 (x0 (l7 a0m (v7 ↑42 (by rfl) T.z_len PySem.boot_len (d5 ↑127 i9)) (pu 3) ↑43)
         (
         d6 (c0k (ix:=5) (N:=["mark","who"]) (nt:=1) (fr:=[1]) rfl (c3p (i:=1) rfl rfl (by decide +kernel) (by decide +kernel) rfl rfl rfl rfl rfl rfl rfl) (a2r (K:=K) ↑127) (a6d ↑4) (λ_ _ _ _ _=>a1b (i:=0) (show(["mark","who"]:List Str).Nodup by decide +kernel) rfl (Or.inl rfl) (Or.inr rfl)) (λ_ _ _ _ _=>(a0c ↑19 (v5 (d5 (k7 a2t (pu 0) i4) (d5 (k7 a0l (k7 v3 (k7 a2t (pu 0) i4) (pu 0)) i4) i9))) (pu 1) ↑11)) a4p.nd rfl rfl)
         (d6 (a0d ↑23 (pu 2) m4 (m3 G_law_turn_by hr ↑4 rfl j4 (d5 (pu 3) (d5 (pu 5) i9))) rfl)
         (d6 (a0d ↑23 (pu 2) m4 ↑127 rfl)
         (d7 (a0d ↑23 (pu 2) m4 (a0c ↑19 (v5 ↑18) (pu 1) ↑11) rfl)))))
         v6)))))))))))),?_⟩
  fail "ar";have e0:H (a 0)=some (.dK (kvO o.n a)):=owx.e0;have e2:=owx.hs;have eh:=owx.eh b;rw[es] at eh;have w2:=e2k b;fail "ah";have tch:∀(j:Nat)(v:Option Int)(R:V->Hp->Prop),j<4*o.n+4->(∀H1 k1 b1 t1,OWx H1 a (n5 o b j v) k1 b1 t1->R (.int ((n5 o b j v).c.getD j 0)) H1)->a2e [.ref (a 0),.int (wi b),.int (j:Nat),vO v] H R E:=λj v R hj fn=>⟨a,o,b,j,v,rfl,ow,↑2,↑2,lt,λH1 h1 kp=>by
   fail "at";exact fn H1 k1 b1 t1 x1⟩
  fail "";refine a1c e2 (b9f a b) ?_;fail "";rcases hx with rfl|rfl|rfl|rfl
  ·walk_at "st"
   fail "";rw[show 4*(o.n:Int)+3-wi b=((4*o.n+3-wn b:Nat):Int) by rw[c7h];lia]
   refine tch (4*o.n+3-wn b) (some 1) _ ↑2 λH1 k1 b1 t1 x1=>?_;fail "";exact c0w x1 b { o.h b with st:="clear" } (by rw[a3w]) (by rw[a3w]) (by rw[a3w];rfl) λH2 x2=>k H2 _ ⟨_,_,_,x2⟩ rfl
  ·walk_at "st"
   walk_at "st";fail "";rw[show 4*(o.n:Int)+wi b=((4*o.n+wn b:Nat):Int) by rw[c7h];lia]
   refine tch (4*o.n+wn b) (some (-1)) _ ↑2 λH1 k1 b1 t1 x1=>?_;fail "";exact c0w x1 b { o.h b with st:="mute" } (by rw[a3w]) (by rw[a3w]) (by rw[a3w];rfl) λH2 x2=>k H2 _ ⟨_,_,_,x2⟩ rfl
  ·walk_at "st"
   fail "ai";rw[show 4*(o.n:Int)+2+wi b=((4*o.n+2+wn b:Nat):Int) by rw[c7h];lia]
   refine tch (4*o.n+2+wn b) (some 0) _ ↑2 λH1 k1 b1 t1 x1=>?_;fail "";exact c0w x1 b { o.h b with st:="marks" } (by rw[a3w]) (by rw[a3w]) (by rw[a3w];rfl) λH2 x2=>k H2 _ ⟨_,_,_,x2⟩ rfl
  ·obtain⟨hl,ht⟩:=hm rfl
   have esl:=owx.es b;walk_at "st";fail "ai";refine c7f eh rfl ?_;fail "";refine c7f eh rfl ?_;fail "";rw[List.length_map,show 4*(((o.h b).se.length:Nat):Int)=((4*(o.h b).se.length:Nat):Int) by push_cast;rfl]
   have tchR:∀(j:Nat)(R:V->Hp->Prop),j<4*o.n+4->(∀H1 k1 b1 t1,OWx H1 a (n5 o b j none) k1 b1 t1->R (.int (o.c.getD j 0)) H1)->a2e [.ref (a 0),.int (wi b),.int (j:Nat),.non] H R E:=λj R hj fn=>tch j none R hj fn;refine tchR (4*(o.h b).se.length) _ ↑2 λH1 k1 b1 t1 x1=>?_;have lse:((o.h b).se.map V.int).length<sizeLine:=by rw[List.length_map];lia
   have es1:H1 (a (ia b))=some (.lst ((o.h b).se.map V.int)):=by have:=x1.es b;rw[a3w] at this;exact this
   fail "";have x2:OWx (upd H1 (a (ia b)) (.lst ((o.h b).se.map V.int++[.int (o.c.getD (4*(o.h b).se.length) 0)]))) a ((n5 o b (4*(o.h b).se.length) none).setH b { o.h b with se:=(o.h b).se++[o.c.getD (4*(o.h b).se.length) 0] }) k1 b1 t1:=by have:=x1.pushS b (o.c.getD (4*(o.h b).se.length) 0);rw[a3w] at this;exact this
   revert x2
   generalize upd H1 (a (ia b)) _=H2;intro x2;have eh2:=x2.eh b;have es2:=x2.es b;rw[a8f] at eh2 es2;have eh2:H2 (a (ha b))=some (.dK (kvQ (o.h b).st (o.h b).sp (o.h b).fi (o.h b).at_ (o.h b).pa (o.h b).le (a (ia b)) (a (ib b)))):=eh2;have es2:H2 (a (ia b))=some (.lst (((o.h b).se++[o.c.getD (4*(o.h b).se.length) 0]).map V.int)):=es2;generalize hv:o.c.getD (4*(o.h b).se.length) 0=vv at *;refine c7f eh2 rfl ?_;fail "";rw[a5a,List.length_map,List.length_append,show(((o.h b).se.length+[vv].length:Nat):Int)=(((o.h b).se.length+1:Nat):Int) from rfl];fail "y"
   ·have y':(o.h b).se.length+1=o.n:=by lia
    obtain⟨t2n,hbits⟩:=ht y';fail "";refine c7f eh2 rfl ?_;refine⟨_,rfl,⟨_,SqL.of es2⟩,b0d (K:=K) (xs:=((o.h b).se++[vv]).map V.int) (by rw[List.length_map,List.length_append];show(o.h b).se.length+1<_;lia) (λD i acc H'=>H' D=some ↑88/\Same H2 H'/\acc=((((o.h b).se++[vv]).take i).map (d5s b)).map V.int/\acc.length=i) (λD hD=>⟨d9,j1 hD,rfl,rfl⟩) ?_ ?_ ?_⟩
    ·rintro D i acc H' ⟨p1,p2,p3,p4⟩
     exact⟨p1,p4,SqL.of (p2 _ _ es2)⟩
    ·rintro D i x acc H' hD hx ⟨p1,p2,p3,p4⟩
     have hi:=(List.getElem?_eq_some_iff.mp hx).1;rw[List.length_map] at hi;rw[List.getElem?_map,List.getElem?_eq_getElem hi] at hx;cases hx;generalize hmm:((o.h b).se++[vv])[i]=m at *;fail "";refine⟨by show 2<=sizeLine;lia,λl hl=>?_⟩
     have nd:D≠l:=λz=>by rw[<- z,p1] at hl;cases hl
     fail "";refine a1c (v:=.int (d5s b m)) d9 (by cases b <;> rfl) ?_
     refine⟨by rw[d8 nd];exact p1,d9,λq u e=>?_,?_,by rw[List.length_append,p4];rfl⟩
     ·rw[d8 (k8 e hD),j1 hl _ _ (p2 _ _ e)]
     ·rw[p3,List.take_add_one,List.getElem?_eq_getElem hi,hmm,List.map_append,List.map_append]
      rfl
    ·rintro D acc H' hD ⟨p1,p2,p3,p4⟩
     rw[List.length_map,List.take_length,hbits] at p3;rw[p3] at p1;fail "";refine⟨o.n,t,D,rfl,p1,n2,n8,t2n,λH4 s4=>?_⟩;have x4:=x2.same (p2.trans s4);fail "";refine c0w x4 b { o.h b with se:=(o.h b).se++[vv],sp:=.int t } (by rw[a8f]) (by rw[a8f]) (by rw[a8f];rfl) λH5 x5=>?_
     rw[b7n] at x5;have eh5:=x5.eh b;rw[a8f] at eh5;have eh5:H5 (a (ha b))=some (.dK (kvQ (o.h b).st (.int t) (o.h b).fi (o.h b).at_ (o.h b).pa (o.h b).le (a (ia b)) (a (ib b)))):=eh5;fail "";refine c7f eh5 rfl ?_;fail "";refine c0w x5 b { o.h b with se:=(o.h b).se++[vv],sp:=.int t,fi:=.int t } (by rw[a8f]) (by rw[a8f]) (by rw[a8f];rfl) λH6 x6=>?_
     rw[b7n] at x6;fail "";refine⟨by show 2<=sizeLine;lia,λl hl=>?_⟩
     have x7:=x6.same (j1 (o:=.lst [.str "told",.str "look"]) hl);fail "";refine a1c (v:=.str (if b then "told" else "look")) d9 (by cases b <;> rfl) ?_
     fail "";refine c0w x7 b { o.h b with se:=(o.h b).se++[vv],sp:=.int t,fi:=.int t,st:=if b then "told" else "look" } (by rw[a8f]) (by rw[a8f]) (by rw[a8f];rfl) λH8 x8=>?_
     rw[b7n] at x8;exact k H8 _ ⟨_,_,_,x8⟩ (by rw[<- hv];exact(if_pos y').symm)
   ·fail ""
    exact k H2 _ ⟨_,_,_,x2⟩ (by rw[<- hv];exact(if_neg (λz=>y ↑2)).symm)
end
theorem c3d:∀{os:List ↑28}{i:Nat},tot os<=i->m6 os i=os.length
 | [],i,h=>rfl
 | o::os,i,h=>by
  rw[a5c] at h;unfold m6;rw[if_neg ↑2,c3d ↑2]
  rfl
theorem c8r{n:Nat}:∀{os:List ↑28}{j:Nat},Good n os->j<=os.length->m6 os (beg os j)=j
 | [],j,g,h=>by
  have:j=0:=by simpa using h
  subst this;rfl
 | o::os,0,g,h=>by
  rw[a0x];unfold m6;exact if_pos (by have:=g.head;lia)
 | o::os,j+1,g,h=>by
  rw[a0j];unfold m6;rw[if_neg ↑2,show o.length+beg os j-o.length=beg os j by lia,c8r g.tail (by simpa using h)]
theorem d3t{n:Nat}{os:List ↑28}{i:Nat}(gd:Good n os)(hi:i<tot os):(m9 os i=0->m6 os (i+1)=m6 os i+1/\beg os (m6 os i+1)=i+1)/\(0<m9 os i->m6 os (i+1)=m6 os i):=by
 have h1:=(a0g (n:=n) hi).2;refine⟨λz=>?_,λz=>(next_part hi z).2.1⟩;have e:beg os (m6 os i+1)=i+1:=by lia
 refine⟨?_,e⟩;have:=c8r (j:=m6 os i+1) gd (a3u hi)
 rwa [e] at this
def atP(os:List ↑28)(i:Nat)(x:Hd):Prop:=x.at_=(m6 os i:Int)/\x.pa=((i-beg os (m6 os i):Nat):Int)
theorem d8l{os:List ↑28}{o:List Int}{i:Nat}{x:Hd}(ho:1<=o.length)(hi:i<=tot os)(h:atP os i x):atP (os++[o]) i x:=by
 have e:m6 (os++[o]) i=m6 os i/\m6 os i<=os.length:=by
  by_cases z:i<tot os
  ·exact⟨(a1g z).1,by have:=a3u z;lia⟩
  ·have ei:i=tot os:=by lia
   subst ei;rw[c3d ↑31];refine⟨?_,Nat.le_refl _⟩;have:∀(ps:List ↑28),m6 (ps++[o]) (tot ps)=ps.length:=by
    intro ps
    induction ps with
    | nil=>
     show m6 [o] 0=0;unfold m6;exact if_pos ho
    | cons q ps ih=>
     rw[a5c,List.cons_append];unfold m6;rw[if_neg ↑2,show q.length+tot ps-q.length=tot ps by lia,ih]
     rfl
   exact this os
 refine⟨by rw[e.1];exact h.1,by rw[e.1,d0b e.2];exact h.2⟩
noncomputable def hrG(L:Ln):Hr:=if Stg.come L.gs then .non else .int ((gi L % (2*L.n):Nat):Int)
noncomputable def hrT(L:Ln):Hr:=if Stg.come L.ts then .non else .int ((L.t % (2*L.n):Nat):Int)
noncomputable def hrF(L:Ln):Hr:=if Stg.come L.ts then .non else .int (((if L.ts.frees then L.f-1 else L.f) % (2*L.n):Nat):Int)
structure OGr(L:Ln)(x:Hd):Prop where
 st:x.st=y9 L.gs
 sp:x.sp=hrG L
 se:Stg.come L.gs=true->x.se=L.gseen
 po:Stg.come L.gs=false->L.gs≠.told->L.gs≠.lacks->atP L.os (gi L) x
 la:L.gs=.lacks->x.at_=v9 L.os L.g
 p0:(Stg.come L.gs || (decide (L.gs=.told) || decide (L.gs=.lacks)))=true->x.pa=0
structure OTr(L:Ln)(x:Hd):Prop where
 st:x.st=y9 L.ts
 sp:x.sp=hrT L
 fi:x.fi=hrF L
 se:Stg.come L.ts=true->x.se=L.tseen
 at_:L.ts=.left\/L.ts=.thing->x.at_=(m6 L.os L.t:Int)
 le:L.ts=.thing->x.le=(m9 L.os L.t:Int)
 ps:L.ts≠.free->L.ts.frees=false->x.ps=y7 L.os L.f (L.t-L.f)
structure ORel(s:Ow)(L:Ln):Prop where
 n:s.n=L.n
 c:s.c=b8i L.n L.c
 os:s.os=L.os
 bk:s.bk=L.bk
 g:OGr L s.g
 t:OTr L s.t
section
variable{s s':Ow}{L:Ln}
theorem ORel.tw(h:ORel s L)(b:Bool){k:Nat}(hk:k<4*L.n+4)(v:Int):(n5 s b k (some v)).c=b8i L.n (Pr.put L.c k v)/\(n5 s b k (some v)).tr=s.tr++[(b,⟨true,k,v⟩)]:=by
 have e:(n5 s b k (some v)).c=b8i L.n (Pr.put L.c k v):=by
  show s.c.set k v=_;rw[h.c,c9q _ _ hk]
 refine⟨e,?_⟩;show s.tr++[(b,⟨true,k,(n5 s b k (some v)).c.getD k 0⟩)]=_;rw[e,a0i _ hk,put_same]
theorem ORel.rd(h:ORel s L){k:Nat}(hk:k<4*L.n+4):s.c.getD k 0=L.c k:=by rw[h.c,a0i _ hk]
theorem ORel.trd(h:ORel s L)(b:Bool){k:Nat}(hk:k<4*L.n+4):(n5 s b k none).tr=s.tr++[(b,⟨false,k,L.c k⟩)]:=by
 show s.tr++[(b,⟨false,k,s.c.getD k 0⟩)]=_;rw[h.rd hk]
theorem OTr.gs(h:OTr L x):OTr (gstep L) x:=by
 obtain⟨n,os,_,sn,ts,f,t⟩:=a2h L;exact⟨by rw[ts];exact h.st,by unfold hrT;rw[ts,t,n];exact h.sp,by unfold hrF;rw[ts,f,n];exact h.fi,by rw[ts,sn];exact h.se,by rw[ts,os,t];exact h.at_,by rw[ts,os,t];exact h.le,by rw[ts,os,f,t];exact h.ps⟩
theorem OGr.ts(h:OGr L x):OGr (tstep L) x:=by
 obtain⟨n,os,sn,gs,g⟩:=a2d L;have gi':gi (Pr.tstep L)=gi L:=by unfold gi;rw[gs,g]
 exact⟨by rw[gs];exact h.st,by unfold hrG;rw[gs,gi',n];exact h.sp,by rw[gs,sn];exact h.se,by rw[gs,os,gi'];exact h.po,by rw[gs,os,g];exact h.la,by rw[gs];exact h.p0⟩
def c7e(b:Bool)(s:Ow)(L:Ln)(s':Ow):Prop:=ORel s' (b7g b L)/\s'.tr=s.tr++[(b,e6k b L)]
theorem ORel.gw(h:ORel s L){k:Nat}{v:Int}{x:Hd}(hk:k<4*L.n+4)(e:(gstep L).c=Pr.put L.c k v)(et:gT L=⟨true,k,v⟩)(hg:OGr (gstep L) x):c7e true s L { n5 s true k (some v) with g:=x }:=by
 obtain⟨n,os,bk,_⟩:=a2h L;obtain⟨c1,t1⟩:=h.tw true hk v;exact⟨⟨h.n.trans n.symm,by show _=b8i (gstep L).n (gstep L).c;rw[n,e];exact c1,h.os.trans os.symm,h.bk.trans bk.symm,hg,h.t.gs⟩,by show _=s.tr++[(true,gT L)];rw[et];exact t1⟩
theorem ORel.gr(h:ORel s L){k:Nat}{x:Hd}(hk:k<4*L.n+4)(e:(gstep L).c=L.c)(et:gT L=⟨false,k,L.c k⟩)(hg:OGr (gstep L) x):c7e true s L { n5 s true k none with g:=x }:=by
 obtain⟨n,os,bk,_⟩:=a2h L;exact⟨⟨h.n.trans n.symm,by show s.c=b8i (gstep L).n (gstep L).c;rw[n,e];exact h.c,h.os.trans os.symm,h.bk.trans bk.symm,hg,h.t.gs⟩,by show _=s.tr++[(true,gT L)];rw[et];exact h.trd true hk⟩
theorem ORel.tw'(h:ORel s L){k:Nat}{v:Int}{x:Hd}(hk:k<4*L.n+4)(e:(tstep L).c=Pr.put L.c k v)(eb:(tstep L).bk=L.bk)(et:tT L=⟨true,k,v⟩)(hg:OTr (tstep L) x):c7e false s L { n5 s false k (some v) with t:=x }:=by
 obtain⟨n,os,_⟩:=a2d L;obtain⟨c1,t1⟩:=h.tw false hk v;exact⟨⟨h.n.trans n.symm,by show _=b8i (tstep L).n (tstep L).c;rw[n,e];exact c1,h.os.trans os.symm,h.bk.trans eb.symm,h.g.ts,hg⟩,by show _=s.tr++[(false,tT L)];rw[et];exact t1⟩
theorem ORel.tr'(h:ORel s L){k:Nat}{x:Hd}{bk:List ↑28}(hk:k<4*L.n+4)(e:(tstep L).c=L.c)(eb:bk=(tstep L).bk)(et:tT L=⟨false,k,L.c k⟩)(hg:OTr (tstep L) x):c7e false s L { n5 s false k none with t:=x,bk:=bk }:=by
 obtain⟨n,os,_⟩:=a2d L;exact⟨⟨h.n.trans n.symm,by show s.c=b8i (tstep L).n (tstep L).c;rw[n,e];exact h.c,h.os.trans os.symm,eb,h.g.ts,hg⟩,by show _=s.tr++[(false,tT L)];rw[et];exact h.trd false hk⟩
theorem OGr.mv(h:OGr L x){y:Stg}{c':Cells}(h1:Stg.come L.gs=false)(h2:L.gs≠.told)(h3:L.gs≠.lacks)(hf:y.frees=L.gs.frees)(y1:Stg.come y=false)(y3:y≠.lacks)(y2:y≠.told):OGr { L with c:=c',gs:=y } { x with st:=y9 y }:=by
 have g:gi { L with c:=c',gs:=y }=gi L:=by unfold gi;dsimp only;rw[hf]
 refine⟨rfl,?_,λz=>?_,λ_ _ _=>?_,λz=>absurd z y3,(λz=>by have z:(Stg.come y || (decide (y=.told) || decide (y=.lacks)))=true:=z;rw[y1,decide_eq_false y2,decide_eq_false y3] at z;cases z)⟩
 ·have:=h.sp
  unfold hrG at this ⊢;rw[g];dsimp only;rw[y1];rw[h1] at this;exact this
 ·rw[show Stg.come y=true from z] at y1;cases y1
 ·rw[g];exact h.po h1 h2 h3
theorem OTr.mv(h:OTr L x){y:Stg}{c':Cells}(h1:Stg.come L.ts=false)(hf:y.frees=L.ts.frees)(y1:Stg.come y=false)(y2:y≠.left)(y3:y≠.thing)(y4:L.ts≠.free\/y.frees=true):OTr { L with c:=c',ts:=y } { x with st:=y9 y }:=by
 refine⟨rfl,?_,?_,λz=>?_,λz=>z.elim (absurd · y2) (absurd · y3),λz=>absurd z y3,λz1 z2=>?_⟩
 ·have:=h.sp
  unfold hrT at this ⊢;dsimp only;rw[y1];rw[h1] at this;exact this
 ·have:=h.fi
  unfold hrF at this ⊢;dsimp only;rw[y1,hf];rw[h1] at this;exact this
 ·rw[show Stg.come y=true from z] at y1;cases y1
 ·rcases y4 with y4|y4
  ·exact h.ps y4 (by rw[<- hf];exact z2)
  ·rw[show y.frees=false from z2] at y4;cases y4
theorem e4b(m:Int):c3h L.n true ((L.g % (2*L.n):Nat):Int) m=decide (m=2*(1-(lap L.n L.g:Int))):=by
 unfold c3h;rw[if_pos rfl,a2i,decide_eq_decide];lia
theorem e4a(m:Int):c3h L.n false ((L.t % (2*L.n):Nat):Int) m=decide (m=2*(lap L.n L.t:Int)+1):=by
 unfold c3h;rw[if_neg ↑4,a2i]
theorem d7g{n g:Nat}(hn:0<n):((((g % (2*n):Nat):Int)-1) % (n:Int)).toNat=(g+2*n-1) % n:=by
 have e1:(((g % (2*n):Nat):Int)-1) % (n:Int)=(((g+2*n-1) % n:Nat):Int):=by
  rw[Int.natCast_emod,Int.sub_emod,Int.emod_emod_of_dvd _ (show(n:Int) ∣ ((2*n:Nat):Int) from⟨2,by push_cast;lia⟩),<- Int.sub_emod,Int.natCast_emod,show((g+2*n-1:Nat):Int)=((g:Int)-1)+(n:Int)*2 by lia,Int.add_mul_emod_self_left]
 rw[e1];rfl
end
theorem OGr.mvE{L:Ln}{x:Hd}{a y:Stg}{c':Cells}(h:OGr L x)(e:L.gs=a)(q:autoParam (Stg.come a=false/\a≠.told/\a≠.lacks/\y.frees=a.frees/\Stg.come y=false/\y≠.lacks/\y≠.told) q2):OGr { L with c:=c',gs:=y } { x with st:=y9 y }:=by
 obtain⟨q1,q2,q3,q4,q5,q6,q7⟩:=q;exact h.mv (by rw[e];exact q1) (by rw[e];exact q2) (by rw[e];exact q3) (by rw[e];exact q4) q5 q6 q7
theorem OTr.mvE{L:Ln}{x:Hd}{a y:Stg}{c':Cells}(h:OTr L x)(e:L.ts=a)(q:autoParam (Stg.come a=false/\y.frees=a.frees/\Stg.come y=false/\y≠.left/\y≠.thing/\(a≠.free\/y.frees=true)) q2):OTr { L with c:=c',ts:=y } { x with st:=y9 y }:=by
 obtain⟨q1,q2,q3,q4,q5,q6⟩:=q;exact h.mv (by rw[e];exact q1) (by rw[e];exact q2) q3 q4 q5 (by rw[e];exact q6)
section
variable{s:Ow}{L:Ln}{x:Stg}
theorem e2m(h:ORel s L)(ok:Ok L)(e:L.gs=x)(wx:x.wait=true):c7e true s L (c7i s true ((L.g % (2*L.n):Nat):Int) x):=by
 fail "w";have pl:=ok.core.pl L.g;cases x <;> first|exact absurd wx ↑4|skip
 ·have es:gstep L={ L.put (4*L.n) ((L.g % (2*L.n):Nat):Int) with gs:=.again }:=by unfold gstep;rw[e]
  exact h.gw (k:=4*L.n) ↑2 ↑60 (by unfold gT;rw[e];rfl) (by rw[es];exact h.g.mvE e)
 ·unfold c7i
  dsimp only;rw[n9,e4b,show c.getD (4 * ↑95) 0=L.c (4 * ↑95) from h.rd ↑2];by_cases y:L.c (4 * ↑95)=2*(1-(lap L.n L.g:Int))
  ·have es:gstep L={ L with gs:=.unwish }:=by unfold gstep;rw[e];exact if_pos y
   rw[decide_eq_true y];exact h.gr (k:=4 * ↑95) ↑2 ↑60 (by unfold gT;rw[e];rfl) (by rw[es];exact h.g.mvE e)
  ·have es:gstep L={ L with gs:=.sleep }:=by unfold gstep;rw[e];exact if_neg y
   rw[decide_eq_false y];exact h.gr (k:=4 * ↑95) ↑2 ↑60 (by unfold gT;rw[e];rfl) (by rw[es];exact h.g.mvE e)
 ·unfold c7i
  dsimp only;rw[show c.getD (4*L.n+2+wn true) 0=L.c ↑110 from h.rd (show 4*L.n+2<_ by lia)]
  by_cases y:L.c ↑110=0
  ·have es:gstep L={ L with gs:=.sleep }:=by unfold gstep;rw[e];exact(if_pos y).trans (by rw[<- e])
   rw[if_pos y];exact h.gr (k:=4*L.n+2) ↑2 ↑60 (by unfold gT;rw[e];rfl) (by rw[es];exact h.g.mvE e)
  ·have es:gstep L={ L with gs:=.hush }:=by unfold gstep;rw[e];exact if_neg y
   rw[if_neg y];exact h.gr (k:=4*L.n+2) ↑2 ↑60 (by unfold gT;rw[e];rfl) (by rw[es];exact h.g.mvE e)
 ·have es:gstep L={ L.put ↑110 0 with gs:=.unwish }:=by unfold gstep;rw[e]
  exact h.gw (k:=4*L.n+2) ↑2 ↑60 (by unfold gT;rw[e];rfl) (by rw[es];exact h.g.mvE e)
 ·have es:gstep L={ L.put (4*L.n) (-1) with gs:=.look }:=by unfold gstep;rw[e]
  exact h.gw (k:=4*L.n) ↑2 ↑60 (by unfold gT;rw[e];rfl) (by rw[es];exact h.g.mvE e)
theorem e2l(h:ORel s L)(ok:Ok L)(e:L.ts=x)(wx:x.wait=true):c7e false s L (c7i s false ((L.t % (2*L.n):Nat):Int) x):=by
 fail "w";have pl:=ok.core.pl L.t;cases x <;> first|exact absurd wx ↑4|skip
 ·have es:tstep L={ L.put (4*L.n+1) ((L.t % (2*L.n):Nat):Int) with ts:=.again }:=by unfold tstep;rw[e]
  exact h.tw' (k:=4*L.n+1) ↑2 ↑60 ↑60 (by unfold tT;rw[e];rfl) (by rw[es];exact h.t.mvE e)
 ·unfold c7i
  dsimp only;rw[n9,e4a,show c.getD (4 * ↑75) 0=L.c (4 * ↑75) from h.rd ↑2];by_cases y:L.c (4 * ↑75)=2*(lap L.n L.t:Int)+1
  ·have es:tstep L={ L with ts:=.unwish }:=by unfold tstep;rw[e];exact if_pos y
   rw[decide_eq_true y];exact h.tr' (k:=4 * ↑75) ↑2 ↑60 (by rw[es];exact h.bk) (by unfold tT;rw[e];rfl) (by rw[es];exact h.t.mvE e)
  ·have es:tstep L={ L with ts:=.sleep }:=by unfold tstep;rw[e];exact if_neg y
   rw[decide_eq_false y];exact h.tr' (k:=4 * ↑75) ↑2 ↑60 (by rw[es];exact h.bk) (by unfold tT;rw[e];rfl) (by rw[es];exact h.t.mvE e)
 ·unfold c7i
  dsimp only;rw[show c.getD (4*L.n+2+wn false) 0=L.c (4*L.n+3) from h.rd (show 4*L.n+3<_ by lia)]
  by_cases y:L.c (4*L.n+3)=0
  ·have es:tstep L={ L with ts:=.sleep }:=by unfold tstep;rw[e];exact(if_pos y).trans (by rw[<- e])
   rw[if_pos y];exact h.tr' (k:=4*L.n+3) ↑2 ↑60 (by rw[es];exact h.bk) (by unfold tT;rw[e];rfl) (by rw[es];exact h.t.mvE e)
  ·have es:tstep L={ L with ts:=.hush }:=by unfold tstep;rw[e];exact if_neg y
   rw[if_neg y];exact h.tr' (k:=4*L.n+3) ↑2 ↑60 (by rw[es];exact h.bk) (by unfold tT;rw[e];rfl) (by rw[es];exact h.t.mvE e)
 ·have es:tstep L={ L.put (4*L.n+3) 0 with ts:=.unwish }:=by unfold tstep;rw[e]
  exact h.tw' (k:=4*L.n+3) ↑2 ↑60 ↑60 (by unfold tT;rw[e];rfl) (by rw[es];exact h.t.mvE e)
 ·have es:tstep L={ L.put (4*L.n+1) (-1) with ts:=.look }:=by unfold tstep;rw[e]
  exact h.tw' (k:=4*L.n+1) ↑2 ↑60 ↑60 (by unfold tT;rw[e];rfl) (by rw[es];exact h.t.mvE e)
theorem c3n{a:Stg}(e:L.gs=a)(h:autoParam (a.frees=false) q4):gi L=L.g:=d2a e h
theorem OGr.spG{y:Hd}(h:OGr L y){a:Stg}(e:L.gs=a)(q:autoParam (Stg.come a=false) q4):y.sp=.int ((gi L % (2*L.n):Nat):Int):=by
 have:=h.sp;unfold hrG at this;rw[e,q] at this;exact this
theorem d4n{L':Ln}(q:Stg.come L'.gs=false)(n:L'.n=L.n)(g:gi L'=gi L):hrG L'=.int ((gi L % (2*L.n):Nat):Int):=by
 unfold hrG;rw[q,n,g]
 rfl
theorem e6s(h:ORel s L)(ok:Ok L)(told:Bool)(e:L.gs=if told then .told else .lacks):c7e true s L (e2f s ((L.g % (2*L.n):Nat):Int) told):=by
 fail "w";obtain rfl:os=L.os:=h.os;have hn:=ok.hn;have pl:=Nat.mod_lt (L.g+2*L.n-1) hn;obtain⟨sa1,sa2⟩:=b4i ok;unfold e2f;dsimp only;rw[d7g hn,show c.getD (4 * ↑71+1) 0=_ from h.rd ↑2,show c.getD (4 * ↑71+2) 0=_ from h.rd ↑2,sa1,sa2];cases told with
 | true=>
  have e:L.gs=.told:=e;have es:gstep L={ L with gs:=.lacks }:=by unfold gstep;rw[e]
  rw[if_pos rfl];refine h.gr (k:=4 * ↑71+1) (x:={ g with at_:=v9 L.os L.g,st:="lacks" }) (by lia) (by rw[es]) (by unfold gT;rw[e];rfl) (by rw[es];exact⟨rfl,(h.g.spG e).trans (d4n (L:=L) (L':={ L with gs:=.lacks }) rfl rfl (show L.g=gi L from(c3n e).symm)).symm,noC,λ_ _ z=>absurd rfl z,λ_=>rfl,λ_=>h.g.p0 (by rw[e];rfl)⟩)
 | false=>
  have e:L.gs=.lacks:=e;have es:gstep L={ L with gs:=.look }:=by unfold gstep;rw[e]
  rw[if_neg ↑4];have la:g.at_=v9 L.os L.g:=h.g.la e;rw[la];have key:∀y:Hd,y.sp=g.sp->y.st="look"->atP L.os L.g y->c7e true ⟨L.n,c,g,t,L.os,bk,tr⟩ L ((n5 ⟨L.n,c,g,t,L.os,bk,tr⟩ true (4 * ↑71+2) none).setH true y):=λy h1 h2 h3=>
   h.gr (k:=4 * ↑71+2) (x:=y) ↑2 ↑60 (by unfold gT;rw[e];rfl) (by rw[es];exact⟨h2,h1.trans ((h.g.spG e).trans (d4n (L:=L) (L':={ L with gs:=.look }) rfl rfl (show L.g=gi L from(c3n e).symm)).symm),noC,λ_ _ _=>h3,λz=>(nomatch z),noC⟩)
  have gd:=ok.core.good;have gt:=ok.core.gt;by_cases y:0<=v9 L.os L.g/\0<a0a L.os L.g
  ·rw[if_pos y]
   refine key _ rfl rfl ?_;cases hG:L.g with
   | zero=>rw[hG] at y;exact absurd y.1 (by show ¬ (0:Int) <= -1;decide)
   | succ j=>
    rw[hG] at y la;have yl:0<m9 L.os j:=by have:(0:Int)<(m9 L.os j:Int):=y.2;lia
    have hj:j<tot L.os:=by lia
    have p:=(d3t gd hj).2 yl;obtain⟨q1,q2⟩:=a0g (n:=L.n) hj;obtain⟨o,_,o2,o3⟩:=a5p hj;refine⟨?_,?_⟩
    ·show v9 L.os (j+1)=_
     rw[p];rfl
    ·show((L.os.getD (v9 L.os (j+1)).toNat []).length:Int)-a0a L.os (j+1)=_
     rw[p,show(v9 L.os (j+1)).toNat=m6 L.os j from rfl,o2,show a0a L.os (j+1)=(m9 L.os j:Int) from rfl];lia
  ·rw[if_neg y]
   refine key _ rfl rfl ?_;cases hG:L.g with
   | zero=>
    have z:=c8r (j:=0) gd (Nat.zero_le _);rw[a0x] at z;exact⟨by rw[z];rfl,by rw[z,a0x];rfl⟩
   | succ j=>
    rw[hG] at y;have hj:j<tot L.os:=by lia
    have yl:m9 L.os j=0:=by
     by_cases z:m9 L.os j=0
     ·exact z
     ·exact absurd ⟨(by show(0:Int)<=(m6 L.os j:Int);lia),(by show(0:Int)<(m9 L.os j:Int);lia)⟩ y
    obtain⟨p1,p2⟩:=(d3t gd hj).1 yl;refine⟨?_,?_⟩
    ·show(m6 L.os j:Int)+1=_
     rw[p1];rfl
    ·show(0:Int)=_
     rw[p1,p2,Nat.sub_self];rfl
theorem d8w(h:ORel s L)(ok:Ok L)(e:L.gs.frees=true){k:Nat}{v:Option Int}{c':Cells}:∃y,d4s (n5 s true k v) ((gi L % (2*L.n):Nat):Int)={ n5 s true k v with g:=y }/\OGr { L with c:=c',gs:=.look } y:=by
 fail "w";obtain rfl:os=L.os:=h.os;have pos:=ok.gv.pos e;have gt:=ok.core.gt;have gd:=ok.core.good;have g1:gi L=L.g-1:=d2b rfl e;have hi:L.g-1<tot L.os:=by lia
 have ne:Stg.come L.gs=false/\L.gs≠.told/\L.gs≠.lacks:=by cases q:L.gs <;> rw[q] at e <;> first|exact absurd e ↑4|exact⟨rfl,by decide,by decide⟩
 obtain⟨p1,p2⟩:=h.g.po ne.1 ne.2.1 ne.2.2;have p1:g.at_=(m6 L.os (L.g-1):Int):=by rw[<- g1];exact p1
 have p2:g.pa=((L.g-1-beg L.os (m6 L.os (L.g-1)):Nat):Int):=by rw[<- g1];exact p2
 obtain⟨q1,q2⟩:=a0g (n:=L.n) hi;obtain⟨o,_,o2,o3⟩:=a5p hi;have on:=d3t gd hi;rw[show L.g-1+1=L.g by lia] at on
 have sp:Hr.int ((((gi L % (2*L.n):Nat):Int)+1) % (2*(L.n:Int)))=hrG { L with c:=c',gs:=.look }:=by
  rw[a0o,g1,show L.g-1+1=L.g by lia]
  rfl
 have gl:gi { L with c:=c',gs:=.look }=L.g:=rfl
 by_cases y:m9 L.os (L.g-1)=0
 ·obtain⟨r1,r2⟩:=on.1 y
  refine⟨_,if_pos ?_,⟨rfl,sp,noC,λ_ _ _=>?_,λz=>↑94,noC⟩⟩
  ·show g.pa+1=((L.os.getD g.at_.toNat []).length:Int)
   rw[p1,p2,show((m6 L.os (L.g-1):Int)).toNat=m6 L.os (L.g-1) from rfl,o2];lia
  ·rw[gl]
   refine⟨?_,?_⟩
   ·show g.at_+1=_
    rw[r1,p1];rfl
   ·show(0:Int)=_
    rw[r1,r2,Nat.sub_self];rfl
 ·have r:=on.2 ↑2
  refine⟨_,if_neg ?_,⟨rfl,sp,noC,λ_ _ _=>?_,λz=>↑94,noC⟩⟩
  ·show ¬ g.pa+1=((L.os.getD g.at_.toNat []).length:Int)
   rw[p1,p2,show((m6 L.os (L.g-1):Int)).toNat=m6 L.os (L.g-1) from rfl,o2];lia
  ·rw[gl]
   refine⟨?_,?_⟩
   ·show g.at_=_
    rw[r,p1]
   ·show g.pa+1=((L.g-beg L.os (m6 L.os L.g):Nat):Int)
    rw[r,p2];lia
theorem e4q(h:ORel s L)(ok:Ok L)(e:L.gs=x)(hx:x=.look\/x=.number\/x=.left\/x=.thing\/x=.mark\/x=.card\/x=.ring)(hl:x=.look->L.g<tot L.os):c7e true s L (b9a s ((gi L % (2*L.n):Nat):Int) x):=by
 fail "w";obtain rfl:os=L.os:=h.os;have hn:=ok.hn;have pl:=ok.core.pl L.g;have n2:=ok.core.n2;have po:Stg.frees x=false->x≠.look->atP L.os L.g g/\L.g<tot L.os:=λq q2=>by
  have g0:=c3n e q;have hgv:L.gs.gives=true:=by rw[e];rcases hx with rfl|rfl|rfl|rfl|rfl|rfl|rfl <;> first|rfl|exact absurd rfl q2|cases q
  refine⟨?_,(ok.gv.room hgv).1⟩;rw[<- g0];refine h.g.po ?_ ?_ ?_ <;> rw[e] <;> rcases hx with rfl|rfl|rfl|rfl|rfl|rfl|rfl <;> first|rfl|decide
 rcases hx with rfl|rfl|rfl|rfl|rfl|rfl|rfl
 ·have hl:=hl rfl
  unfold b9a;dsimp only;rw[c3n e,n9,e4b,show c.getD (4 * ↑95) 0=L.c (4 * ↑95) from h.rd ↑2];by_cases y:L.c (4 * ↑95)=2*(1-(lap L.n L.g:Int))
  ·have es:gstep L={ L with gs:=.number }:=by unfold gstep;rw[e];exact(if_pos hl).trans (if_pos y)
   rw[decide_eq_true y];exact h.gr (k:=4 * ↑95) ↑2 ↑60 (by unfold gT;rw[e];rfl) (by rw[es];exact h.g.mvE e)
  ·have es:gstep L={ L with gs:=.wish }:=by unfold gstep;rw[e];exact(if_pos hl).trans (if_neg y)
   rw[decide_eq_false y];exact h.gr (k:=4 * ↑95) ↑2 ↑60 (by unfold gT;rw[e];rfl) (by rw[es];exact h.g.mvE e)
 ·obtain⟨⟨p1,p2⟩,lt⟩:=po rfl ↑4
  have es:gstep L={ L.put (4 * ↑95+1) (m6 L.os L.g) with gs:=.left }:=by unfold gstep;rw[e]
  unfold b9a;dsimp only;rw[c3n e,n9];exact h.gw (k:=4 * ↑95+1) (v:=g.at_) ↑2 (by rw[es,p1]) (by unfold gT;rw[e,p1];rfl) (by rw[es];exact h.g.mvE (y:=.left) e)
 ·obtain⟨⟨p1,p2⟩,lt⟩:=po rfl ↑4
  obtain⟨q1,q2⟩:=a0g (n:=L.n) lt;obtain⟨o,_,o2,o3⟩:=a5p lt;have es:gstep L={ L.put (4 * ↑95+2) (m9 L.os L.g) with gs:=.thing }:=by unfold gstep;rw[e]
  have hv:((L.os.getD g.at_.toNat []).length:Int)-1-g.pa=(m9 L.os L.g:Int):=by
   rw[p1,p2,show((m6 L.os L.g:Int)).toNat=m6 L.os L.g from rfl,o2];lia
  unfold b9a;dsimp only;rw[c3n e,n9];exact h.gw (k:=4 * ↑95+2) (v:=((L.os.getD g.at_.toNat []).length:Int)-1-g.pa) ↑2 (by rw[es,hv]) (by unfold gT;rw[e,hv];rfl) (by rw[es];exact h.g.mvE (y:=.thing) e)
 ·obtain⟨⟨p1,p2⟩,lt⟩:=po rfl ↑4
  obtain⟨q1,q2⟩:=a0g (n:=L.n) lt;obtain⟨o,o1,o2,o3⟩:=a5p lt;have es:gstep L={ L.put (4 * ↑95+3) (a0e L.os L.g) with gs:=.mark }:=by unfold gstep;rw[e]
  have th:=b7c o1 (L.g-beg L.os (m6 L.os L.g)) ↑2;rw[show beg L.os (m6 L.os L.g)+(L.g-beg L.os (m6 L.os L.g))=L.g by lia] at th
  have hv:(L.os.getD g.at_.toNat []).getD g.pa.toNat 0=a0e L.os L.g:=by
   rw[p1,p2,show((m6 L.os L.g:Int)).toNat=m6 L.os L.g from rfl,o2,Int.toNat_natCast,<- th]
  unfold b9a;dsimp only;rw[c3n e,n9];exact h.gw (k:=4 * ↑95+3) (v:=(L.os.getD g.at_.toNat []).getD g.pa.toNat 0) ↑2 (by rw[es,hv]) (by unfold gT;rw[e,hv];rfl) (by rw[es];exact h.g.mvE (y:=.mark) e)
 ·obtain⟨⟨p1,p2⟩,lt⟩:=po rfl ↑4
  have es:gstep L={ L.put (4 * ↑95) (2*(lap L.n L.g:Int)+1) with gs:=.card,g:=L.g+1 }:=by unfold gstep;rw[e]
  have gi1:gi (gstep L)=gi L:=by rw[es,c3n e];show(if Stg.frees .card=true then L.g+1-1 else L.g+1)=L.g;rw[if_pos (show Stg.frees .card=true from rfl)];lia
  unfold b9a;dsimp only;have sp:=h.g.spG e;have p:=h.g.po (by rw[e];rfl) (by rw[e];decide) (by rw[e];decide)
  refine h.gw (k:=4*(((gi L % (2*L.n):Nat):Int) % (L.n:Int)).toNat) (v:=2*(((gi L % (2*L.n):Nat):Int) / (L.n:Int))+1) (x:={ g with st:="card" }) ?_ ?_ ?_ ⟨?_,?_,?_,?_,?_,?_⟩
  ·rw[c3n e,n9];lia
  ·rw[c3n e,n9,a2i,es]
  ·rw[c3n e,n9,a2i];unfold gT;rw[e];rfl
  ·rw[es];rfl
  ·exact sp.trans (d4n (by rw[es];rfl) ↑60 gi1).symm
  ·rw[es];exact noC
  ·intro _ _ _;rw[gi1,show(gstep L).os=L.os by rw[es]];exact p
  ·rw[es];exact λz=>↑94
  ·rw[es];exact noC
 ·have g1:gi L=L.g-1:=d2b e rfl
  obtain⟨y1,z1,z2⟩:=d8w (k:=4*L.n+1) (v:=none) (c':=L.c) h ok (by rw[e];rfl)
  unfold b9a;dsimp only;rw[show c.getD (4*L.n+1) 0=L.c (4*L.n+1) from h.rd ↑2,z1];by_cases y:L.c (4*L.n+1)=(((L.g-1) % (2*L.n):Nat):Int)
  ·have es:gstep L={ L with gs:=.ring }:=by unfold gstep;rw[e];exact if_pos y
   rw[g1,if_pos y];exact h.gr (k:=4*L.n+1) ↑2 ↑60 (by unfold gT;rw[e];rfl) (by rw[es];exact h.g.mvE e)
  ·have es:gstep L={ L with gs:=.look }:=by unfold gstep;rw[e];exact if_neg y
   rw[g1,if_neg y];exact h.gr (k:=4*L.n+1) ↑2 ↑60 (by unfold gT;rw[e];rfl) (by rw[es];exact z2)
 ·obtain⟨y1,z1,z2⟩:=d8w (k:=4*L.n+3) (v:=some 1) (c':=Pr.put L.c (4*L.n+3) 1) h ok (by rw[e];rfl)
  have es:gstep L={ L.put (4*L.n+3) 1 with gs:=.look }:=by unfold gstep;rw[e]
  unfold b9a;dsimp only;rw[z1];exact h.gw (k:=4*L.n+3) ↑2 ↑60 (by unfold gT;rw[e];rfl) (by rw[es];exact z2)
theorem OTr.spT{y:Hd}(h:OTr L y){a:Stg}(e:L.ts=a)(q:autoParam (Stg.come a=false) q4):y.sp=.int ((L.t % (2*L.n):Nat):Int):=by
 have:=h.sp;unfold hrT at this;rw[e,q] at this;exact this
theorem OTr.fiT{y:Hd}(h:OTr L y){a:Stg}(e:L.ts=a)(q:autoParam (Stg.come a=false) q4):y.fi=.int (((if a.frees then L.f-1 else L.f) % (2*L.n):Nat):Int):=by
 have:=h.fi;unfold hrF at this;rw[e,q] at this;exact this
theorem d9v(h:ORel s L)(ok:Ok L)(e:L.ts=x)(hx:x=.look\/x=.number\/x=.left\/x=.thing):c7e false s L (c0f s ((L.t % (2*L.n):Nat):Int) x):=by
 fail "w";obtain rfl:os=L.os:=h.os;obtain rfl:bk=L.bk:=h.bk;have hn:=ok.hn;have pl:=ok.core.pl L.t;have tk:=ok.tk;have sl:x.takes=true->L.t<L.g/\L.f<=L.t/\L.c (4 * ↑75+1)=m6 L.os L.t/\L.c (4 * ↑75+2)=m9 L.os L.t/\L.c (4 * ↑75+3)=a0e L.os L.t:=λq=>by
  have lies:=tk.lies (by rw[e];exact q)
  have ft:L.f<=L.t:=by
   have:=tk.ft;rw[show L.ts.frees=false by rw[e];rcases hx with rfl|rfl|rfl|rfl <;> rfl] at this
   exact this
  exact⟨lies,ft,ok.core.slip L.t lies (.inr ft)⟩
 rcases hx with rfl|rfl|rfl|rfl
 ·unfold c0f
  dsimp only;rw[n9,e4a,show c.getD (4 * ↑75) 0=L.c (4 * ↑75) from h.rd ↑2];by_cases y:L.c (4 * ↑75)=2*(lap L.n L.t:Int)+1
  ·have es:tstep L={ L with ts:=.number }:=by unfold tstep;rw[e];exact if_pos y
   rw[decide_eq_true y];exact h.tr' (k:=4 * ↑75) ↑2 ↑60 (by rw[es];rfl) (by unfold tT;rw[e];rfl) (by rw[es];exact h.t.mvE e)
  ·have es:tstep L={ L with ts:=.wish }:=by unfold tstep;rw[e];exact if_neg y
   rw[decide_eq_false y];exact h.tr' (k:=4 * ↑75) ↑2 ↑60 (by rw[es];rfl) (by unfold tT;rw[e];rfl) (by rw[es];exact h.t.mvE e)
 ·obtain⟨lies,ft,s1,s2,s3⟩:=sl rfl
  have es:tstep L={ L with ts:=.left }:=by unfold tstep;rw[e]
  unfold c0f;dsimp only;rw[n9,show c.getD (4 * ↑75+1) 0=L.c (4 * ↑75+1) from h.rd ↑2];exact h.tr' (k:=4 * ↑75+1) ↑2 ↑60 (by rw[es];rfl) (by unfold tT;rw[e];rfl) (by rw[es];exact⟨rfl,h.t.spT e,h.t.fiT (a:=.number) e,noC,λ_=>s1,λz=>↑94,λ_ _=>h.t.ps (by rw[e];decide) (by rw[e];rfl)⟩)
 ·obtain⟨lies,ft,s1,s2,s3⟩:=sl rfl
  have es:tstep L={ L with ts:=.thing }:=by unfold tstep;rw[e]
  unfold c0f;dsimp only;rw[n9,show c.getD (4 * ↑75+2) 0=L.c (4 * ↑75+2) from h.rd ↑2];exact h.tr' (k:=4 * ↑75+2) ↑2 ↑60 (by rw[es];rfl) (by unfold tT;rw[e];rfl) (by rw[es];exact⟨rfl,h.t.spT e,h.t.fiT (a:=.left) e,noC,λ_=>h.t.at_ (.inl e),λ_=>s2,λ_ _=>h.t.ps (by rw[e];decide) (by rw[e];rfl)⟩)
 ·obtain⟨lies,ft,s1,s2,s3⟩:=sl rfl
  have hat:t.at_=(m6 L.os L.t:Int):=h.t.at_ (.inr e);have hle:t.le=(m9 L.os L.t:Int):=h.t.le e;have hps:t.ps=y7 L.os L.f (L.t-L.f):=h.t.ps (by rw[e];decide) (by rw[e];rfl)
  have th:t.ps++[L.c (4 * ↑75+3)]=y7 L.os L.f (L.t+1-L.f):=by
   rw[s3,hps,show L.t+1-L.f=(L.t-L.f)+1 by lia,b7d,show L.f+(L.t-L.f)=L.t by lia]
  have et:tT L=⟨false,4 * ↑75+3,L.c (4 * ↑75+3)⟩:=by unfold tT;rw[e];rfl
  unfold c0f;dsimp only;rw[n9,show c.getD (4 * ↑75+3) 0=L.c (4 * ↑75+3) from h.rd ↑2,th];by_cases y:0<m9 L.os L.t
  ·have es:tstep L={ L with ts:=.look,t:=L.t+1 }:=by unfold tstep;rw[e];exact if_pos y
   rw[if_pos (show 0<t.le by rw[hle];lia)]
   exact h.tr' (k:=4 * ↑75+3) ↑2 ↑60 (by rw[es];rfl) et (by rw[es];exact⟨rfl,by rw[a0o];rfl,h.t.fiT (a:=.thing) e,noC,(λz=>by rcases z with z|z <;> cases z),λz=>↑94,λ_ _=>rfl⟩)
  ·have es:tstep L={ L with ts:=.free,bk:=if m6 L.os L.t=L.bk.length then L.bk++[y7 L.os L.f (L.t+1-L.f)] else L.bk }:=by unfold tstep;rw[e];exact if_neg y
   rw[if_neg (show ¬ 0<t.le by rw[hle];lia)]
   have fin:∀bk2,bk2=(tstep L).bk->c7e false ⟨L.n,c,g,t,L.os,L.bk,tr⟩ L { n5 ⟨L.n,c,g,t,L.os,L.bk,tr⟩ false (4 * ↑75+3) none with t:={ t with ps:=y7 L.os L.f (L.t+1-L.f),st:="free" },bk:=bk2 }:=λbk2 hb=>
    h.tr' (k:=4 * ↑75+3) ↑2 ↑60 hb et (by rw[es];exact⟨rfl,h.t.spT e,h.t.fiT (a:=.thing) e,noC,(λz=>by rcases z with z|z <;> cases z),λz=>↑94,λz=>absurd rfl z⟩)
   by_cases y2:m6 L.os L.t=L.bk.length
   ·rw[if_pos (show t.at_=((L.bk.length:Nat):Int) by rw[hat,y2])]
    exact fin _ (by rw[es];exact(if_pos y2).symm)
   ·rw[if_neg (show ¬ t.at_=((L.bk.length:Nat):Int) by rw[hat];lia)]
    exact fin L.bk (by rw[es];exact(if_neg y2).symm)
theorem d4z(h:ORel s L)(ok:Ok L)(e:L.ts.frees=true){k:Nat}{v:Option Int}{c':Cells}:∃y,c6o (n5 s false k v) ((L.t % (2*L.n):Nat):Int) (((L.f-1) % (2*L.n):Nat):Int)={ n5 s false k v with t:=y }/\OTr (a2w { L with c:=c' }) y:=by
 fail "w";have hn:=ok.hn;have fp:=ok.tk.pos e;have lst:=ok.tk.last (.inr e);have ft:L.f<=L.t+1:=by have:=ok.tk.ft;rw[e] at this;exact this
 have gf:=ok.core.gf;have nc:Stg.come L.ts=false:=by cases q:L.ts <;> rw[q] at e <;> first|exact absurd e ↑4|rfl
 have sp:t.sp=.int ((L.t % (2*L.n):Nat):Int):=by have:=h.t.sp;unfold hrT at this;rw[nc] at this;exact this
 have eqn:(((L.f-1+1) % (2*L.n):Nat):Int)=((L.f % (2*L.n):Nat):Int):=by rw[show L.f-1+1=L.f by lia]
 by_cases y:L.f=L.t+1
 ·have es:a2w { L with c:=c' }={ L with c:=c',ts:=.look,t:=L.f }:=by unfold a2w;exact if_pos y
  rw[es];refine⟨_,if_pos (by rw[y];rfl),⟨rfl,?_,?_,noC,(λz=>by rcases z with z|z <;> cases z),λz=>↑94,λ_ _=>by show[]=y7 L.os L.f (L.f-L.f);rw[Nat.sub_self];rfl⟩⟩
  ·show Hr.int ((((L.t % (2*L.n):Nat):Int)+1) % (2*(L.n:Int)))=Hr.int ((L.f % (2*L.n):Nat):Int)
   rw[a0o,y]
  ·show Hr.int (((((L.f-1) % (2*L.n):Nat):Int)+1) % (2*(L.n:Int)))=Hr.int ((L.f % (2*L.n):Nat):Int)
   rw[a0o,eqn]
 ·have es:a2w { L with c:=c' }={ L with c:=c',ts:=.free }:=by unfold a2w;exact if_neg y
  rw[es];refine⟨_,if_neg (λz=>y ?_),⟨rfl,sp,?_,noC,(λz=>by rcases z with z|z <;> cases z),λz=>↑94,λz=>absurd rfl z⟩⟩
  ·have:=c1d (n:=L.n) (i:=L.f-1) (j:=L.t) ↑2 ↑2 ↑2 hn
   lia
  ·show Hr.int (((((L.f-1) % (2*L.n):Nat):Int)+1) % (2*(L.n:Int)))=Hr.int ((L.f % (2*L.n):Nat):Int)
   rw[a0o,eqn]
theorem e1s(h:ORel s L)(ok:Ok L)(e:L.ts=x)(hx:x=.free\/x=.card\/x=.ring):c7e false s L (b9c s ((L.t % (2*L.n):Nat):Int) (((if x.frees then L.f-1 else L.f) % (2*L.n):Nat):Int) x):=by
 fail "w";have hn:=ok.hn;have pl:=ok.core.pl L.f;have ib:bk=L.bk:=h.bk;rcases hx with rfl|rfl|rfl
 ·have es:tstep L={ L.put (4*(L.f % L.n)) (2*(lap L.n L.f:Int)) with ts:=.card,f:=L.f+1 }:=by unfold tstep;rw[e]
  unfold b9c;dsimp only;rw[show(if Stg.frees .free=true then L.f-1 else L.f)=L.f from rfl,n9,a2i];exact h.tw' (k:=4*(L.f % L.n)) ↑2 ↑60 ↑60 (by unfold tT;rw[e];rfl) (by rw[es];exact⟨rfl,h.t.spT e,(h.t.fiT e).trans (by show Hr.int ((L.f % (2*L.n):Nat):Int)=Hr.int (((L.f+1-1) % (2*L.n):Nat):Int);rw[Nat.add_sub_cancel]),noC,(λz=>by rcases z with z|z <;> cases z),λz=>↑94,λ_ z=>↑94⟩)
 ·have fr:L.ts.frees=true:=by rw[e];rfl
  obtain⟨y1,z1,z2⟩:=d4z (k:=4*L.n) (v:=none) (c':=L.c) h ok fr;unfold b9c;dsimp only;rw[show(if Stg.frees .card=true then L.f-1 else L.f)=L.f-1 from rfl,c3u,show c.getD (4*L.n) 0=L.c (4*L.n) from h.rd ↑2,z1];by_cases y:L.c (4*L.n)=(((L.f-1+L.n) % (2*L.n):Nat):Int)
  ·have es:tstep L={ L with ts:=.ring }:=by unfold tstep;rw[e];exact if_pos y
   rw[if_pos y];exact h.tr' (k:=4*L.n) ↑2 ↑60 (by rw[es];exact ib) (by unfold tT;rw[e];rfl) (by rw[es];exact h.t.mvE e)
  ·have es:tstep L=a2w L:=by unfold tstep;rw[e];exact if_neg y
   have ec:(a2w L).c=L.c/\(a2w L).bk=L.bk:=by unfold a2w;split <;> exact⟨rfl,rfl⟩
   rw[if_neg y];exact h.tr' (k:=4*L.n) ↑2 (by rw[es];exact ec.1) (by rw[es,ec.2];exact ib) (by unfold tT;rw[e];rfl) (by rw[es];exact z2)
 ·have fr:L.ts.frees=true:=by rw[e];rfl
  obtain⟨y1,z1,z2⟩:=d4z (k:=4*L.n+2) (v:=some 1) (c':=Pr.put L.c ↑110 1) h ok fr;have es:tstep L=a2w (L.put ↑110 1):=by unfold tstep;rw[e]
  have ec:(a2w (L.put ↑110 1)).c=Pr.put L.c ↑110 1/\(a2w (L.put ↑110 1)).bk=L.bk:=by unfold a2w;split <;> exact⟨rfl,rfl⟩
  unfold b9c;dsimp only;rw[show(if Stg.frees .ring=true then L.f-1 else L.f)=L.f-1 from rfl,z1];exact h.tw' (k:=4*L.n+2) ↑2 (by rw[es];exact ec.1) (by rw[es];exact ec.2) (by unfold tT;rw[e];rfl) (by rw[es];exact z2)
theorem d0o{b:Bool}{n i:Nat}(hn:0<n){xs:List Int}(l:xs.length=n)(h:∀(q:Nat) (m:Int),xs[q]?=some m->d5s b m=(b6v n i q:Int)):xs.map (d5s b)=(c3r n (i % (2*n))).map b2i:=by
 have e:=b2f (g:=i) hn (xs:=xs.map (d5s b)) (by rw[List.length_map];exact l) λq m hm=>by
  rw[List.getElem?_map] at hm;cases e2:xs[q]? with
  | none=>rw[e2] at hm;cases hm
  | some m'=>rw[e2] at hm;cases hm;exact h q m' e2
 rw[<- e];refine (c6y (List.all_eq_true.mpr λy hy=>?_)).symm;obtain⟨m,hm,rfl⟩:=List.mem_map.mp hy;obtain⟨q,hq⟩:=List.getElem?_of_mem hm;rw[h q m hq];unfold b6v;have:=b6l n i;have:(if q<i % n then lap n i else 1-lap n i)=0\/(if q<i % n then lap n i else 1-lap n i)=1:=by split <;> lia
 rcases this with z|z <;> rw[z] <;> rfl
theorem d9g(m:Int)(h:0<=m/\m<=3):d5s false m=if m / 2≠m % 2 then 1 else 0:=by
 have:m=0\/m=1\/m=2\/m=3:=by lia
 rcases this with rfl|rfl|rfl|rfl <;> rfl
theorem e3i(h:ORel s L)(ok:Ok L)(e:L.gs=x)(hx:x=.rouse\/x=.clear\/x=.mute\/x=.marks):c7e true s L (d2s s true (L.g % (2*L.n)) x)/\(x=.marks->(s.h true).se.length<s.n/\((s.h true).se.length+1=s.n->L.g % (2*L.n)<2*s.n/\((s.h true).se++[s.c.getD (4*(s.h true).se.length) 0]).map (d5s true)=(c3r s.n (L.g % (2*L.n))).map b2i)):=by
 fail "w";have hn:=ok.hn;have come:Stg.come L.gs=true:=by rw[e];rcases hx with rfl|rfl|rfl|rfl <;> rfl
 have sp:g.sp=.non:=by have:=h.g.sp;unfold hrG at this;rw[come] at this;exact this
 have se:g.se=L.gseen:=h.g.se come;have mvc:∀{y:Stg}{c':Cells},Stg.come y=true->y≠.lacks->OGr { L with c:=c',gs:=y } { g with st:=y9 y }:=λ{y c'} hy hl=>⟨rfl,by unfold hrG;dsimp only;rw[hy];exact sp,λ_=>se,λz=>(by rw[show Stg.come y=false from z] at hy;cases hy),λz=>absurd z hl,λ_=>h.g.p0 (by rw[come];rfl)⟩
 rcases hx with rfl|rfl|rfl|rfl
 ·have es:gstep L={ L.put (4*L.n+3) 1 with gs:=.clear }:=by unfold gstep;rw[e]
  exact⟨h.gw (k:=4*L.n+3) ↑2 ↑60 (by unfold gT;rw[e];rfl) (by rw[es];exact mvc rfl ↑4),λz=>↑94⟩
 ·have es:gstep L={ L.put (4*L.n) (-1) with gs:=.mute }:=by unfold gstep;rw[e]
  exact⟨h.gw (k:=4*L.n) ↑2 ↑60 (by unfold gT;rw[e];rfl) (by rw[es];exact mvc rfl ↑4),λz=>↑94⟩
 ·have es:gstep L={ L.put ↑110 0 with gs:=.marks }:=by unfold gstep;rw[e]
  exact⟨h.gw (k:=4*L.n+2) ↑2 ↑60 (by unfold gT;rw[e];rfl) (by rw[es];exact mvc rfl ↑4),λz=>↑94⟩
 ·have sl:=ok.gv.seen.1
  have sg:=ok.gv.seen.2;have rd:c.getD (4*L.gseen.length) 0=L.c (4*L.gseen.length):=h.rd (show 4*L.gseen.length<_ by lia)
  refine⟨?_,λ_=>⟨by show g.se.length<L.n;rw[se];exact sl,λy=>⟨b7b hn,?_⟩⟩⟩
  ·unfold d2s
   dsimp only;show c7e true _ L (if g.se.length+1=L.n then _ else _);have et:gT L=⟨false,4*L.gseen.length,L.c (4*L.gseen.length)⟩:=by unfold gT;rw[e];rfl
   by_cases y:L.gseen.length+1<L.n
   ·have es:gstep L={ L with gseen:=L.gseen++[L.c (4*L.gseen.length)] }:=by unfold gstep;rw[e];exact if_pos y
    rw[if_neg (by rw[se];lia)]
    have p:=h.gr (k:=4*L.gseen.length) (x:={ g with se:=g.se++[c.getD (4*g.se.length) 0] }) (by lia) (by rw[es]) et (by
     rw[es];exact⟨h.g.st,by unfold hrG;dsimp only;rw[come];exact sp,λ_=>by show g.se++_=_;rw[se,rd],λz=>(by rw[show Stg.come L.gs=false from z] at come;cases come),λz=>(by rw[show L.gs=.lacks from z] at e;cases e),λ_=>h.g.p0 (by rw[come];rfl)⟩)
    rw[<- se] at p;exact p
   ·have es:gstep L={ L with gseen:=[],gs:=.told }:=by unfold gstep;rw[e];exact if_neg y
    rw[if_pos (by rw[se];lia)]
    have p:=h.gr (k:=4*L.gseen.length) (x:={ g with se:=g.se++[c.getD (4*g.se.length) 0],sp:=.int ((L.g % (2*L.n):Nat):Int),fi:=.int ((L.g % (2*L.n):Nat):Int),st:="told" }) (by lia) (by rw[es]) et (by
     rw[es];exact⟨rfl,rfl,noC,λ_ z=>absurd rfl z,λz=>↑94,λ_=>h.g.p0 (by rw[come];rfl)⟩)
    rw[<- se] at p;exact p
  ·show(g.se++[c.getD (4*g.se.length) 0]).map (d5s true)=_
   rw[se,rd];have y:L.gseen.length+1=L.n:=by rw[<- se];exact y
   refine d0o hn (by rw[List.length_append];exact y) λq m hm=>?_
   rcases b6x hm with ⟨_,z⟩|⟨rfl,rfl⟩
   ·exact(sg q m z).1
   ·exact ok.core.mks.laps hn sl
theorem e3h(h:ORel s L)(ok:Ok L)(e:L.ts=x)(hx:x=.rouse\/x=.clear\/x=.mute\/x=.marks):c7e false s L (d2s s false (L.f % (2*L.n)) x)/\(x=.marks->(s.h false).se.length<s.n/\((s.h false).se.length+1=s.n->L.f % (2*L.n)<2*s.n/\((s.h false).se++[s.c.getD (4*(s.h false).se.length) 0]).map (d5s false)=(c3r s.n (L.f % (2*L.n))).map b2i)):=by
 fail "w";have hn:=ok.hn;have ib:bk=L.bk:=h.bk;have come:Stg.come L.ts=true:=by rw[e];rcases hx with rfl|rfl|rfl|rfl <;> rfl
 have sp:t.sp=.non:=by have:=h.t.sp;unfold hrT at this;rw[come] at this;exact this
 have fi:t.fi=.non:=by have:=h.t.fi;unfold hrF at this;rw[come] at this;exact this
 have se:t.se=L.tseen:=h.t.se come;have ps:t.ps=y7 L.os L.f (L.t-L.f):=h.t.ps (by rw[e];rcases hx with rfl|rfl|rfl|rfl <;> decide) (by rw[e];rcases hx with rfl|rfl|rfl|rfl <;> rfl)
 have mvc:∀{y:Stg}{c':Cells},Stg.come y=true/\y≠.left/\y≠.thing->OTr { L with c:=c',ts:=y } { t with st:=y9 y }:=λ{y c'} ⟨hy,h1,h2⟩=>⟨rfl,by unfold hrT;dsimp only;rw[hy];exact sp,by unfold hrF;dsimp only;rw[hy];exact fi,λ_=>se,λz=>z.elim (absurd · h1) (absurd · h2),λz=>absurd z h2,λ_ _=>ps⟩
 rcases hx with rfl|rfl|rfl|rfl
 ·have es:tstep L={ L.put ↑110 1 with ts:=.clear }:=by unfold tstep;rw[e]
  exact⟨h.tw' (k:=4*L.n+2) ↑2 ↑60 ↑60 (by unfold tT;rw[e];rfl) (by rw[es];exact mvc ↑4),λz=>↑94⟩
 ·have es:tstep L={ L.put (4*L.n+1) (-1) with ts:=.mute }:=by unfold tstep;rw[e]
  exact⟨h.tw' (k:=4*L.n+1) ↑2 ↑60 ↑60 (by unfold tT;rw[e];rfl) (by rw[es];exact mvc ↑4),λz=>↑94⟩
 ·have es:tstep L={ L.put (4*L.n+3) 0 with ts:=.marks }:=by unfold tstep;rw[e]
  exact⟨h.tw' (k:=4*L.n+3) ↑2 ↑60 ↑60 (by unfold tT;rw[e];rfl) (by rw[es];exact mvc ↑4),λz=>↑94⟩
 ·have sl:=ok.tk.seen.1
  have sg:=ok.tk.seen.2;have tf:=ok.tk.come (.inr (.inr (.inr e)));have rd:c.getD (4*L.tseen.length) 0=L.c (4*L.tseen.length):=h.rd (show 4*L.tseen.length<_ by lia)
  refine⟨?_,λ_=>⟨by show t.se.length<L.n;rw[se];exact sl,λy=>⟨b7b hn,?_⟩⟩⟩
  ·unfold d2s
   dsimp only;show c7e false _ L (if t.se.length+1=L.n then _ else _);have et:tT L=⟨false,4*L.tseen.length,L.c (4*L.tseen.length)⟩:=by unfold tT;rw[e];rfl
   by_cases y:L.tseen.length+1<L.n
   ·have es:tstep L={ L with tseen:=L.tseen++[L.c (4*L.tseen.length)] }:=by unfold tstep;rw[e];exact if_pos y
    rw[if_neg (by rw[se];lia)]
    have p:=h.tr' (k:=4*L.tseen.length) (x:={ t with se:=t.se++[c.getD (4*t.se.length) 0] }) (bk:=bk) (by lia) (by rw[es]) (by rw[es];exact ib) et (by
     rw[es];exact⟨h.t.st,by unfold hrT;dsimp only;rw[come];exact sp,by unfold hrF;dsimp only;rw[come];exact fi,λ_=>by show t.se++_=_;rw[se,rd],(λz=>(by rw[e] at z;rcases z with z|z <;> cases z)),λz=>(by rw[e] at z;cases z),λ_ _=>ps⟩)
    rw[<- se] at p;exact p
   ·have es:tstep L={ L with tseen:=[],ts:=.look }:=by unfold tstep;rw[e];exact if_neg y
    rw[if_pos (by rw[se];lia)]
    have p:=h.tr' (k:=4*L.tseen.length) (x:={ t with se:=t.se++[c.getD (4*t.se.length) 0],sp:=.int ((L.f % (2*L.n):Nat):Int),fi:=.int ((L.f % (2*L.n):Nat):Int),st:="look" }) (bk:=bk) (by lia) (by rw[es]) (by rw[es];exact ib) et (by
     rw[es];exact⟨rfl,by show Hr.int _=Hr.int _;rw[tf],rfl,noC,(λz=>by rcases z with z|z <;> cases z),λz=>↑94,λ_ _=>ps⟩)
    rw[<- se] at p;exact p
  ·show(t.se++[c.getD (4*t.se.length) 0]).map (d5s false)=_
   rw[se,rd];have y:L.tseen.length+1=L.n:=by rw[<- se];exact y
   refine d0o hn (by rw[List.length_append];exact y) λq m hm=>?_
   rcases b6x hm with ⟨_,z⟩|⟨rfl,rfl⟩
   ·rw[d9g m (sg q m z).2];exact(sg q m z).1
   ·rw[d9g _ (ok.core.mks.range hn sl)];exact ok.core.mks.sides hn ok.core.fg ok.core.gf sl
def b4d:Hd:=⟨"rouse",.non,.non,[],0,0,[],0⟩
theorem ORel.gfall(h:ORel s L):ORel { s with g:=b4d } (gfall L):=⟨h.n,h.c,h.os,h.bk,⟨rfl,rfl,λ_=>rfl,λz=>(nomatch z),λz=>(nomatch z),λ_=>rfl⟩,⟨h.t.st,h.t.sp,h.t.fi,h.t.se,h.t.at_,h.t.le,h.t.ps⟩⟩
theorem ORel.tfall(h:ORel s L):ORel { s with t:=b4d } (tfall L):=⟨h.n,h.c,h.os,h.bk,⟨h.g.st,h.g.sp,h.g.se,h.g.po,h.g.la,h.g.p0⟩,⟨rfl,rfl,rfl,λ_=>rfl,(λz=>by rcases z with z|z <;> cases z),λz=>↑94,λ_ _=>by show[]=y7 L.os L.f (L.f-L.f);rw[Nat.sub_self];rfl⟩⟩
theorem ORel.add(h:ORel s L)(ok:Ok L){o:List Int}(ho:1<=o.length):ORel { s with os:=s.os++[o] } (a7t L o):=by
 have gt:=ok.core.gt;have tg:=ok.tk.tg;refine⟨h.n,h.c,by show s.os++[o]=L.os++[o];rw[h.os],h.bk,⟨h.g.st,h.g.sp,h.g.se,λa b c=>d8l ho (show gi L<=tot L.os by unfold gi;split <;> lia) (h.g.po a b c),λz=>?_,h.g.p0⟩,⟨h.t.st,h.t.sp,h.t.fi,h.t.se,λz=>?_,λz=>?_,λa b=>?_⟩⟩
 ·rw[h.g.la z]
  show v9 L.os L.g=v9 (L.os++[o]) L.g;cases e:L.g with
  | zero=>rfl
  | succ i=>show((m6 L.os i:Nat):Int)=((m6 (L.os++[o]) i:Nat):Int);rw[(a1g ↑2).1]
 ·have lt:L.t<L.g:=ok.tk.lies (by rcases z with z|z <;> (have z':L.ts=_:=z;rw[z'];rfl))
  rw[h.t.at_ z];show((m6 L.os L.t:Nat):Int)=((m6 (L.os++[o]) L.t:Nat):Int);rw[(a1g ↑2).1]
 ·have lt:L.t<L.g:=ok.tk.lies (by have z':L.ts=_:=z;rw[z'];rfl)
  rw[h.t.le z];show((m9 L.os L.t:Nat):Int)=((m9 (L.os++[o]) L.t:Nat):Int);rw[(a1g ↑2).2]
 ·rw[h.t.ps a b]
  show y7 L.os L.f (L.t-L.f)=y7 (L.os++[o]) L.f (L.t-L.f);unfold y7;apply List.map_congr_left;intro m hm;have:=List.mem_range.mp hm;exact(a9x ↑2).symm
end
section
variable{P:Program}{w:World}{K:Frag}{mg:Str->Option Value}{base:Heap}{cl:Cl}
theorem e7j{σ:St}{H:Hp}{Q:List (V×V)->Hp->Prop}{tk tv:TE}{r:List (TE×TE)}(q:tk σ H λx H1=>tv σ H1 λy H2=>b7e r σ H2 λps H3=>Q ((x,y)::ps) H3):b7e ((tk,tv)::r) σ H Q:=q
theorem e7k{σ:St}{H:Hp}{Q:List (V×V)->Hp->Prop}(q:Q [] H):b7e [] σ H Q:=q
set_option hygiene false in
local macro_rules | `(tactic| walk_at "go1")=>`(tactic| first|walk_at "ga"|((with_reducible refine' c7f ?h ?v ?_);(case h=>assumption);(case v=>exact rfl))|with_reducible refine e7j ?_|with_reducible refine e7k ?_)
def freshO(H H':Hp)(d p q:Addr):Prop:=H d=none/\H p=none/\H q=none/\p≠q/\Same H H'/\H' d=some (.dK (kvQ "rouse" .non .non 0 0 0 p q))/\H' p=some (.lst [])/\H' q=some (.lst [])
def a8c:Sp:=λvs H Q _=>vs=[]/\∀d p q H',freshO H H' d p q->Q (.ref d) H'
abbrev b1s:Stmt:=top 108
theorem c4k:i8 [] [] (g9 b1s):=↑1
theorem c5t(D:DefT K mg "_law_fresh" b1s [])(T:↑14):↑901 "_law_fresh" 1 [] a8c:=by
 refine D.fn c4k (λvs H Q E h=>?_) ↑7
 ·obtain⟨rfl,_⟩:=h
  rfl
 ·obtain⟨rfl,k⟩:=h
  refine⟨_,(@d7 _ _ _ (@m8 _ _ _ _ (@d3k _ _ _ _ _ (@a0v _ _ _ _ _ _ _ _ _ m4 m4 (@a0v _ _ _ _ _ _ _ _ _ m4 b3q (@a0v _ _ _ _ _ _ _ _ _ m4 b3q (@a0v _ _ _ _ _ _ _ _ _ m4 (v5 i9) (@a0v _ _ _ _ _ _ _ _ _ m4 i4 (@a0v _ _ _ _ _ _ _ _ _ m4 i4 (@a0v _ _ _ _ _ _ _ _ _ m4 (v5 i9) (@a0v _ _ _ _ _ _ _ _ _ m4 i4 d3c)))))))) rfl rfl (List.cons_ne_nil _ _) (Nat.le_of_ble_eq_true rfl)))),?_⟩;refine d9a λd hd=>?_;fail "";refine⟨Nat.zero_le _,λp hp=>?_⟩;fail "";refine⟨Nat.zero_le _,λq hq=>?_⟩;fail "";have dp:d≠p:=λz=>by rw[<- z,d9] at hp;cases hp
  have dq:d≠q:=λz=>by rw[<- z,d8 dp,d9] at hq;cases hq
  have pq:p≠q:=λz=>by rw[<- z,d9] at hq;cases hq
  have hp0:H p=none:=by rw[d8 dp.symm] at hp;exact hp
  have hq0:H q=none:=by rw[d8 pq.symm,d8 dq.symm] at hq;exact hq
  refine⟨by rw[d8 dq,d8 dp,d9],kvQ "rouse" .non .non 0 0 0 p q,rfl,(by show 8<=15;decide),k d p q _ ⟨hd,hp0,hq0,pq,λb v e=>?_,d9,by rw[d8 dp.symm,d8 pq,d9],by rw[d8 dq.symm,d9]⟩⟩
  rw[d8 (k8 e hd),d8 (k8 e hq0),d8 (k8 e hp0),d8 (k8 e hd)];exact e
noncomputable def e6b(n:Nat):Ow:=⟨n,a9l n,b4d,b4d,[],[],[]⟩
def Nd(H:Hp)(l:List Addr):Prop:=l.Nodup/\∀x∈l,∃o,H x=some o
theorem Nd.new{H H':Hp}{l:List Addr}{y:Addr}{o:HO}(h:Nd H l)(s:Same H H')(hy:H y=none)(e:H' y=some o):Nd H' (y::l) :=
 ⟨List.nodup_cons.mpr ⟨(λz=>by obtain⟨o,q⟩:=h.2 _ z;rw[hy] at q;cases q),h.1⟩,λx hx=>by
  rcases List.mem_cons.mp hx with rfl|hx
  ·exact⟨_,e⟩
  ·obtain⟨o,q⟩:=h.2 x hx;exact⟨o,s _ _ q⟩⟩
theorem freshO.nd{H H':Hp}{d p q:Addr}{l:List Addr}(f:freshO H H' d p q)(h:Nd H l):Nd H' (d::p::q::l):=by
 obtain⟨f1,f2,f3,f4,f5,f6,f7,f8⟩:=f;have off:∀y,H y=none->y ∉ l:=λy hy z=>by obtain⟨o,e⟩:=h.2 _ z;rw[hy] at e;cases e
 refine⟨List.nodup_cons.mpr ⟨λz=>?_,List.nodup_cons.mpr ⟨λz=>?_,List.nodup_cons.mpr ⟨off q f3,h.1⟩⟩⟩,λx hx=>?_⟩
 ·rcases List.mem_cons.mp z with rfl|z
  ·rw[f6] at f7;cases f7
  ·rcases List.mem_cons.mp z with rfl|z
   ·rw[f6] at f8;cases f8
   ·exact off d f1 z
 ·rcases List.mem_cons.mp z with z|z
  ·exact f4 z
  ·exact off p f2 z
 ·rcases List.mem_cons.mp hx with rfl|hx
  ·exact⟨_,f6⟩
  ·rcases List.mem_cons.mp hx with rfl|hx
   ·exact⟨_,f7⟩
   ·rcases List.mem_cons.mp hx with rfl|hx
    ·exact⟨_,f8⟩
    ·obtain⟨o,e⟩:=h.2 x hx;exact⟨o,f5 _ _ e⟩
def sg(j:Nat):Nat:=[11,10,3,7,4,8,5,9,6,2,1,0].getD j 0
theorem e3c:(List.range 12).all (λi=>decide (sg i<12) && (List.range 12).all λj=>decide (sg i=sg j->i=j))=true:=by decide
def b7l:Sp:=λvs H Q _=>∃n:Nat,vs=[.int n]/\2<=n/\n<=8/\∀a H',(∀j,j<12->H (a j)=none)->Same H H'->OWx H' a (e6b n) [] [] []->Q (.ref (a 0)) H'
abbrev b4w:Stmt:=top 109
theorem c7o:i8 ["size"] ["size"] (g9 b4w):=↑1
theorem c8i(D:DefT K mg "_law_lane" b4w ["size"])(T:↑14)(G_law_fresh:↑901 "_law_fresh" 1 [] a8c):↑901 "_law_lane" 2 ["size"] b7l:=by
 refine D.fn c7o ↑8 ↑7
 ·obtain⟨n,rfl,n2,n8,k⟩:=h
  refine⟨_,(@d7 _ _ _ (@m8 _ _ _ _ (@d3k _ _ _ _ _ (@a0v _ _ _ _ _ _ _ _ _ m4 (pu 0) (@a0v _ _ _ _ _ _ _ _ _ m4 (k7 c5e (k7 c0o (v5 (d5 i4 (d5 (d1g c0c i4) (d5 i4 ↑25)))) (pu 0)) (v5 (d5 (d1g c0c i4) (d5 (d1g c0c i4) (d5 i4 ↑25))))) (@a0v _ _ _ _ _ _ _ _ _ m4 (v5 (d5 (d3j G_law_fresh hr ↑4 rfl j4) (d5 (d3j G_law_fresh hr ↑4 rfl j4) i9))) (@a0v _ _ _ _ _ _ _ _ _ m4 (v5 i9) (@a0v _ _ _ _ _ _ _ _ _ m4 (v5 i9) (@a0v _ _ _ _ _ _ _ _ _ m4 (v5 i9) d3c)))))) rfl rfl (List.cons_ne_nil _ _) (Nat.le_of_ble_eq_true rfl)))),?_⟩;fail "ah";refine d9a λd hd=>?_;generalize u0:upd H d (.dK [])=H0;obtain⟨s0,e0⟩:=nwS u0 hd;have nd:Nd H0 [d]:=⟨List.nodup_cons.mpr ⟨(λz=>by cases z),List.nodup_nil⟩,λx hx=>by rw[List.mem_singleton.mp hx];exact⟨_,e0⟩⟩
  fail "";refine⟨(by show 4<=sizeLine;lia),λp1 hp1=>?_⟩
  generalize u1:upd H0 p1 _=H1;obtain⟨s1,e1⟩:=nwS u1 hp1;fail "";refine⟨p1,_,_,rfl,rfl,e1,by lia,by lia,(by show 4*(n:Int).toNat<=_;lia),λp2 hp2=>?_⟩
  generalize u2:upd H1 p2 _=H2;obtain⟨s2,e2⟩:=nwS u2 hp2;fail "";refine⟨(by show 4<=sizeLine;lia),λp3 hp3=>?_⟩
  generalize u3:upd H2 p3 _=H3;obtain⟨s3,e3⟩:=nwS u3 hp3;have cells:(List.replicate (n:Int).toNat [V.int 2,.int (-1),.int 0,.int 0]).flatten++[.int (-1),.int (-1),.int 0,.int 0]=(a9l n).map V.int:=by
   have:n=2\/n=3\/n=4\/n=5\/n=6\/n=7\/n=8:=by lia
   rcases this with rfl|rfl|rfl|rfl|rfl|rfl|rfl <;> rfl
  refine d4y (s3 _ _ e2) e3 ?_ λp4 hp4=>?_
  ·rw[<- List.length_append,cells,List.length_map,c0q];lia
  rw[cells];generalize u4:upd H3 p4 _=H4;obtain⟨s4,e4⟩:=nwS u4 hp4;have sd4:=(s1.trans s2).trans s3;have nd4:Nd H4 [p4,d]:=Nd.new ⟨nd.1,λx hx=>by obtain⟨o,e⟩:=nd.2 x hx;exact⟨o,sd4 _ _ e⟩⟩ s4 hp4 e4
  fail "";refine⟨rfl,λd0 p0 q0 H5 f5=>?_⟩;have nd5:=f5.nd nd4;obtain⟨a5,b5,c5,_,s5,x5,y5,z5⟩:=f5;fail "";refine⟨rfl,λd1 p6 q6 H6 f6=>?_⟩;have nd6:=f6.nd nd5;obtain⟨a6,b6,c6,_,s6,x6,y6,z6⟩:=f6;fail "";refine⟨(by show 2<=sizeLine;lia),λph hph=>?_⟩
  generalize u7:upd H6 ph _=H7;obtain⟨s7,e7⟩:=nwS u7 hph;have nd7:=nd6.new s7 hph e7;fail "";refine⟨Nat.zero_le _,λpo hpo=>?_⟩;generalize u8:upd H7 po _=H8;obtain⟨s8,e8⟩:=nwS u8 hpo;have nd8:=nd7.new s8 hpo e8;fail "";refine⟨Nat.zero_le _,λpb hpb=>?_⟩;generalize u9:upd H8 pb _=H9;obtain⟨s9,e9⟩:=nwS u9 hpb;have nd9:=nd8.new s9 hpb e9;fail "";refine⟨Nat.zero_le _,λpt hpt=>?_⟩;generalize uA:upd H9 pt _=HA;obtain⟨sA,eA⟩:=nwS uA hpt;have ndA:=nd9.new sA hpt eA;fail "";have t9:=sA;have t8:=s9.trans t9;have t7:=s8.trans t8;have t6:=s7.trans t7;have t5:=s6.trans t6;have t4:=s5.trans t5;have t0:=sd4.trans (s4.trans t4);have ob:∃a:Nat->Addr,a=λj=>[pt,pb,po,ph,d1,p6,q6,d0,p0,q0,p4,d].getD (sg j) d:=⟨_,rfl⟩;obtain⟨a,ea⟩:=ob;refine⟨t0 _ _ e0,kvO n a,by rw[ea];rfl,(by show 6<=15;decide),?_⟩
  have inj:∀i j,i<12->j<12->i≠j->a i≠a j:=λi j hi hj ne e=>by
   have q:=List.all_eq_true.mp e3c i (List.mem_range.mpr hi);rw[Bool.and_eq_true] at q;have qj:=List.all_eq_true.mp e3c j (List.mem_range.mpr hj);rw[Bool.and_eq_true] at qj;have r:=of_decide_eq_true (List.all_eq_true.mp q.2 j (List.mem_range.mpr hj));have l1:=of_decide_eq_true q.1;have l2:=of_decide_eq_true qj.1;refine ne (r ?_);rw[ea] at e;have e:[pt,pb,po,ph,d1,p6,q6,d0,p0,q0,p4,d].getD (sg i) d=[pt,pb,po,ph,d1,p6,q6,d0,p0,q0,p4,d].getD (sg j) d:=e;rw[List.getD_eq_getElem?_getD,List.getD_eq_getElem?_getD,List.getElem?_eq_getElem (show sg i<[pt,pb,po,ph,d1,p6,q6,d0,p0,q0,p4,d].length from l1),List.getElem?_eq_getElem (show sg j<[pt,pb,po,ph,d1,p6,q6,d0,p0,q0,p4,d].length from l2)] at e;exact(List.getElem?_inj l1 ndA.1).mp (by rw[List.getElem?_eq_getElem (show sg i<[pt,pb,po,ph,d1,p6,q6,d0,p0,q0,p4,d].length from l1),List.getElem?_eq_getElem (show sg j<[pt,pb,po,ph,d1,p6,q6,d0,p0,q0,p4,d].length from l2)];exact congrArg some e)
  have ad:d=a 0:=by rw[ea];rfl
  have nd0:∀j,j<12->j≠0->a j≠d:=λj hj ne=>ad ▸ inj j 0 hj ↑4 ne;rw[ad];have cs:∀{j:Nat},j<12->j≠0->j=1\/j=2\/j=3\/j=4\/j=5\/j=6\/j=7\/j=8\/j=9\/j=10\/j=11:=by lia
  have r3:=s0.trans sd4;have r4:=r3.trans s4;have r5:=r4.trans s5;have r6:=r5.trans s6;have r7:=r6.trans s7;have r8:=r7.trans s8;have r9:=r8.trans s9;have rA:=r9.trans sA;subst ea;refine k _ _ (λj hj=>?_) (λx o e=>(d8 (show x≠d from k8 e hd)).trans (rA _ _ e)) ⟨inj,λj hj=>?_,⟨rfl,λi p o hp=>by simp at hp⟩,⟨rfl,λi p o hp=>by simp at hp⟩,⟨rfl,λi p t hp=>by simp at hp⟩⟩
  ·by_cases z:j=0
   ·subst z;exact hd
   rcases cs hj z with rfl|rfl|rfl|rfl|rfl|rfl|rfl|rfl|rfl|rfl|rfl
   ·exact n6 r3 hp4
   ·exact n6 r6 hph
   ·exact n6 r4 a5
   ·exact n6 r5 a6
   ·exact n6 r4 b5
   ·exact n6 r5 b6
   ·exact n6 r4 c5
   ·exact n6 r5 c6
   ·exact n6 r7 hpo
   ·exact n6 r8 hpb
   ·exact n6 r9 hpt
  ·by_cases z:j=0
   ·subst z;exact d9
   refine (d8 (nd0 j hj z)).trans ?_;rcases cs hj z with rfl|rfl|rfl|rfl|rfl|rfl|rfl|rfl|rfl|rfl|rfl
   ·exact t4 _ _ e4
   ·exact t7 _ _ e7
   ·exact t5 _ _ x5
   ·exact t6 _ _ x6
   ·exact t5 _ _ y5
   ·exact t6 _ _ y6
   ·exact t5 _ _ z5
   ·exact t6 _ _ z6
   ·exact t8 _ _ e8
   ·exact t9 _ _ e9
   ·exact eA
set_option hygiene false in
local macro_rules | `(tactic| walk_at "go1")=>`(tactic| first|walk_at "ga"|((with_reducible refine' c7f ?h ?v ?_);(case h=>assumption);(case v=>exact rfl)))
theorem c7g(b:Bool):decide (V.int (wi b)=V.int 0)=b:=by cases b <;> rfl
def b0m:Sp:=λvs H Q _=>E4 λ(a:Nat->Addr)(s:Ow)(L:Ln)(b:Bool)=>vs=[.ref (a 0),.int (wi b)]/\OW H a s/\ORel s L/\Ok L/\s.tr.length<=4000000/\L.os.length<=400/\∀H' a' s',a' 0=a 0->OW H' a' s'->ORel s' (b7g b L)->s'.tr=trB b L s.tr->Q (.bl (!a6n b L)) H'
theorem e0f{s:Ow}{L:Ln}(h:ORel s L)(ok:Ok L):d6s s=a6n true L:=by
 unfold d6s a6n;rw[h.g.st,h.os,Bool.true_and];by_cases e:L.gs=.look
 ·have p:=(h.g.po (by rw[e];rfl) (by rw[e];decide) (by rw[e];decide)).1
  rw[c3n e] at p;rw[e,p,decide_eq_true (show y9 .look="look" from rfl),decide_eq_true (show Stg.look=.look from rfl),Bool.true_and,Bool.true_and,decide_eq_decide];have gt:=ok.core.gt;constructor
  ·intro z
   by_cases y:L.g<tot L.os
   ·have:=a3u y;lia
   ·lia
  ·intro z
   rw[c3d ↑2];exact Int.le_refl _
 ·rw[decide_eq_false e,decide_eq_false (λz=>e (a3l (z.trans (show("look":Str)=y9 .look from rfl)))),Bool.false_and,Bool.false_and]
theorem b7f{x:Stg}{l:List Stg}:inV (.str (y9 x)) (l.map λy=>V.str (y9 y))=decide (x∈l):=by
 unfold inV;rw[List.any_map,Bool.eq_iff_iff,List.any_eq_true,decide_eq_true_iff];constructor
 ·rintro⟨y,hy,e⟩
  have:y9 y=y9 x:=by
   have e:eqV (.str (y9 y)) (.str (y9 x))=true:=e;rw[a9p] at e;exact of_decide_eq_true e
  exact a3l this ▸ hy
 ·exact λh=>⟨x,h,by show eqV (.str (y9 x)) (.str (y9 x))=true;rw[a9p];exact decide_eq_true rfl⟩
abbrev a7i:Stmt:=top 120
theorem b0q:i8 ["lane","who","stage"] ["lane","who"] (g9 a7i):=↑1
theorem b9u(D:DefT K mg "_law_stepped" a7i ["lane","who"])(T:↑14)(G_law_rests:↑901 "_law_rests" 1 ["lane"] b5v)(G_law_rise:↑901 "_law_rise" 2 ["lane","who"] b7j)(G_law_wait:↑901 "_law_wait" 2 ["lane","who"] b7i)(G_law_remember:↑901 "_law_remember" 2 ["lane"] a8b)(G_law_give:↑901 "_law_give" 2 ["lane"] b7m)(G_law_frees:↑901 "_law_frees" 2 ["lane"] b5y)(G_law_takes:↑901 "_law_takes" 2 ["lane"] b5t):↑901 "_law_stepped" 3 ["lane","who"] b0m:=by
 refine D.fn b0q ↑8 ↑7
 ·obtain⟨a,o,L,b,rfl,ow,rel,ok,lt,os4,k⟩:=h
  refine⟨_,(d6 (l9 (i:=2) b0q.nd rfl ↑22 (b5f ↑23 (a0c ↑19 ↑10 (pu 1) ↑11) m4 ↑11))
   (d6 (x0 (PW.pt (c4y (l7 a0m (pu 1) i4 ↑43) (b8k (a9g (m3 G_law_rests hr ↑4 rfl j4 ↑49)))))
     ↑101
     v6)
   (d6 (x0 (l7 (b6k (K:=K)) (pu 2) (v5 (d5 m4 (d5 m4 ↑18))) ↑58)
     (d7 (j9 (m3 G_law_rise hr ↑4 rfl j4 (d5 (pu 0) ↑64))))
     (d7 (x0 (l7 (b6k (K:=K)) (pu 2) (v5 (d5 m4 (d5 m4 (d5 m4 ↑18)))) ↑58)
      (d7 (j9 (m3 G_law_wait hr ↑4 rfl j4 (d5 (pu 0) ↑64))))
      (d7 (x0 (l7 (b6k (K:=K)) (pu 2) (v5 ↑18) ↑58)
        (d7 (j9 (m3 G_law_remember hr ↑4 rfl j4 ↑49)))
        (d7 (x0 (l7 a0m (pu 1) i4 ↑43)
         (d7 (j9 (m3 G_law_give hr ↑4 rfl j4 ↑49)))
         (d7 (x0 (l7 (b6k (K:=K)) (pu 2) (v5 (d5 m4 ↑18)) ↑58)
           (d7 (j9 (m3 G_law_frees hr ↑4 rfl j4 ↑49)))
           (d7 (j9 (m3 G_law_takes hr ↑4 rfl j4 ↑49))))))))))))
   ↑101))),?_⟩
  fail "ar";have e0:H (a 0)=some (.dK (kvO o.n a)):=owx.e0;have e2:=owx.hs;have eh:=owx.eh b;have est:(o.h b).st=y9 (c3z b L):=by cases b;exact rel.t.st;exact rel.g.st
  rw[est] at eh;have nL:=rel.n;have n2:=ok.core.n2;have n8:=ok.core.n8;have lc:o.c.length=4*o.n+4:=by rw[rel.c,c9s,nL]
  fail "";refine a1c e2 (b9f a b) ?_;fail "";rw[c7g];rename_i nX hX;fail "ah";have key:a6n b L=false->nX [some (.ref (a 0)),some (.int (wi b)),some (.str (y9 (c3z b L)))] H:=λhr0=>by
   have fin:∀H' a' s',a' 0=a 0->OW H' a' s'->c7e b o L s'->Q (.bl true) H':=λH' a' s' h1 h2 h3=>by
    have:=k H' a' s' h1 h2 h3.1 (by rw[c3w hr0];exact h3.2)
    rw[hr0] at this;exact this
   refine b9b hX ?_;clear hX;generalize ex:c3z b L=x at *;fail "";refine⟨(by show 4<=sizeLine;lia),λp1 hp1=>?_⟩
   generalize u1:upd H p1 _=H1;obtain⟨s1,f1⟩:=nwS u1 hp1;refine⟨p1,_,rfl,.inl (SqL.of f1),rfl,rfl,?_⟩;rw[show inV (.str (y9 x)) [V.str "rouse",.str "clear",.str "mute",.str "marks"]=decide (x∈[.rouse,.clear,.mute,.marks]) from b7f (l:=[.rouse,.clear,.mute,.marks])];fail "ag";refine a4j (λy1=>?_) (λy1=>?_)
   ·have hx:x=.rouse\/x=.clear\/x=.mute\/x=.marks:=by simpa using y1
    fail "";cases b with
    | true=>
     obtain⟨r1,r2⟩:=e3i rel ok ex hx;refine⟨a,o,true,_,x,rfl,⟨ks,bs,ts,owx.same s1⟩,by lia,by lia,lc,lt,hx,est,r2,λH2 s' h1 h2=>?_⟩
     fail "";exact fin H2 a s' rfl h1 (h2 ▸ r1)
    | false=>
     obtain⟨r1,r2⟩:=e3h rel ok ex hx;refine⟨a,o,false,_,x,rfl,⟨ks,bs,ts,owx.same s1⟩,by lia,by lia,lc,lt,hx,est,r2,λH2 s' h1 h2=>?_⟩
     fail "";exact fin H2 a s' rfl h1 (h2 ▸ r1)
   fail "";refine⟨(by show 5<=sizeLine;lia),λp2 hp2=>?_⟩
   generalize u2:upd H1 p2 _=H2;obtain⟨s2,f2⟩:=nwS u2 hp2;refine⟨p2,_,rfl,.inl (SqL.of f2),rfl,rfl,?_⟩;rw[show inV (.str (y9 x)) [V.str "wish",.str "again",.str "sleep",.str "hush",.str "unwish"]=decide (x∈[.wish,.again,.sleep,.hush,.unwish]) from b7f (l:=[.wish,.again,.sleep,.hush,.unwish])];fail "ag";refine a4j (λy2=>?_) (λy2=>?_)
   ·have wx:x.wait=true:=by
     have hx:x=.wish\/x=.again\/x=.sleep\/x=.hush\/x=.unwish:=by simpa using y2
     rcases hx with rfl|rfl|rfl|rfl|rfl <;> rfl
    have nc:Stg.come x=false:=by cases x <;> first|rfl|exact absurd wx ↑4
    have nf:x.frees=false:=by cases x <;> first|rfl|exact absurd wx ↑4
    fail "";cases b with
    | true=>
     have sp:=rel.g.spG ex nc;rw[c3n ex nf] at sp;have tn:=a0q (i:=L.g) ok.hn;refine⟨a,o,true,_,x,rfl,⟨ks,bs,ts,(owx.same s1).same s2⟩,⟨by lia,by lia,lc,sp,tn.1,by lia,lt⟩,wx,est,λH3 h1=>?_⟩
     fail "";exact fin H3 a _ rfl h1 (e2m rel ok ex wx)
    | false=>
     have sp:=rel.t.spT ex nc;have tn:=a0q (i:=L.t) ok.hn;refine⟨a,o,false,_,x,rfl,⟨ks,bs,ts,(owx.same s1).same s2⟩,⟨by lia,by lia,lc,sp,tn.1,by lia,lt⟩,wx,est,λH3 h1=>?_⟩
     fail "";exact fin H3 a _ rfl h1 (e2l rel ok ex wx)
   fail "";refine⟨(by show 2<=sizeLine;lia),λp3 hp3=>?_⟩
   generalize u3:upd H2 p3 _=H3;obtain⟨s3,f3⟩:=nwS u3 hp3;refine⟨p3,_,rfl,.inl (SqL.of f3),rfl,rfl,?_⟩;rw[show inV (.str (y9 x)) [V.str "told",.str "lacks"]=decide (x∈[.told,.lacks]) from b7f (l:=[.told,.lacks])];fail "ag";refine a4j (λy3=>?_) (λy3=>?_)
   ·have hx:x=.told\/x=.lacks:=by simpa using y3
    have hb:b=true:=by
     cases b with
     | true=>rfl
     | false=>
      have:=ok.tk.st;rw[show L.ts=x from ex] at this;rcases hx with rfl|rfl
      ·exact absurd rfl this.1
      ·exact absurd rfl this.2.1
    subst hb;obtain⟨told,et⟩:∃told:Bool,x=if told then .told else .lacks:=by
     rcases hx with rfl|rfl
     ·exact⟨true,rfl⟩
     ·exact⟨false,rfl⟩
    have eg:L.gs=if told then .told else .lacks:=by rw[<- et];exact ex
    have sp:=rel.g.spG ex (by rw[et];cases told <;> rfl)
    rw[c3n ex (by rw[et];cases told <;> rfl)] at sp
    have tn:=a0q (i:=L.g) ok.hn;fail "";refine⟨a,o,_,told,rfl,⟨ks,bs,ts,((owx.same s1).same s2).same s3⟩,⟨by lia,by lia,lc,sp,tn.1,by lia,lt⟩,by rw[<- et];exact est,λz1 z2=>?_,λH4 h1=>?_⟩
    ·subst z1
     have la:=rel.g.la eg;rw[la] at z2 ⊢;cases hG:L.g with
     | zero=>rw[hG] at z2;exact absurd z2 (by show ¬ (0:Int) <= -1;decide)
     | succ j=>
      have:=a3u (os:=L.os) (i:=j) (by have:=ok.core.gt;lia)
      show(m6 L.os j:Int)<_;rw[rel.os];lia
    ·fail ""
     exact fin H4 a _ rfl h1 (e6s rel ok told eg)
   fail "";rw[c7g];have s123:=(s1.trans s2).trans s3;have y1:¬ (x=.rouse\/x=.clear\/x=.mute\/x=.marks):=by simpa using y1
   have y2:¬ (x=.wish\/x=.again\/x=.sleep\/x=.hush\/x=.unwish):=by simpa using y2
   have y3:¬ (x=.told\/x=.lacks):=by simpa using y3
   cases b with
   | true=>
    have hx:x=.look\/x=.number\/x=.left\/x=.thing\/x=.mark\/x=.card\/x=.ring:=by
     have:=ok.gv.st;rw[show L.gs=x from ex] at this;cases x <;> simp_all
    have nc:Stg.come x=false:=by rcases hx with rfl|rfl|rfl|rfl|rfl|rfl|rfl <;> rfl
    have sp:=rel.g.spG ex nc;have tn:=a0q (i:=gi L) ok.hn;have gd:=ok.core.good;have gt:=ok.core.gt;have hl:x=.look->L.g<tot L.os:=λz=>by
     unfold a6n at hr0;rw[show L.gs=.look from ex.trans z,Bool.true_and] at hr0;have:¬ tot L.os<=L.g:=λz2=>by rw[decide_eq_true z2] at hr0;cases hr0
     lia
    have po:=rel.g.po (by rw[show L.gs=x from ex];exact nc) (by rw[show L.gs=x from ex];rintro rfl;exact y3 ↑22) (by rw[show L.gs=x from ex];rintro rfl;exact y3 (.inr rfl))
    have gil:gi L<tot L.os:=by
     rcases hx with rfl|rfl|rfl|rfl|rfl|rfl|rfl
     ·rw[c3n ex];exact hl rfl
     ·rw[c3n ex];exact(ok.gv.room (by rw[show L.gs=_ from ex];rfl)).1
     ·rw[c3n ex];exact(ok.gv.room (by rw[show L.gs=_ from ex];rfl)).1
     ·rw[c3n ex];exact(ok.gv.room (by rw[show L.gs=_ from ex];rfl)).1
     ·rw[c3n ex];exact(ok.gv.room (by rw[show L.gs=_ from ex];rfl)).1
     ·have:=ok.gv.pos (by rw[show L.gs=_ from ex];rfl);rw[d2b ex rfl];lia
     ·have:=ok.gv.pos (by rw[show L.gs=_ from ex];rfl);rw[d2b ex rfl];lia
    have nl:=a3u gil;fail "";refine⟨a,o,_,x,rfl,⟨ks,bs,ts,owx.same s123⟩,⟨by lia,by lia,lc,sp,tn.1,by lia,lt⟩,hx,est,?_,?_,λ_=>?_,λH4 s' h1 h2=>?_⟩
    ·rw[po.1];lia
    ·rw[po.1,rel.os];lia
    ·rw[po.1,po.2,rel.os,Int.toNat_natCast]
     obtain⟨q1,q2⟩:=a0g (n:=L.n) gil;obtain⟨o',_,o2,o3⟩:=a5p gil;rw[o2];lia
    ·fail ""
     exact fin H4 a s' rfl h1 (h2 ▸ e4q rel ok ex hx hl)
   | false=>
    fail "";refine⟨(by show 3<=sizeLine;lia),λp4 hp4=>?_⟩
    generalize u4:upd H3 p4 _=H4;obtain⟨s4,f4⟩:=nwS u4 hp4;refine⟨p4,_,rfl,.inl (SqL.of f4),rfl,rfl,?_⟩;rw[show inV (.str (y9 x)) [V.str "free",.str "card",.str "ring"]=decide (x∈[.free,.card,.ring]) from b7f (l:=[.free,.card,.ring])];fail "ag";have tn:=a0q (i:=L.t) ok.hn;refine a4j (λy4=>?_) (λy4=>?_)
    ·have hx:x=.free\/x=.card\/x=.ring:=by simpa using y4
     have nc:Stg.come x=false:=by rcases hx with rfl|rfl|rfl <;> rfl
     have fn:=a0q (i:=if x.frees then L.f-1 else L.f) ok.hn;fail "";refine⟨a,o,_,_,x,rfl,⟨ks,bs,ts,(owx.same s123).same s4⟩,⟨by lia,by lia,lc,rel.t.spT ex nc,tn.1,by lia,lt⟩,rel.t.fiT ex nc,fn.1,by rw[nL];exact fn.2,hx,est,λH5 a' s' h0 h1 h2=>?_⟩
     fail "";exact fin H5 a' s' h0 h1 (h2 ▸ e1s rel ok ex hx)
    ·have y4:¬ (x=.free\/x=.card\/x=.ring):=by simpa using y4
     have hx:x=.look\/x=.number\/x=.left\/x=.thing:=by
      have:=ok.tk.st;rw[show L.ts=x from ex] at this;cases x <;> simp_all
     have nc:Stg.come x=false:=by rcases hx with rfl|rfl|rfl|rfl <;> rfl
     have pl:o.t.ps.length<=1000:=by
      rw[rel.t.ps (by rw[show L.ts=x from ex];rcases hx with rfl|rfl|rfl|rfl <;> decide) (by rw[show L.ts=x from ex];rcases hx with rfl|rfl|rfl|rfl <;> rfl)]
      unfold y7;rw[List.length_map,List.length_range];have:=ok.tk.tg;have:=ok.core.gf;lia
     fail "";refine⟨a,o,_,x,rfl,⟨ks,bs,ts,(owx.same s123).same s4⟩,⟨by lia,by lia,lc,rel.t.spT ex nc,tn.1,by lia,lt⟩,hx,est,pl,by have:=ok.tk.bl;rw[rel.bk];lia,λH5 s' h1 h2=>?_⟩
     fail "";exact fin H5 a s' rfl h1 (h2 ▸ d9v rel ok ex hx)
  clear hX;cases b with
  | false=>
   fail "";exact key rfl
  | true=>
   fail "";refine⟨a,o,rfl,ow,?_⟩;rw[e0f rel ok];fail "";cases z:a6n true L with
   | true=>
    fail "";have q:=k H a o rfl ow (by rw[show b7g true L=L from c0j z];exact rel) (by rw[c9o z])
    rw[z] at q;exact q
   | false=>
    fail "";exact key z
end
end
section
open PySem PySem.Spec L2 Pr
section
variable{P:Program}{w:World}{K:Frag}{mg:Str->Option Value}{base:Heap}{cl:Cl}
noncomputable def hrB(b:Bool)(L:Ln):Hr:=if b then hrG L else hrT L
theorem GRel.hr{L:Ln}{G:Gm}(h:GRel L G):G.he=hrG L:=by
 unfold hrG;cases z:Stg.come L.gs with
 | true=>exact h.no z
 | false=>exact h.he z
theorem TRel.hr{L:Ln}{T:Tm}{ps:List Int}(h:TRel L T ps):T.he=hrT L/\T.nf=hrF L:=by
 unfold hrT hrF;cases z:Stg.come L.ts with
 | true=>exact h.no z
 | false=>exact⟨h.he z,h.nf z⟩
noncomputable abbrev b8h:Stmt:=o9 (top 72) 2
noncomputable abbrev b8g:Stmt:=o9 (top 100) 8
def TrL(H:Hp)(ps:List Addr)(tl:List Tr):Prop:=ps.length=tl.length/\∀(i:Nat)(p:Addr)(t:Tr),ps[i]?=some p->tl[i]?=some t->H p=some (d6b t)
theorem TrL.same{H H':Hp}{ps:List Addr}{tl:List Tr}(h:TrL H ps tl)(s:Same H H'):TrL H' ps tl:=⟨h.1,λi p t hp ht=>s _ _ (h.2 i p t hp ht)⟩
def b3a(cl:Cl):Sp:=λvs H Q _=>ExN λla A L tl=>vs=[.ref la]/\LN cl H la A L tl/\∀p ps,H p=none->TrL H ps tl->Q (.ref p) (upd H p (.lst (ps.map V.ref)))
noncomputable abbrev a8z:Stmt:=o9 (top 100) 13
theorem c1v:i8 ["self"] ["self"] (g9 a8z):=↑1
theorem c2w(D:DefM K cl.Lane "trail" "Lane.trail" a8z ["self"])(T:↑14):↑904 cl.Lane "trail" 1 ["self"] (b3a cl):=by
 refine D.fn c1v ↑8 ↑3
 ·obtain⟨la,A,L,tl,rfl,hN,k⟩:=h
  refine⟨_,(d7 (m8 (v2 (a4l (K:=K)) (by rfl) T.z_list PyProof.Rows.boot_list ↑130))),?_⟩
  fail "al";obtain⟨ps,e,l,r⟩:=hL.tr;fail "";intro p hp;exact k p ps hp ⟨l,λi q t hq ht=>(r i q t hq ht).2.2⟩
set_option hygiene false in
local macro_rules | `(tactic| walk_at "go1")=>`(tactic| first|walk_at "ga"|((with_reducible refine' c7f ?h ?v ?_);(case h=>assumption);(case v=>exact rfl)))
theorem d0k{H:Hp}{n:Nat}{p q:Addr}{xs ys:List V}(ne:p≠q)(hp:↑92)(hq:H q=some (.lst ys))(hl:xs.length=ys.length)(h:∀(j:Nat) (x y:V),xs[j]?=some x->ys[j]?=some y->EqD K H n x y true):EqD K H (n+1) (.ref p) (.ref q) true:=by
 have z:=EqD.lst (K:=K) (e:=λ_=>true) ne (SqL.of hp) (SqL.of hq) hl h;rw[show(List.range xs.length).all (λ_=>true)=true by simp] at z
 exact z
theorem d0j{H:Hp}{n:Nat}{x:V}(f:a5b x=true)(e:eqV x x=true):EqD K H n x x true:=by
 have z:=EqD.flat (K:=K) (H:=H) (n:=n) f f;rw[e] at z;exact z
theorem d5c{H:Hp}{n:Nat}{p q:Addr}{xs:List V}(ne:p≠q)(hp:↑92)(hq:H q=some (.lst xs))(h:∀x∈xs,a5b x=true/\eqV x x=true):EqD K H (n+1) (.ref p) (.ref q) true :=
 d0k ne hp hq rfl λj x y hx hy=>by
  rw[hx] at hy;cases hy;have:=h x (List.mem_of_getElem? hx);exact d0j this.1 this.2
theorem d8c{H:Hp}{n:Nat}{p q:Addr}{ns:List Int}(ne:p≠q)(hp:H p=some (.lst ↑81))(hq:H q=some (.lst ↑81)):EqD K H (n+1) (.ref p) (.ref q) true :=
 d5c ne hp hq λx hx=>by
  obtain⟨i,_,rfl⟩:=List.mem_map.mp hx;exact⟨rfl,by simp[eqV]⟩
def nmB(b:Bool):Str:=if b then "giver" else "taker"
theorem e4p(b:Bool):HN b (nmB b):=by cases b;exact .inr ⟨rfl,rfl⟩;exact .inl ⟨rfl,rfl⟩
theorem OW.same{H H':Hp}{a:Nat->Addr}{s:Ow}(h:OW H a s)(m:Same H H'):OW H' a s:=by
 obtain⟨ks,bs,ts,x⟩:=h;exact⟨ks,bs,ts,x.same m⟩
end
end
section
variable{P:Program}{w:World}{K:Frag}{mg:Str->Option Value}{base:Heap}{cl:Cl}
theorem e6v{α:Type}{ns:List α}{Pr:α->Prop}(h:∀v∈ns,Pr v){r:Int}(h0:0<=r)(h1:r<ns.length):∃v,atI ns r=some v/\Pr v:=by
 have hr:r.toNat<ns.length:=by lia
 refine⟨ns[r.toNat],?_,h _ (List.getElem_mem hr)⟩;unfold atI;have e:=e4i hr;rw[show((r.toNat:Nat):Int)=r by lia] at e
 rw[e];exact List.getElem?_eq_getElem hr
theorem e3o{ps:List Addr}{Pr:Addr->Prop}(h:∀v∈ps,Pr v){r:Int}(h0:0<=r)(h1:r<ps.length):∃v,atI (ps.map V.ref) r=some (.ref v)/\v∈ps/\Pr v:=by
 obtain⟨v,e,x,hx,rfl⟩:=e6v (ns:=ps.map V.ref) (Pr:=λv=>∃x,x∈ps/\V.ref x=v) (λv hv=>List.mem_map.mp hv) h0 (by rw[List.length_map];exact h1)
 exact⟨x,e,hx,h x hx⟩
theorem c9g{lo:Int}{n:Nat}{nt:Nat}{fr:List Nat}{g:TG}{te:TE}{σ:St}{H:Hp}{Q:Addr->Hp->Prop}(hz:n<sizeLine)(Pv:Addr->Nat->List V->Hp->Prop)(h0:∀D,H D=none->Pv D 0 [] ↑108)(hk:∀D i acc H',Pv D i acc H'->H' D=some ↑88/\acc.length=i)(hs:∀D i acc H',H D=none->i<n->Pv D i acc H'->g (.int (lo+(i:Int))) ↑68 H' λσ2 H2=>te σ2 H2 λy H3=>H3 D=some ↑88/\Pv D (i+1) ↑50 (upd H3 D ↑44))(hd:∀D acc H',H D=none->Pv D n acc H'->Q D H'):
  ∀D,H D=none->∃(m:Nat)(W:↑113),W 0 [] ↑108/\∀i acc H',W i acc H'->H' D=some ↑88/\acc.length<sizeLine /\
   (((Itr lo n).stop i H'/\Q D H')\/(i<m/\(Itr lo n).go i H'/\∀x H2,(Itr lo n).yld i H' x H2->g x ↑68 H2 λσ2 H3=>te σ2 H3 λy H4=>H4 D=some ↑88/\W (i+1) ↑50 ↑144)):=by
 intro D hD;refine⟨n,λi acc H'=>i<=n/\Pv D i acc H',⟨Nat.zero_le _,h0 D hD⟩,?_⟩;rintro i acc H' ⟨hi,p⟩;obtain⟨k1,k2⟩:=hk D i acc H' p;refine⟨k1,by lia,?_⟩
 by_cases h:i<n
 ·refine .inr ⟨h,h,?_⟩
  rintro x H2 ⟨rfl,rfl⟩;have key:=hs D i acc _ hD h p;have e:(λ(σ2:St) (H2:Hp)=>te σ2 H2 λy H3=>H3 D=some ↑88/\Pv D (i+1) ↑50 (upd H3 D ↑44))=(λ(σ2:St) (H3:Hp)=>te σ2 H3 λy H4=>H4 D=some ↑88/\i+1<=n/\Pv D (i+1) ↑50 ↑144):=by
   funext σ2 H3;have:(λ(y:V) (H3:Hp)=>H3 D=some ↑88/\Pv D (i+1) ↑50 (upd H3 D ↑44))=(λ(y:V) (H4:Hp)=>H4 D=some ↑88/\i+1<=n/\Pv D (i+1) ↑50 ↑144):=by
    funext y H4;have h1:i+1<=n:=h;simp[h1]
   rw[this]
  rw[e] at key;exact key
 ·have e:i=n:=by lia
  subst e;exact .inl ⟨Nat.le_refl _,hd D acc H' hD p⟩
structure Wells(H0 H:Hp)(wl:Addr)(ws:List Addr):Prop where
 at':H wl=some (.lst (ws.map V.ref))
 same:Same H0 H
 new:H0 wl=none
 each:∀w∈ws,H0 w=none/\w≠wl/\Well H w
theorem Wells.take{H0 H H':Hp}{wl w:Addr}{ws:List Addr}(h:Wells H0 H wl ws)(hw:w∈ws)(w':Well H' w)(b:But w H H'):Wells H0 H' wl ws:=by
 obtain⟨n0,n1,_⟩:=h.each w hw;refine⟨b _ _ h.at' n1.symm,d6o h.same n0 b,h.new,λv hv=>?_⟩;obtain⟨m0,m1,m2⟩:=h.each v hv;refine⟨m0,m1,?_⟩;by_cases z:v=w
 ·subst z;exact w'
 ·obtain⟨a,c,p,e,r⟩:=m2
  exact⟨a,c,p,b _ _ e z,r⟩
theorem Wells.nw{H0 H:Hp}{wl p:Addr}{ws:List Addr}{o:HO}(h:Wells H0 H wl ws)(n:H p=none):Wells H0 (upd H p o) wl ws :=
 ⟨j1 n _ _ h.at',h.same.trans (j1 n),h.new,λv hv=>⟨(h.each v hv).1,(h.each v hv).2.1,(h.each v hv).2.2.same (j1 n)⟩⟩
theorem Wells.set{H0 H:Hp}{wl p:Addr}{ws:List Addr}{o:HO}(h:Wells H0 H wl ws)(n0:H0 p=none)(n:p≠wl)(ne:∀w∈ws,p≠w):Wells H0 (upd H p o) wl ws:=by
 refine⟨(d8 n.symm).trans h.at',h.same.set n0,h.new,λv hv=>⟨(h.each v hv).1,(h.each v hv).2.1,?_⟩⟩;obtain⟨a,c,q,e,r⟩:=(h.each v hv).2.2;exact⟨a,c,q,(d8 (ne v hv).symm).trans e,r⟩
theorem Wells.away{H0 H:Hp}{wl p:Addr}{ws:List Addr}(h:Wells H0 H wl ws)(n:H p=none):H0 p=none/\p≠wl/\∀w∈ws,p≠w:=by
 refine⟨h.same.free n,(k8 h.at' n).symm,λw hw=>(h.each w hw).2.2.ne n⟩
def b5x(K:↑29):Sp:=λvs H Q _=>E4 λ(c:Addr)(ns:List Int)(first most:Nat)=>vs=[.ref c,.int (first:Int),.int (most:Int)]/\SqL K H c ↑81/\ns.length<=63/\first<=10/\most<=1000 /\
 ∀(p:Addr)(H':Hp)(row:List Int),H p=none->H' p=some (.lst (row.map V.int))->Same H H'->row.length<=most->(∀x∈row,0<=x/\x<=4)->Q (.ref p) H'
theorem e9d{f a:Nat}(ha:a<=63)(hf:f<=10):∃m:Nat,1<=m/\m<=63/\(if (if (a:Int)<63 then (a:Int) else 63) > (f:Int)+1 then (if (a:Int)<63 then (a:Int) else 63) else (f:Int)+1)=f+m:=by
 by_cases h:(a:Int)<63
 ·rw[if_pos h]
  by_cases g:(a:Int) > f+1
  ·exact⟨a-f,by lia,by lia,by rw[if_pos g];lia⟩
  ·exact⟨1,by lia,by lia,by rw[if_neg g];lia⟩
 ·rw[if_neg h]
  by_cases g:(63:Int) > f+1
  ·exact⟨63-f,by lia,by lia,by rw[if_pos g];lia⟩
  ·exact⟨1,by lia,by lia,by rw[if_neg g];lia⟩
abbrev b1r:Stmt:=top 123
theorem v4:i8 ["script","first","most","wells","own","lean","rare","many","moves","stretch","who","k","well","way"] ["script","first","most"] (g9 b1r):=↑1
theorem c5r(D:DefT K mg "_law_moves" b1r ["script","first","most"])(T:↑14)(G_law_take:↑901 "_law_take" 1 ["well","many"] a6u)(G_law_well:↑901 "_law_well" 1 ["script","k"] (b0x K)):↑901 "_law_moves" 2 ["script","first","most"] (b5x K):=by
 refine D.fn v4 ↑8 ↑7
 ·obtain⟨c,ns,first,most,rfl,hc,hn,f10,m1000,k⟩:=h
  refine⟨_,(
        d6 (c0k (ix:=3) (N:=["k","script"]) (nt:=1) (fr:=[0]) rfl (c3p (i:=0) rfl rfl (by decide +kernel) (by decide +kernel) rfl rfl rfl rfl rfl rfl rfl) (d3g rfl T.z_range (d5 (pv 1) (d5 (v7 (d5m rfl) (by rfl) T.z_max PyProof.Rows.boot_max (d5 (k7 v3 (pv 1) i4) (d5 (v7 (d5l rfl) (by rfl) T.z_min PyProof.Rows.boot_min (d5 i4 (d5 ↑32 i9))) i9))) i9))) (a6d ↑4) (λ_ _ _ _ _=>a1b (i:=0) (show(["k","script"]:List Str).Nodup by decide +kernel) rfl (Or.inl rfl) (Or.inr rfl)) (λ_ _ _ _ _=>(m3 G_law_well hr ↑4 rfl d3n (d5 (pv 1) ↑48))) v4.nd rfl rfl)
   (d6 (l9 (i:=4) v4.nd rfl ↑22 (a0c ↑19 (pv 3) i4 ↑11))
   (d6 (l9 (i:=5) v4.nd rfl ↑22 (m3 G_law_take hr ↑4 rfl j4 (d5 (pv 4) ↑25)))
   (d6 (l9 (i:=6) v4.nd rfl ↑22 (a0c ↑19 (v5 (d5 i4 (d5 i4 ↑25))) (m3 G_law_take hr ↑4 rfl j4 (d5 (pv 4) ↑25)) ↑11))
   (d6 (l9 (i:=7) v4.nd rfl ↑22 (a0c ↑19 (v5 (d5 (m3 G_law_take hr ↑4 rfl j4 (d5 (pv 4) (d5 (k7 v3 (pv 2) i4) i9))) (d5 (pv 2) i9))) (m3 G_law_take hr ↑4 rfl j4 (d5 (pv 4) ↑25)) ↑11))
   (d6 (l9 (i:=8) v4.nd rfl ↑22 (v5 i9))
   (d6 (l9 (i:=9) v4.nd rfl ↑22 i4)
   (d6 (l9 (i:=10) v4.nd rfl ↑22 i4)
   (d6 (
         b8l a5o rfl (b3p rfl T.z_range (d5 (pv 7) i9)) (a1b (i:=11) v4.nd rfl ↑22)
     (
     d6 (l9 (i:=12) v4.nd rfl ↑22 (a0c ↑19 (pv 3) (k7 a0l (pv 11) (v7 ↑42 (by rfl) T.z_len PySem.boot_len (d5 (pv 3) i9))) ↑11))
     (d6 (l9 (i:=13) v4.nd rfl ↑22 (m3 G_law_take hr ↑4 rfl j4 (d5 (pv 12) (d5 (pv 6) i9))))
     (d7 (x0 (l7 b5h (pv 13) i4 ↑43)
      (d7 (j9 (z9 (K:=K) (pv 8) (d5 (k7 v3 i4 (pv 13)) i9))))
      (
       d6 (x0 (l7 a0m (pv 9) i4 ↑43)
        (
         d6 (l9 (i:=10) v4.nd rfl ↑22 (m3 G_law_take hr ↑4 rfl j4 (d5 (pv 12) ↑25)))
         (d7 (l9 (i:=9) v4.nd rfl ↑22 (k7 v3 i4 (m3 G_law_take hr ↑4 rfl j4 (d5 (pv 12) (d5 (a0c ↑19 (v5 (d5 i4 (d5 i4 (d5 i4 ↑25)))) (pv 5) ↑11) i9)))))))
        v6)
       (d6 (l9 (i:=9) v4.nd rfl ↑22 (k7 a2g (pv 9) i4))
       (d7 (j9 (z9 (K:=K) (pv 8) (d5 (pv 10) i9)))))))))))
   (d7 (m8 (pv 8)))))))))))),?_⟩
  have h20:2000<=sizeLine:=by decide
  fail "";refine⟨c,_,rfl,.inl hc,?_⟩;fail "";refine⟨_,_,rfl,?_⟩;fail "";refine⟨_,_,rfl,?_⟩;fail "";obtain⟨m,m1,m63,em⟩:=e9d (f:=first) (a:=(ns.map V.int).length) (by rw[List.length_map];exact hn) f10
  rw[em];refine⟨(first:Int),_,rfl,⟨by lia,by lia,by lia,by lia⟩,?_⟩
  rw[show((first:Int)+m-first).toNat=m by lia]
  refine c9g (lo:=(first:Int)) (n:=m) ↑2 (λD i acc H'=>∃ws:List Addr,acc=ws.map V.ref/\ws.length=i/\H D=none/\Wells H H' D ws) (λD hD=>⟨[],rfl,rfl,hD,d9,j1 hD,hD,by simp⟩) ?_ ?_ ?_
  ·rintro D i acc H' ⟨ws,rfl,hl,hD,hw⟩
   exact⟨hw.at',by rw[List.length_map];exact hl⟩
  ·rintro D i acc H' _ hi ⟨ws,rfl,hl,hD,hw⟩
   fail "";refine⟨c,ns,first+i,by simp,hw.same.seq hc,by lia,λw1 H2 n1 s2 ww=>?_⟩
   have av:=hw.away n1;refine⟨s2 _ _ hw.at',ws++[w1],by rw[List.map_append];rfl,by rw[List.length_append];show ws.length+1=_;lia,hD,?_⟩
   refine⟨by rw[d9,List.map_append];rfl,(hw.same.trans s2).set hD,hD,λv hv=>?_⟩
   have key:∀v,v≠D->Well H2 v->Well (upd H2 D (.lst (ws.map V.ref++[V.ref w1]))) v:=by
    rintro v nv ⟨a,b,pr,e,r⟩;exact⟨a,b,pr,(d8 nv).trans e,r⟩
   rcases List.mem_append.mp hv with h|h
   ·obtain⟨e1,e2,e3⟩:=hw.each v h
    exact⟨e1,e2,key v e2 (e3.same s2)⟩
   ·rw[List.mem_singleton.mp h]
    exact⟨av.1,av.2.1,key w1 av.2.1 ww⟩
  ·rintro wl acc H1 hD ⟨ws,rfl,hl,_,hw⟩
   have hpos:0<ws.length:=by lia
   obtain⟨own,howA,how,_⟩:=e3o (ps:=ws) (Pr:=λ_=>True) (λ_ _=>trivial) (r:=0) ↑2 ↑2;fail "";refine a1c hw.at' howA ?_;fail "";refine⟨own,4,rfl,(hw.each own how).2.2,by decide,by decide,λlean H2 a2 c2 w2 b2=>?_⟩
   have W2:=hw.take how w2 b2;fail "";refine⟨by show 3<=sizeLine;lia,λp hp=>?_⟩
   have W2':=W2.nw (o:=.lst [.int 8,.int 20,.int 60]) hp;have ap:=W2.away hp;fail "";refine⟨own,3,rfl,(W2'.each own how).2.2,by decide,by decide,λr3 H3 a3 c3 w3 b3=>?_⟩
   have W3:=W2'.take how w3 b3;have e3:H3 p=_:=b3 p _ d9 (ap.2.2 own how);obtain⟨rare,hrare,q1,q2⟩:=d3f (ns:=[8,20,60]) (Pr:=λv=>8<=v/\v<=60) (by intro v hv;simp only[List.mem_cons,List.not_mem_nil,or_false] at hv;lia) a3 c3
   refine a1c e3 hrare ?_;fail "";refine⟨own,_,rfl,(W3.each own how).2.2,by lia,by lia,λr4 H4 a4 c4 w4 b4=>?_⟩
   have W4:=W3.take how w4 b4;fail "";refine⟨by show 2<=sizeLine;lia,λp4 hp4=>?_⟩
   have W4':=W4.nw (o:=.lst [.int r4,.int most]) hp4;have ap4:=W4.away hp4;fail "";refine⟨own,2,rfl,(W4'.each own how).2.2,by decide,by decide,λr5 H5 a5 c5 w5 b5=>?_⟩
   have W5:=W4'.take how w5 b5;have e5:H5 p4=_:=b5 p4 _ d9 (ap4.2.2 own how);obtain⟨many,hmany,y1,y2⟩:=d3f (ns:=[r4,(most:Int)]) (Pr:=λv=>0<=v/\v<=most) (by intro v hv;simp only[List.mem_cons,List.not_mem_nil,or_false] at hv;lia) a5 c5
   refine a1c e5 hmany ?_;fail "";refine⟨Nat.zero_le _,λmv hmv=>?_⟩;have W6:=W5.nw (o:=.lst []) hmv;have av:=W5.away hmv;have e6:upd H5 mv (.lst []) mv=some (.lst (([]:List Int).map V.int)):=d9
   revert W6 e6
   generalize upd H5 mv (.lst [])=H6;intro W6 e6;fail "";refine b0c (n:=many.toNat) (λi σ H'=>E6 λx11 x12 x13 st who row=>σ=[some (.ref c),some (.int first),some (.int most),some (.ref wl),some (.ref own),some (.int lean),some (.int rare),some (.int many),some (.ref mv),some (.int st),some (.int who),x11,x12,x13]/\Wells H H' wl ws/\H' mv=some (.lst ((row:List Int).map V.int))/\row.length=i/\(∀x∈row,0<=x/\x<=4)/\0<=who/\who<=1) ⟨_,_,_,_,_,[],rfl,W6,e6,rfl,by simp,by decide,by decide⟩ ?_ ?_
   ·rintro i σ H7 hi ⟨x11,x12,x13,st,who,row,rfl,W7,e7,hlen,hrow,who0,who1⟩
    fail "";refine e5e W7.at' ?_;refine g_I (show(0:Int)<((ws.map V.ref).length:Int) by rw[List.length_map];lia) ?_
    rw[List.length_map];obtain⟨w7,hwA,hw7,_⟩:=e3o (ps:=ws) (Pr:=λ_=>True) (λ_ _=>trivial) (r:=(0+(i:Int)) % (ws.length:Int)) (Int.emod_nonneg _ ↑2) (Int.emod_lt_of_pos _ ↑2);refine a1c W7.at' hwA ?_;have nmv:=av.2.2 w7 hw7;fail "";refine⟨w7,rare,rfl,(W7.each w7 hw7).2.2,by lia,by lia,λway H8 a8 c8 w8 b8=>?_⟩
    have W8:=W7.take hw7 w8 b8;have e8:H8 mv=_:=b8 mv _ e7 nmv;fail "";refine a4j (λz=>?_) (λz=>?_)
    ·fail ""
     refine d2c e8 (by rw[List.length_map];lia) ?_
     fail "";refine⟨_,_,_,st,who,row++[2+way],rfl,W8.set av.1 av.2.1 av.2.2,by rw[d9,List.map_append];rfl,by rw[List.length_append];show row.length+1=_;lia,?_,who0,who1⟩
     intro x hx;rcases List.mem_append.mp hx with h|h
     ·exact hrow x h
     ·rw[List.mem_singleton.mp h];lia
    ·refine d6n (λσ' H'=>E2 λst who=>σ'=[some (.ref c),some (.int first),some (.int most),some (.ref wl),some (.ref own),some (.int lean),some (.int rare),some (.int many),some (.ref mv),some (.int st),some (.int who),some (.int (0+(i:Int))),some (.ref w7),some (.int way)]/\Wells H H' wl ws/\H' mv=some (.lst (row.map V.int))/\0<=who/\who<=1) ?_ ?_
     ·rintro σ' H9 ⟨st,who,rfl,W9,e9,o0,o1⟩
      fail "";refine d2c e9 (by rw[List.length_map];lia) ?_
      fail "";refine⟨_,_,_,_,who,row++[who],rfl,W9.set av.1 av.2.1 av.2.2,by rw[d9,List.map_append];rfl,by rw[List.length_append];show row.length+1=_;lia,?_,o0,o1⟩
      intro x hx;rcases List.mem_append.mp hx with h|h
      ·exact hrow x h
      ·rw[List.mem_singleton.mp h];lia
     ·intro R hR
      fail "";refine a4j (λz=>?_) (λz=>?_)
      ·fail ""
       refine⟨w7,2,rfl,(W8.each w7 hw7).2.2,by decide,by decide,λwho' H9 a9 c9 w9 b9=>?_⟩
       have W9:=W8.take hw7 w9 b9;have e9:H9 mv=_:=b9 mv _ e8 nmv;fail "";refine⟨by show 4<=sizeLine;lia,λp9 hp9=>?_⟩
       have W9':=W9.nw (o:=.lst [.int 1,.int 3,.int 9,.int 40]) hp9;have e9':upd H9 p9 (.lst [.int 1,.int 3,.int 9,.int 40]) mv=_:=j1 hp9 _ _ e9;obtain⟨far,hfar,f0,f1⟩:=d3f (ns:=[1,3,9,40]) (Pr:=λv=>1<=v/\v<=40) (by intro v hv;simp only[List.mem_cons,List.not_mem_nil,or_false] at hv;lia) a2 c2
       fail "";refine a1c d9 hfar ?_;fail "";refine⟨w7,far,rfl,(W9'.each w7 hw7).2.2,by lia,by lia,λr10 H10 a10 c10 w10 b10=>?_⟩
       fail "";exact hR _ _ ⟨_,_,rfl,W9'.take hw7 w10 b10,b10 mv _ e9' nmv,a9,by lia⟩
      ·fail ""
       exact hR _ _ ⟨_,_,rfl,W8,e8,who0,who1⟩
   ·rintro σ H7 ⟨x11,x12,x13,st,who,row,rfl,W7,e7,hlen,hrow,who0,who1⟩
    fail "";exact k mv H7 row av.1 e7 W7.same ↑2 hrow
end
section
open PySem PySem.Spec L2 Pr
section
variable{cl:Cl}{H H' H1':Hp}{F F2:Addr->Prop}{la wl:Addr}{ko:List (Addr×List Int)}{A A':Ad}{L L':Ln}{tl tl':List Tr}{a a':Nat->Addr}{s s':Ow}{ks bs ts:List Addr}
theorem c8q(s:Ow)(a:Nat->Addr)(ks bs ts:List Addr)(k:Nat):nc (d3z s a ks bs ts k)=true/\b9e (some (d3z s a ks bs ts k))=false:=by
 unfold d3z hdO;split <;> exact⟨rfl,rfl⟩
theorem OWx.mono(h:↑57)(m:∀x o,H x=some o->nc o=true->((∃j,j<12/\x=a j)\/x∈ks\/x∈bs\/b9e (some o)=true)->H' x=some o):OWx H' a s ks bs ts :=
 ⟨h.inj,λk hk=>m _ _ (h.ob k hk) (c8q s a ks bs ts k).1 (.inl ⟨k,hk,rfl⟩),⟨h.rk.1,λi p o hp ho=>⟨(h.rk.2 i p o hp ho).1,m _ _ (h.rk.2 i p o hp ho).2 rfl (.inr (.inl (List.mem_of_getElem? hp)))⟩⟩,⟨h.rb.1,λi p o hp ho=>⟨(h.rb.2 i p o hp ho).1,m _ _ (h.rb.2 i p o hp ho).2 rfl (.inr (.inr (.inl (List.mem_of_getElem? hp))))⟩⟩,⟨h.rt.1,λi p t hp ht=>m _ _ (h.rt.2 i p t hp ht) rfl (.inr (.inr (.inr rfl)))⟩⟩
structure OP(H:Hp)(F:Addr->Prop)(a:Nat->Addr)(s:Ow):Prop where
 ow:OW (rs F H) a s
 dom:∀x,F x->c8z H x
theorem OP.all(h:OP H F a s):OW H a s:=by
 obtain⟨ks,bs,ts,x⟩:=h.ow;exact⟨ks,bs,ts,x.same λ_ _ e=>c4w e⟩
theorem LP.all(h:LP cl H F la A L tl):LN cl H la A L tl:=h.ln.same λ_ _ e=>c4w e
theorem LP.no(h:LP cl H F la A L tl){x:Addr}(e:H x=none):¬ F x:=λz=>by
 obtain⟨o,q,_⟩:=h.dom x z;rw[e] at q;cases q
theorem OP.no(h:OP H F a s){x:Addr}(e:H x=none):¬ F x:=λz=>by
 obtain⟨o,q,_⟩:=h.dom x z;rw[e] at q;cases q
theorem LP.kp(h:LP cl H F la A L tl)(m:∀x o,H x=some o->nc o=true->(F x\/b9e (some o)=true)->H' x=some o):LP cl H' F la A L tl:=by
 refine⟨(h.ln.ow h.nf).same λx o e=>?_,λx hx=>?_,h.nf⟩
 ·obtain⟨e1,n⟩:=d6z e
  have eH:=c4w e1;have hx:F x\/b9e (some o)=true:=by
   by_cases z:F x\/b9e (H x)=true
   ·rw[eH] at z;exact z
   ·rw[c0i eH (a9m n) z] at e1;cases e1
  have e':=m x o eH n hx;exact b5e e' (a9m n) (by rw[e'];exact hx)
 ·obtain⟨o,e,f,n⟩:=h.dom x hx
  exact⟨o,m x o e (by cases o <;> first|rfl|exact absurd rfl (n _)|cases f) (.inl hx),f,n⟩
theorem OP.kp(h:OP H F a s)(m:∀x o,H x=some o->nc o=true->(F x\/b9e (some o)=true)->H' x=some o):OP H' F a s:=by
 obtain⟨ks,bs,ts,x⟩:=h.ow;refine⟨⟨ks,bs,ts,x.mono λy o e n _=>?_⟩,λy hx=>?_⟩
 ·have eH:=c4w e
  have hx:F y\/b9e (some o)=true:=by
   by_cases z:F y\/b9e (H y)=true
   ·rw[eH] at z;exact z
   ·rw[c0i eH (a9m n) z] at e;cases e
  have e':=m y o eH n hx;exact b5e e' (a9m n) (by rw[e'];exact hx)
 ·obtain⟨o,e,f,n⟩:=h.dom y hx
  exact⟨o,m y o e (by cases o <;> first|rfl|exact absurd rfl (n _)|cases f) (.inl hx),f,n⟩
theorem OWx.part(h:↑57):OP H (λx=>(∃j,j<12/\x=a j)\/x∈ks\/x∈bs) a s:=by
 have row:∀{ps:List Addr}{os:List ↑28},RwO H a ps os->∀x∈ps,∃o:List Int,H x=some ↑53:=λr x hx=>by
  obtain⟨i,hi,e⟩:=List.mem_iff_getElem.mp hx;exact⟨_,(r.2 i x _ (by rw[<- e];exact List.getElem?_eq_getElem hi) (List.getElem?_eq_getElem (by rw[<- r.1];exact hi))).2⟩
 refine⟨⟨ks,bs,ts,h.mono λx o e n q=>b5e e (a9m n) (by
  rw[e];rcases q with q|q|q|q
  ·exact .inl (.inl q)
  ·exact .inl (.inr (.inl q))
  ·exact .inl (.inr (.inr q))
  ·exact .inr q)⟩,λx hx=>?_⟩
 rcases hx with ⟨j,hj,rfl⟩|hx|hx
 ·exact⟨_,h.ob j hj,(c8q s a ks bs ts j).2,a9m (c8q s a ks bs ts j).1⟩
 ·obtain⟨o,e⟩:=row h.rk x hx;exact⟨_,e,rfl,λ_ z=>nomatch z⟩
 ·obtain⟨o,e⟩:=row h.rb x hx;exact⟨_,e,rfl,λ_ z=>nomatch z⟩
theorem OP.behind(ot:Out H1' (rs F H) H)(w:OW H1' a' s'):OP (jn H1' (rs F H) H) (c8z H1') a' s':=by
 obtain⟨ks,bs,ts,x⟩:=w;refine⟨⟨ks,bs,ts,x.mono λy o e n _=>?_⟩,λy hx=>?_⟩
 ·have ej:=a2c (H1:=rs F H) (H:=H) e
  refine b5e ej (a9m n) ?_;cases q:b9e (some o) with
  | true=>right;rw[ej];exact q
  | false=>left;exact⟨o,e,q,a9m n⟩
 ·obtain⟨o,e,z⟩:=hx
  exact⟨o,a2c e,z⟩
theorem e4d(dj:∀x,F x->F2 x->False)(dom:∀x,F2 x->c8z H x)(ot:Out H1' (rs F H) H):∀x o,H x=some o->nc o=true->(F2 x\/b9e (some o)=true)->jn H1' (rs F H) H x=some o:=λx o e n q=>by
 rcases q with q|q
 ·obtain⟨o',e',f,n'⟩:=dom x q
  rw[e] at e';cases e';exact(c3k ot e n' f λz=>dj x z q).1
 ·cases o with
  | tup xs=>exact a2c (ot.tup x xs e)
  | frz _ _=>cases n
  | tbl _=>cases n
  | _=>cases q
structure TI(cl:Cl)(H:Hp)(la wl:Addr)(ko:List (Addr×List Int))(F F2:Addr->Prop)(A:Ad)(L:Ln)(tl:List Tr)(a:Nat->Addr)(s:Ow):Prop where
 lp:LP cl H F la A L tl
 op:OP H F2 a s
 dj:∀x,F x->F2 x->False
 we:Well H wl
 nw:¬ F wl/\¬ F2 wl
 em:∀z∈ko,H z.1=some (.lst (z.2.map V.int))
 nm:∀z∈ko,¬ F z.1/\¬ F2 z.1
 ne:∀z∈ko,z.1≠wl
theorem TI.same(h:↑65)(m:Same H H'):TI cl H' la wl ko F F2 A L tl a s :=
 ⟨h.lp.kp λx o e _ _=>m x o e,h.op.kp λx o e _ _=>m x o e,h.dj,h.we.same m,h.nw,λz hz=>m _ _ (h.em z hz),h.nm,h.ne⟩
theorem TI.but(h:↑65)(b:But wl H H')(w:Well H' wl):TI cl H' la wl ko F F2 A L tl a s:=by
 obtain⟨x,y,z,e,_⟩:=h.we;have k:∀{G:Addr->Prop},¬ G wl->∀p o,H p=some o->nc o=true->(G p\/b9e (some o)=true)->H' p=some o:=λn p o e' _ q=>b p o e' λz=>by
  subst z;rcases q with q|q
  ·exact n q
  ·rw[e] at e';cases e';cases q
 exact⟨h.lp.kp (k h.nw.1),h.op.kp (k h.nw.2),h.dj,w,h.nw,λz hz=>b _ _ (h.em z hz) (h.ne z hz),h.nm,h.ne⟩
theorem a9n{x:Addr}{xs:List V}(e:H x=some (.lst xs))(n:¬ F x)(ot:Out H1' (rs F H) H):jn H1' (rs F H) H x=some (.lst xs)/\¬ c8z H1' x:=c3k ot e ↑118 rfl n
theorem TI.lane(h:↑65)(ot:Out H1' (rs F H) H)(n:LN cl H1' la A' L' tl')(fo:A'.fo=A.fo):TI cl (jn H1' (rs F H) H) la wl ko (c8z H1') F2 A' L' tl' a s:=by
 obtain⟨x,y,z,e,q⟩:=h.we;obtain⟨w1,w2⟩:=a9n e h.nw.1 ot;refine⟨LP.behind ot n (by rw[fo];exact h.lp.nf),h.op.kp (e4d h.dj h.op.dom ot),λp hp h2=>?_,⟨x,y,z,w1,q⟩,⟨w2,h.nw.2⟩,λz hz=>(a9n (h.em z hz) (h.nm z hz).1 ot).1,λz hz=>⟨(a9n (h.em z hz) (h.nm z hz).1 ot).2,(h.nm z hz).2⟩,h.ne⟩
 obtain⟨o,e',f,n'⟩:=h.op.dom p h2;exact(c3k ot e' n' f λz=>h.dj p z h2).2 hp
theorem TI.own(h:↑65)(ot:Out H1' (rs F2 H) H)(w:OW H1' a' s'):TI cl (jn H1' (rs F2 H) H) la wl ko F (c8z H1') A L tl a' s':=by
 obtain⟨x,y,z,e,q⟩:=h.we;obtain⟨w1,w2⟩:=a9n e h.nw.2 ot;refine⟨h.lp.kp (e4d (λp z1 z2=>h.dj p z2 z1) h.lp.dom ot),OP.behind ot w,λp h2 hp=>?_,⟨x,y,z,w1,q⟩,⟨h.nw.1,w2⟩,λz hz=>(a9n (h.em z hz) (h.nm z hz).2 ot).1,λz hz=>⟨(h.nm z hz).1,(a9n (h.em z hz) (h.nm z hz).2 ot).2⟩,h.ne⟩;obtain⟨o,e',f,n'⟩:=h.lp.dom p h2;exact(c3k ot e' n' f λz=>h.dj p h2 z).2 hp
def e6g(wl:Addr)(ko:List (Addr×List Int))(F F2:Addr->Prop)(x:Addr):Prop:=¬ F x/\¬ F2 x/\x≠wl/\∀z∈ko,x≠z.1
theorem TI.no(h:↑65){x:Addr}(e:H x=none):e6g wl ko F F2 x :=
 ⟨h.lp.no e,h.op.no e,(λz=>by obtain⟨o,q⟩:=h.we.at;rw[<- z,e] at q;cases q),λz hz y=>by have:=h.em z hz;rw[<- y,e] at this;cases this⟩
theorem TI.grow(h:↑65){q:Addr}(f:c8z H q)(n:e6g wl ko F F2 q):TI cl H la wl ko (λx=>F x\/x=q) F2 A L tl a s:=by
 refine⟨⟨(h.lp.ln.ow h.lp.nf).same λx o e=>?_,λx hx=>?_,h.lp.nf⟩,h.op,λx z1 z2=>?_,h.we,⟨λz=>z.elim h.nw.1 (λz=>n.2.2.1 z.symm),h.nw.2⟩,h.em,λz hz=>⟨λy=>y.elim (h.nm z hz).1 (λy=>n.2.2.2 z hz y.symm),(h.nm z hz).2⟩,h.ne⟩
 ·obtain⟨e1,nn⟩:=d6z e
  have eH:=c4w e1;refine b5e eH (a9m nn) ?_;by_cases z:F x\/b9e (H x)=true
  ·exact z.imp .inl id
  ·rw[c0i eH (a9m nn) z] at e1;cases e1
 ·rcases hx with hx|rfl
  ·exact h.lp.dom x hx
  ·exact f
 ·rcases z1 with z1|rfl
  ·exact h.dj x z1 z2
  ·exact n.2.1 z2
theorem TI.set(h:↑65)(k:∀x o,H x=some o->¬ F2 x->H' x=some o)(w:OWx H' a' s' ks bs ts)(d:∀x,((∃j,j<12/\x=a' j)\/x∈ks\/x∈bs)->F2 x\/e6g wl ko F F2 x):∃F2',TI cl H' la wl ko F F2' A L tl a' s':=by
 obtain⟨x,y,z,e,q⟩:=h.we;refine⟨_,h.lp.kp λp o e' n hp=>k p o e' λh2=>?_,w.part,λp h1 h2=>?_,⟨x,y,z,k _ _ e h.nw.2,q⟩,⟨h.nw.1,λz=>?_⟩,λz hz=>k _ _ (h.em z hz) (h.nm z hz).2,λz hz=>⟨(h.nm z hz).1,λy=>?_⟩,h.ne⟩
 ·rcases hp with hp|hp
  ·exact h.dj p hp h2
  ·obtain⟨o',e2,f,_⟩:=h.op.dom p h2
   rw[e'] at e2;cases e2;rw[f] at hp;cases hp
 ·rcases d p h2 with h2|h2
  ·exact h.dj p h1 h2
  ·exact h2.1 h1
 ·rcases d _ z with h2|h2
  ·exact h.nw.2 h2
  ·exact h2.2.2.1 rfl
 ·rcases d _ y with h2|h2
  ·exact(h.nm z hz).2 h2
  ·exact h2.2.2.2 z hz rfl
theorem TI.keep(h:↑65){x:Addr}{ns:List Int}(hx:H x=none)(m:Same H H')(e:H' x=some (.lst ↑81)):TI cl H' la wl ((x,ns)::ko) F F2 A L tl a s:=by
 have n:=h.no hx;have t:=h.same m;exact⟨t.lp,t.op,t.dj,t.we,t.nw,λz hz=>by
  rcases List.mem_cons.mp hz with rfl|hz
  ·exact e
  ·exact t.em z hz,λz hz=>by
  rcases List.mem_cons.mp hz with rfl|hz
  ·exact⟨n.1,n.2.1⟩
  ·exact t.nm z hz,λz hz=>by
  rcases List.mem_cons.mp hz with rfl|hz
  ·exact n.2.2.1
  ·exact t.ne z hz⟩
noncomputable def tf:HO->Bool
 | .tup _=>true
 | .frz _ _=>true
 | _=>false
def TupLe(H H':Hp):Prop:=∀x o,H x=some o->tf o=true->H' x=some o
theorem TupLe.of(s:Same H H'):TupLe H H':=λx o e _=>s _ _ e
theorem TupLe.trans{H2:Hp}(a:TupLe H H')(b:TupLe H' H2):TupLe H H2:=λx o e n=>b _ _ (a _ _ e n) n
theorem TupLe.but(w:Well H wl)(b:But wl H H'):TupLe H H':=λx o e n=>b _ _ e λz=>by
 obtain⟨p,q,r,e',_⟩:=w;rw[z,e'] at e;cases e;cases n
theorem TupLe.out{G:Addr->Prop}(ot:Out H1' (rs G H) H):TupLe H (jn H1' (rs G H) H):=λx o e n=>by
 cases o with
 | tup xs=>exact a2c (ot.tup x xs e)
 | frz a b=>exact a2c (ot.frz _ _ _ e)
 | _=>cases n
theorem TupLe.put{p:Addr}{xs ys:List V}(e:↑92):TupLe H (upd H p (.lst ys)):=λx o e' n=>(d8 λz=>by rw[z,e] at e';cases e';cases n).trans e'
theorem OP.inn(h:OP H F2 a s):∃ks bs ts,OWx H a s ks bs ts/\∀x,((∃j,j<12/\x=a j)\/x∈ks\/x∈bs)->F2 x:=by
 obtain⟨ks,bs,ts,x⟩:=h.ow;refine⟨ks,bs,ts,x.same λ_ _ e=>c4w e,λy hy=>?_⟩;obtain⟨o,e,f,n⟩:=x.part.dom y hy;have eH:=c4w e;by_cases z:F2 y\/b9e (H y)=true
 ·rcases z with z|z
  ·exact z
  ·rw[eH,f] at z;cases z
 ·rw[c0i eH n z] at e;cases e
end
theorem _root_.L2.for_listH{K:Frag}{a:Addr}{xs:List V}{g:TG}{tb:TS}{nx:St->Hp->Prop}{rt:VK}{σ:St}{H:Hp}(Pv:Nat->St->Hp->Prop)(h0:Pv 0 σ H)(hl:∀i σ H,i<=xs.length->Pv i σ H->SqL K H a xs)(hs:∀i x σ H,xs[i]?=some x->Pv i σ H->e8c (Pv (i+1)) λN=>g x σ H λσ2 H2=>tb ⟨N,rt,nx,N⟩ σ2 H2)(hd:∀σ H,Pv xs.length σ H->nx σ H):
  ∃W:Nat->Nat->St->Hp->Prop,(∃m,W 0 m σ H)/\∀i m σ H,W i m σ H->((Itl K a).stop i H/\nx σ H)\/((Itl K a).go i H/\∃N:St->Hp->Prop,(∀σ' H',N σ' H'->∃m',m'<m/\W (i+1) m' σ' H')/\∀x H',(Itl K a).yld i H x H'->g x σ H' λσ2 H2=>tb ⟨N,rt,nx,N⟩ σ2 H2) :=
 c3o (D:=⟨nx,rt,λ_ _=>False,λ_ _=>False⟩) Pv h0 hl (λi x σ H hx p=>hs i x σ H hx p _ rfl) hd
theorem MakeT.frame{P:Program}{w:World}{K:Frag}{mg:Str->Option Value}{base:Heap}{x:Str}{C:Addr}{k:Nat}{ps:List Str}{sp:Sp}(M:MakeT P w K mg base x C k ps sp):MakeT P w K mg base x C k ps (frS sp):=by
 obtain⟨f,fd,F,a,b,c⟩:=M.ex;exact⟨f,fd,F.frame,a,b,c⟩
theorem e0z{n:Nat}(h2:2<=n)(h8:n<=8):ORel (e6b n) (a0s n) :=
 ⟨rfl,c9r h2 h8,rfl,rfl,⟨rfl,rfl,λ_=>rfl,λz=>↑94,λz=>↑94,λ_=>rfl⟩,⟨rfl,rfl,rfl,λ_=>rfl,(λz=>by rcases z with z|z <;> cases z),λz=>↑94,λ_ _=>rfl⟩⟩
section
variable{cl:Cl}{H H' H1:Hp}{F F2:Addr->Prop}{la wl:Addr}{ko:List (Addr×List Int)}{A:Ad}{L:Ln}{tl:List Tr}{a:Nat->Addr}{s:Ow}{ks bs ts:List Addr}{d p q:Addr}
noncomputable def reH(a:Nat->Addr)(b:Bool)(d p q:Addr):Nat->Addr:=λj=>if j=ha b then d else if j=ia b then p else if j=ib b then q else a j
theorem OWx.fall(h:↑57)(f:freshO H H1 d p q)(b:Bool):OWx (upd H1 (a 2) (.lst ↑74)) (reH a b d p q) (s.setH b b4d) ks bs ts:=by
 obtain⟨f1,f2,f3,f4,f5,f6,f7,f8⟩:=f;have dp:d≠p:=λz=>by rw[z,f7] at f6;cases f6
 have dq:d≠q:=λz=>by rw[z,f8] at f6;cases f6
 have na:∀{y:Addr}{j:Nat},H y=none->j<12->a j≠y:=λhy hj z=>by have:=h.ob _ hj;rw[z,hy] at this;cases this
 have hab:ha b≠ia b/\ha b≠ib b/\ia b≠ib b/\ha b≠2/\ia b≠2/\ib b≠2/\ha b<12/\ia b<12/\ib b<12:=by cases b <;> decide
 have n2:∀{y:Addr},H y=none->y≠a 2:=λhy z=>na hy (by decide:2<12) z.symm
 have row:∀{ps:List Addr}{os:List ↑28},RwO H a ps os->RwO (upd H1 (a 2) (.lst ↑74)) (reH a b d p q) ps os:=λr=>⟨r.1,λi x o hx ho=>by
  obtain⟨r1,r2⟩:=r.2 i x o hx ho;refine⟨λj hj=>?_,by rw[d8 (r1 2 ↑4)];exact f5 _ _ r2⟩
  unfold reH;split
  ·exact k8 r2 f1
  ·split
   ·exact k8 r2 f2
   ·split
    ·exact k8 r2 f3
    ·exact r1 j hj⟩
 refine⟨λi j hi hj n=>?_,λk hk=>?_,?_,?_,?_⟩
 ·unfold reH
  split
  ·split
   ·lia
   ·split
    ·exact dp
    ·split
     ·exact dq
     ·exact(na f1 hj).symm
  ·split
   ·split
    ·exact dp.symm
    ·split
     ·lia
     ·split
      ·exact f4
      ·exact(na f2 hj).symm
   ·split
    ·split
     ·exact dq.symm
     ·split
      ·exact f4.symm
      ·split
       ·lia
       ·exact(na f3 hj).symm
    ·split
     ·exact na f1 hi
     ·split
      ·exact na f2 hi
      ·split
       ·exact na f3 hi
       ·exact h.inj i j hi hj n
 ·have old:k≠ha b->k≠ia b->k≠ib b->k≠2->d3z (s.setH b b4d) (reH a b d p q) ks bs ts k=d3z s a ks bs ts k:=λz1 z2 z3 z4=>by
   have:k=0\/k=1\/k=3\/k=4\/k=5\/k=6\/k=7\/k=8\/k=9\/k=10\/k=11:=by lia
   cases b <;> rcases this with rfl|rfl|rfl|rfl|rfl|rfl|rfl|rfl|rfl|rfl|rfl <;> first|rfl|exact absurd rfl z1|exact absurd rfl z2|exact absurd rfl z3
  by_cases z1:k=ha b
  ·rw[z1,show reH a b d p q (ha b)=d from if_pos rfl,d8 (n2 f1),f6]
   cases b <;> rfl
  by_cases z2:k=ia b
  ·rw[z2,show reH a b d p q (ia b)=p from(if_neg hab.1.symm).trans (if_pos rfl),d8 (n2 f2),f7]
   cases b <;> rfl
  by_cases z3:k=ib b
  ·rw[z3,show reH a b d p q (ib b)=q from(if_neg hab.2.1.symm).trans ((if_neg hab.2.2.1.symm).trans (if_pos rfl)),d8 (n2 f3),f8]
   cases b <;> rfl
  rw[show reH a b d p q k=a k from(if_neg z1).trans ((if_neg z2).trans (if_neg z3))];by_cases z4:k=2
  ·rw[z4,d9]
   cases b <;> rfl
  ·rw[d8 (h.inj k 2 hk ↑4 z4),old z1 z2 z3 z4]
   exact f5 _ _ (h.ob k hk)
 ·have:=row h.rk
  cases b <;> exact this
 ·have:=row h.rb
  cases b <;> exact this
 ·have:TrO (upd H1 (a 2) (.lst ↑74)) ts s.tr:=⟨h.rt.1,λi x t hx ht=>by
   have e:=h.rt.2 i x t hx ht;rw[d8]
   ·exact f5 _ _ e
   ·intro z;rw[z,h.hs] at e;cases e⟩
  cases b <;> exact this
theorem TI.fall(h:↑65)(f:freshO H H1 d p q)(b:Bool):∃F2',TI cl (upd H1 (a 2) (.lst ↑74)) la wl ko F F2' A L tl (reH a b d p q) (s.setH b b4d):=by
 obtain⟨ks,bs,ts,x,inn⟩:=h.op.inn;refine h.set (λy o e n=>?_) (x.fall f b) λy hy=>?_
 ·rw[d8 (λz=>n (inn _ (.inl ⟨2,by decide,z⟩)))];exact f.2.2.2.2.1 _ _ e
 ·rcases hy with ⟨j,hj,rfl⟩|hy
  ·unfold reH
   split
   ·exact .inr (h.no f.1)
   ·split
    ·exact .inr (h.no f.2.1)
    ·split
     ·exact .inr (h.no f.2.2.1)
     ·exact .inl (inn _ (.inl ⟨j,hj,rfl⟩))
  ·exact .inl (inn _ (.inr hy))
theorem TI.order(h:↑65){o:List Int}(hp:H p=some ↑53)(n:e6g wl ko F F2 p):∃xs:List V,H (a 9)=some (.lst xs)/\xs.length=s.os.length/\∃F2',TI cl (upd H (a 9) (.lst (xs++[.ref p]))) la wl ko F F2' A L tl a { s with os:=s.os++[o] }:=by
 obtain⟨ks,bs,ts,x,inn⟩:=h.op.inn;refine⟨ks.map V.ref,x.ob 9 ↑4,by rw[List.length_map];exact x.rk.1,h.set (λy u e m=>?_) (x.pushR true hp λj hj z=>n.2.1 (inn _ (.inl ⟨j,hj,z⟩))) λy hy=>?_⟩
 ·exact(d8 (λz=>m (inn _ (.inl ⟨9,by decide,z⟩)))).trans e
 ·rcases hy with hy|hy|hy
  ·exact .inl (inn _ (.inl hy))
  ·rcases List.mem_append.mp hy with hy|hy
   ·exact .inl (inn _ (.inr (.inl hy)))
   ·rw[List.mem_singleton.mp hy];exact .inr n
  ·exact .inl (inn _ (.inr (.inr hy)))
end
section
variable{K:Frag}
theorem d8b{H:Hp}{n:Nat}{p q:Addr}{xs:List V}(hp:H p=some (.tup xs))(hq:H q=some (.tup xs))(f:∀x∈xs,a5b x=true/\eqV x x=true):EqD K H (n+1) (.ref p) (.ref q) true:=by
 by_cases ne:p=q
 ·rw[ne];exact EqD.self (SqT.of hq)
 ·have h:=EqD.tup (K:=K) (n:=n) (e:=λ_=>true) ne (SqT.of hp) (SqT.of hq) (λj x y hx hy=>?_)
  ·rw[Nat.min_self] at h
   rw[show((List.range xs.length).all (λ_=>true) && xs.length == xs.length)=true by simp] at h
   exact h
  ·rw[hx] at hy
   cases hy;obtain⟨f1,f2⟩:=f x (List.mem_of_getElem? hx);exact d0j f1 f2
theorem d5b{H:Hp}{p q:Addr}{ps qs:List Addr}{tl:List Tr}(ne:p≠q)(hp:H p=some (.lst (ps.map V.ref)))(hq:H q=some (.lst (qs.map V.ref)))(r:TrL H ps tl)(r':TrO H qs tl):EqD K H 2 (.ref p) (.ref q) true:=by
 refine d0k ne hp hq (by rw[List.length_map,List.length_map,r.1,r'.1]) λj u v hu hv=>?_
 rw[List.getElem?_map] at hu hv;cases eu:ps[j]? with
 | none=>rw[eu] at hu;cases hu
 | some x=>
  cases ev:qs[j]? with
  | none=>rw[ev] at hv;cases hv
  | some y=>
   rw[eu] at hu;rw[ev] at hv;cases hu;cases hv;have hj:j<tl.length:=by rw[<- r.1];exact(List.getElem?_eq_some_iff.mp eu).1
   refine d8b (r.2 j x _ eu (List.getElem?_eq_getElem hj)) (r'.2 j y _ ev (List.getElem?_eq_getElem hj)) λz hz=>?_;simp only[List.mem_cons,List.not_mem_nil,or_false] at hz;rcases hz with rfl|rfl|rfl|rfl <;> exact⟨rfl,by simp[eqV]⟩
end
section
variable{P:Program}{w:World}{K:Frag}{mg:Str->Option Value}{base:Heap}{cl:Cl}
theorem a6p{H:Hp}{p:Addr}{xs:List V}{Q:VK}(e:↑92)(q:∀l,H l=none->Q (.ref l) (upd H l (.tup xs))):d8p K [.ref p] H Q:=⟨p,xs,rfl,.inl ⟨SqL.of e,q⟩⟩
structure GSd where
 st:Str
 he:Hr
 ms:List Int
 od:Int
 pt:Int
structure TSd where
 st:Str
 he:Hr
 ms:List Int
 nf:Hr
 nu:Int
 le:Int
 pa:List Int
def TTs(H:Hp)(a:Addr)(os:List ↑28):Prop:=∃ps:List Addr,H a=some (.tup (ps.map V.ref))/\ps.length=os.length/\∀(i:Nat)(p:Addr)(o:List Int),ps[i]?=some p->os[i]?=some o->H p=some (.tup (o.map V.int))
theorem TTs.same{H H':Hp}{a:Addr}{os:List ↑28}(h:TTs H a os)(s:Same H H'):TTs H' a os:=by
 obtain⟨ps,e,l,r⟩:=h;exact⟨ps,s _ _ e,l,λi p o hp ho=>s _ _ (r i p o hp ho)⟩
def GT(H:Hp)(a:Addr)(g:GSd):Prop:=∃m,H a=some (.tup [.str g.st,g.he.v,.ref m,.int g.od,.int g.pt])/\H m=some (.tup (g.ms.map V.int))
theorem GT.same{H H':Hp}{a:Addr}{g:GSd}(h:GT H a g)(s:Same H H'):GT H' a g:=by
 obtain⟨m,e,e'⟩:=h;exact⟨m,s _ _ e,s _ _ e'⟩
def TT(H:Hp)(a:Addr)(t:TSd):Prop:=∃m p,H a=some (.tup [.str t.st,t.he.v,.ref m,t.nf.v,.int t.nu,.int t.le,.ref p])/\H m=some (.tup (t.ms.map V.int))/\H p=some (.tup (t.pa.map V.int))
theorem TT.same{H H':Hp}{a:Addr}{t:TSd}(h:TT H a t)(s:Same H H'):TT H' a t:=by
 obtain⟨m,p,e,e',e''⟩:=h;exact⟨m,p,s _ _ e,s _ _ e',s _ _ e''⟩
structure Sd where
 c:List Int
 g:GSd
 t:TSd
 os:List ↑28
 bk:List ↑28
def ST(H:Hp)(a:Addr)(x:Sd):Prop:=∃c g t o b,H a=some (.tup [.ref c,.ref g,.ref t,.ref o,.ref b])/\H c=some (.tup (x.c.map V.int))/\GT H g x.g/\TT H t x.t/\TTs H o x.os/\TTs H b x.bk
theorem ST.same{H H':Hp}{a:Addr}{x:Sd}(h:ST H a x)(s:Same H H'):ST H' a x:=by
 obtain⟨c,g,t,o,b,e,e1,e2,e3,e4,e5⟩:=h;exact⟨c,g,t,o,b,s _ _ e,s _ _ e1,e2.same s,e3.same s,e4.same s,e5.same s⟩
theorem c6q{H:Hp}{n:Nat}{p q:Addr}{xs ys:List V}(hp:H p=some (.tup xs))(hq:H q=some (.tup ys))(hl:xs.length=ys.length)(h:∀(j:Nat) (x y:V),xs[j]?=some x->ys[j]?=some y->EqD K H n x y true):EqD K H (n+1) (.ref p) (.ref q) true:=by
 by_cases z:p=q
 ·subst z
  exact EqD.self (SqT.of hp)
 ·have:=EqD.tup (K:=K) (e:=λ_=>true) z (SqT.of hp) (SqT.of hq) h
  rw[hl,show((List.range (min ys.length ys.length)).all (λ_=>true) && ys.length == ys.length)=true by simp] at this
  exact this
theorem e1t{H:Hp}{n:Nat}{x:V}(f:a5b x=true)(e:eqV x x=true):EqD K H n x x true:=by
 have:=EqD.flat (K:=K) (H:=H) (n:=n) f f
 rwa [e] at this
theorem d2e{H:Hp}{n:Nat}(i:Int):EqD K H n (.int i) (.int i) true:=e1t rfl (by show(i == i)=true;simp)
theorem e5p{H:Hp}{n:Nat}(i:Str):EqD K H n (.str i) (.str i) true:=e1t rfl (by show(i == i)=true;simp)
theorem e1u{H:Hp}{n:Nat}(i:Hr):EqD K H n i.v i.v true:=by
 cases i
 ·exact e1t rfl rfl
 ·exact d2e _
theorem c6r{H:Hp}{n:Nat}{p q:Addr}{ns:List Int}(hp:H p=some (.tup ↑81))(hq:H q=some (.tup ↑81)):EqD K H (n+1) (.ref p) (.ref q) true:=c6q hp hq rfl λj x y hx hy=>by
 rw[hx] at hy;cases hy;rw[List.getElem?_map] at hx;cases e:ns[j]? with
 | none=>rw[e] at hx;cases hx
 | some i=>rw[e] at hx;cases hx;exact d2e _
theorem d9b{H:Hp}{n:Nat}{p q:Addr}{os:List ↑28}(hp:TTs H p os)(hq:TTs H q os):EqD K H (n+2) (.ref p) (.ref q) true:=by
 obtain⟨ps,e,l,r⟩:=hp;obtain⟨qs,e',l',r'⟩:=hq;refine c6q e e' (by rw[List.length_map,List.length_map,l,l']) λj x y hx hy=>?_
 rw[List.getElem?_map] at hx hy;cases ea:ps[j]? with
 | none=>rw[ea] at hx;cases hx
 | some a=>
  cases eb:qs[j]? with
  | none=>rw[eb] at hy;cases hy
  | some b=>
   rw[ea] at hx;rw[eb] at hy;cases hx;cases hy;have hj:j<os.length:=by rw[<- l];exact(List.getElem?_eq_some_iff.mp ea).1
   exact c6r (r j a _ ea (List.getElem?_eq_getElem hj)) (r' j b _ eb (List.getElem?_eq_getElem hj))
theorem d9c{H:Hp}{p q:Addr}{x:Sd}(hp:ST H p x)(hq:ST H q x):EqD K H 3 (.ref p) (.ref q) true:=by
 obtain⟨c,g,t,o,b,e,e1,⟨m,g1,g2⟩,⟨m1,pa,t1,t2,t3⟩,e4,e5⟩:=hp;obtain⟨c',g',t',o',b',e',e1',⟨m',g1',g2'⟩,⟨m1',pa',t1',t2',t3'⟩,e4',e5'⟩:=hq;refine c6q e e' rfl λj x y hx hy=>?_
 match j,hx,hy with
 | 0,hx,hy=>cases hx;cases hy;exact c6r e1 e1'
 | 1,hx,hy=>
  cases hx;cases hy;refine c6q g1 g1' rfl λj x y hx hy=>?_
  match j,hx,hy with
  | 0,hx,hy=>cases hx;cases hy;exact e5p _
  | 1,hx,hy=>cases hx;cases hy;exact e1u _
  | 2,hx,hy=>cases hx;cases hy;exact c6r g2 g2'
  | 3,hx,hy=>cases hx;cases hy;exact d2e _
  | 4,hx,hy=>cases hx;cases hy;exact d2e _
 | 2,hx,hy=>
  cases hx;cases hy;refine c6q t1 t1' rfl λj x y hx hy=>?_
  match j,hx,hy with
  | 0,hx,hy=>cases hx;cases hy;exact e5p _
  | 1,hx,hy=>cases hx;cases hy;exact e1u _
  | 2,hx,hy=>cases hx;cases hy;exact c6r t2 t2'
  | 3,hx,hy=>cases hx;cases hy;exact e1u _
  | 4,hx,hy=>cases hx;cases hy;exact d2e _
  | 5,hx,hy=>cases hx;cases hy;exact d2e _
  | 6,hx,hy=>cases hx;cases hy;exact c6r t3 t3'
 | 3,hx,hy=>cases hx;cases hy;exact d9b e4 e4'
 | 4,hx,hy=>cases hx;cases hy;exact d9b e5 e5'
def RQ(H:Hp)(os:List ↑28)(D:Addr)(i:Nat)(acc:List V)(H':Hp):Prop:=H' D=some ↑88/\Same H H'/\∃ps:List Addr,acc=ps.map V.ref/\ps.length=i/\∀(j:Nat)(p:Addr)(o:List Int),ps[j]?=some p->os[j]?=some o->p≠D/\H' p=some (.tup (o.map V.int))
theorem RQ.new{H:Hp}{os:List ↑28}{D:Addr}(hD:H D=none):RQ H os D 0 [] ↑108:=⟨d9,j1 hD,[],rfl,rfl,λj p o h=>by simp at h⟩
theorem RQ.push{H H':Hp}{os:List ↑28}{o:List Int}{D p:Addr}{i:Nat}{acc:List V}(h:RQ H os D i acc H')(hD:H D=none)(ho:os[i]?=some o)(hp:H' p=none):
  (upd H' p (.tup (o.map V.int))) D=some ↑88/\RQ H os D (i+1) (acc++[.ref p]) (upd (upd H' p (.tup (o.map V.int))) D (.lst (acc++[.ref p]))):=by
 obtain⟨e,s,ps,rfl,hl,r⟩:=h;have nD:D≠p:=λz=>by rw[<- z,e] at hp;cases hp
 have hp0:=n6 s hp;refine⟨by rw[d8 nD];exact e,d9,?_,ps++[p],by rw[List.map_append];rfl,by rw[List.length_append,hl];rfl,?_⟩
 ·intro b u eb
  rw[d8 (λz=>by rw[z,hD] at eb;cases eb),d8 (λz=>by rw[z,hp0] at eb;cases eb)]
  exact s _ _ eb
 ·intro j q u hj hu
  by_cases y:j<ps.length
  ·rw[List.getElem?_append_left y] at hj
   obtain⟨b,c⟩:=r j q u hj hu;refine⟨b,?_⟩;rw[d8 b,d8 (λz=>by rw[z,hp] at c;cases c)]
   exact c
  ·rw[List.getElem?_append_right ↑2] at hj
   have:j=i:=by
    by_cases z:j-ps.length=0
    ·lia
    ·rw[List.getElem?_eq_none (by simp;lia)] at hj;cases hj
   subst this;rw[hl,Nat.sub_self] at hj;cases hj;rw[ho] at hu;cases hu;exact⟨Ne.symm nD,by rw[d8 (Ne.symm nD)];exact d9⟩
theorem c9f{a:Addr}{os:List ↑28}{nt:Nat}{fr:List Nat}{g:TG}{te:TE}{σ:St}{H:Hp}{Q:Addr->Hp->Prop}(R:Rws H a os)(hz:os.length<=1000)(hs:∀(q:Addr) (o:List Int) (H':Hp) (R:VK),H' q=some ↑53->(∀p,H' p=none->R (.ref p) (upd H' p (.tup (o.map V.int))))->g (.ref q) ↑68 H' λσ2 H2=>te σ2 H2 R)(k:∀D H',H D=none->Same H H'->(∃xs,H' D=some (.lst xs)/\∀p,H' p=none->TTs (upd H' p (.tup xs)) p os)->Q D H'):
  ∀D,H D=none->∃(m:Nat)(W:↑113),W 0 [] ↑108/\∀i acc H',W i acc H'->H' D=some ↑88/\acc.length<sizeLine /\
   (((Itl K a).stop i H'/\Q D H')\/(i<m/\(Itl K a).go i H'/\∀x H2,(Itl K a).yld i H' x H2->g x ↑68 H2 λσ2 H3=>te σ2 H3 λy H4=>H4 D=some ↑88/\W (i+1) ↑50 ↑144)):=by
 have h60:6000<=sizeLine:=by decide
 obtain⟨ps,ea,hl,hr'⟩:=R;refine b0d (xs:=ps.map V.ref) (by rw[List.length_map];lia) (RQ H os) (λD hD=>RQ.new hD) ?_ ?_ ?_
 ·rintro D i acc H' ⟨e,s,qs,rfl,hq,_⟩
  exact⟨e,by rw[List.length_map];exact hq,SqL.of (s _ _ ea)⟩
 ·intro D i x acc H' hD hx hp
  rw[List.getElem?_map] at hx;cases hpi:ps[i]? with
  | none=>rw[hpi] at hx;cases hx
  | some q=>
   rw[hpi] at hx;cases hx;have hi:i<os.length:=by rw[<- hl];exact(List.getElem?_eq_some_iff.mp hpi).1
   have hoi:=List.getElem?_eq_getElem hi;exact hs q _ H' _ (hp.2.1 _ _ (hr' i q _ hpi hoi)) λp hpn=>hp.push hD hoi hpn
 ·intro D acc H' hD hp
  rw[List.length_map,hl] at hp;obtain⟨e,s,qs,rfl,hq,r⟩:=hp;refine k D H' hD s ⟨_,e,λp hpn=>⟨qs,d9,hq,λj q o h1 h2=>?_⟩⟩;obtain⟨_,c⟩:=r j q o h1 h2;exact j1 hpn _ _ c
def c4b:Sp:=λvs H Q _=>E2 λ(a:Addr)(os:List ↑28)=>vs=[.ref a]/\Rws H a os/\os.length<=1000/\∀p H',H p=none->Same H H'->TTs H' p os->Q (.ref p) H'
abbrev c2f:Stmt:=top 102
theorem d2q:i8 ["orders"] ["orders"] (g9 c2f):=↑1
theorem d3w(D:DefT K mg "frozen" c2f ["orders"])(T:↑14):↑901 "frozen" 1 ["orders"] c4b:=by
 refine D.fn d2q ↑8 ↑7
 ·obtain⟨a,os,rfl,R,hz,k⟩:=h
  refine⟨_,(d7 (m8 (v2 ↑102 (by rfl) T.z_tuple PyProof.Rows.boot_tuple (d5 (a9h (N:=["order"]) (nt:=1) (fr:=[]) rfl ↑38 (a2r (K:=K) (pu 0)) (a6d ↑4) (λ_ _ _ _ _=>a1b (i:=0) (show(["order"]:List Str).Nodup by decide +kernel) rfl (Or.inl rfl) (Or.inr rfl)) (λ_ _ _ _ _=>(v2 ↑102 (by rfl) T.z_tuple PyProof.Rows.boot_tuple ↑49))) i9)))),?_⟩
  obtain⟨ps,ea,_⟩:=id R;fail "";refine c9f R hz (λq o H' R e r=>by fail "";exact a6p e r) λD H' hD s ⟨xs,e,t⟩=>?_
  fail "";exact a6p e λp hp=>k p _ (n6 s hp) (s.trans (j1 hp)) (t p hp)
noncomputable def jG(L:Ln):Nat:=if (Stg.come L.gs || decide (L.gs=.told))=true then 0 else gi L
noncomputable def d6l(L:Ln):GSd:=⟨y9 L.gs,hrG L,L.gseen,if L.gs=.lacks then v9 L.os L.g else (m6 L.os (jG L):Int),if L.gs=.lacks then 0 else ((jG L-beg L.os (m6 L.os (jG L)):Nat):Int)⟩
noncomputable def b9h(L:Ln):TSd:=⟨y9 L.ts,hrT L,L.tseen,hrF L,if L.ts=.left\/L.ts=.thing then (m6 L.os L.t:Int) else 0,if L.ts=.thing then (m9 L.os L.t:Int) else 0,if Stg.come L.ts=true\/L.ts=.free\/L.ts.frees=true then [] else y7 L.os L.f (L.t-L.f)⟩
noncomputable def e5w(L:Ln):Sd:=⟨b8i L.n L.c,d6l L,b9h L,L.os,L.bk⟩
theorem GRel.at{L:Ln}{G:Gm}(h:GRel L G)(e:L.gs≠.lacks):G.nu=v9 L.os (jG L)/\G.le=a0a L.os (jG L):=by
 unfold jG;by_cases z:(Stg.come L.gs || decide (L.gs=.told))=true
 ·rw[if_pos z]
  exact h.n0 z
 ·rw[if_neg z]
  have c:Stg.come L.gs=false:=by cases q:Stg.come L.gs <;> simp_all
  have d:L.gs≠.told:=λq=>z (by rw[q];rfl)
  exact⟨h.nu c d,h.le c d e⟩
theorem e7a{L:Ln}(ok:Ok L):jG L<=tot L.os:=by
 have:=ok.core.gt;unfold jG gi;split
 ·exact Nat.zero_le _
 ·split <;> lia
def a6f(cl:Cl):Sp:=λvs H Q _=>E3 λ(A:Ad)(L:Ln)(tl:List Tr)=>vs=[.ref A.gv]/\LR cl H A L tl/\∀p,H p=none->Q (.ref p) (upd H p (.tup [.int (d6l L).od,.int (d6l L).pt]))
noncomputable abbrev a0r:Stmt:=o9 (top 88) 9
theorem a7e:i8 ["self"] ["self"] (g9 a0r):=↑1
theorem a7r(D:DefM K cl.Giver "order_and_part" "Giver.order_and_part" a0r ["self"])(T:↑14)(GH:↑902 "has_part" 3 ["self"] (a2z cl))(GO:↑39)(GP:↑902 "next_part" 2 ["self"] (a0f cl)):↑902 "order_and_part" 4 ["self"] (a6f cl):=by
 refine D.fn a7e ↑8 ↑3
 ·obtain⟨A,L,tl,rfl,⟨ps,Gq,Tq,lt,hL,hg,ht,ok⟩,k⟩:=h
  refine⟨_,(d6 (x0 (l7 a0m ↑5 m4 ↑43)
     (d7 (m8 (a2x (d5 ↑5 ↑25))))
     v6)
   (d6 (x0 (d2z (a9g ↑140))
     (d7 (m8 (a2x (d5 ↑146 ↑25))))
     v6)
   (d7 (m8 (a2x (d5 ↑131 (d5 ↑131 i9))))))),?_⟩
  fail "ah";obtain⟨dx,ex⟩:=hL.gv;have gd:=ok.core.good;fail "";by_cases e:L.gs=.lacks
  ·have es:Gq.st="lacks":=by rw[hg.st,e];rfl
   have nu:Gq.nu=v9 L.os L.g:=by
    have z:=hg.nu (by rw[e];rfl) (by rw[e];decide)
    rw[d2a e ↑4] at z;exact z
   rw[es,decide_eq_true (Eq.refl _)];fail "";rw[nu];unfold d6l at k;dsimp only at k;rw[if_pos e,if_pos e] at k;exact⟨(show 2<=sizeLine by lia),k⟩
  ·have es:Gq.st≠"lacks":=λz=>e (a3l ((hg.st.symm.trans z).trans (show("lacks":Str)=y9 .lacks from rfl)))
   obtain⟨nu,le⟩:=hg.at e;have jl:=e7a ok;have kn:b5p L.os Gq.nu Gq.le:=by rw[nu,le];exact a7s (n:=L.n) jl
   have hp:b2q L.os Gq.nu Gq.le=decide (jG L<tot L.os):=by rw[nu,le];exact c0u gd jl
   unfold d6l at k;dsimp only at k;rw[if_neg e,if_neg e] at k;rw[decide_eq_false (λz=>es (V.str.inj z))];fail "e";refine⟨A.gv,cl.Giver,dx,_,_,_,rfl,ex,rfl,T.k_Giver,GH,?_⟩;fail "";refine ExL.mk A L.n L.c L.os L.bk L.gseen L.tseen ps Gq Tq tl (c6j tl) ⟨rfl,hL,kn,?_⟩;rw[hp];by_cases y:jG L<tot L.os
   ·rw[decide_eq_true y]
    fail "e";refine⟨A.gv,cl.Giver,dx,_,_,_,rfl,ex,rfl,T.k_Giver,GO,?_⟩;fail "";refine ExL.mk A L.n L.c L.os L.bk L.gseen L.tseen ps Gq Tq tl (c6j tl) ⟨rfl,hL,?_⟩;fail "e";refine⟨A.gv,cl.Giver,dx,_,_,_,rfl,ex,rfl,T.k_Giver,GP,?_⟩;fail "";refine ExL.mk A L.n L.c L.os L.bk L.gseen L.tseen ps Gq Tq tl (c6j tl) ⟨rfl,hL,kn,?_⟩;rw[nu,le,a4c gd y,c3e gd y];exact⟨(show 2<=sizeLine by lia),k⟩
   ·have ej:jG L=tot L.os:=by lia
    rw[decide_eq_false y];obtain⟨qs,eq,lq,_⟩:=hL.kept;fail "";rw[List.length_map,lq];rw[c3d ↑2,c9i L.os ↑31,ej,Nat.sub_self] at k;exact⟨(show 2<=sizeLine by lia),k⟩
def b3b(cl:Cl):Sp:=λvs H Q _=>E3 λ(A:Ad)(L:Ln)(tl:List Tr)=>vs=[.ref A.gv]/\LR cl H A L tl/\∀p H',Same H H'->GT H' p (d6l L)->Q (.ref p) H'
noncomputable abbrev a9b:Stmt:=o9 (top 88) 10
theorem c1y:i8 ["self"] ["self"] (g9 a9b):=↑1
theorem c2z(D:DefM K cl.Giver "mind" "Giver.mind" a9b ["self"])(T:↑14)(GP:↑902 "order_and_part" 4 ["self"] (a6f cl)):↑902 "mind" 5 ["self"] (b3b cl):=by
 refine D.fn c1y ↑8 ↑3
 ·obtain⟨A,L,tl,rfl,hR,k⟩:=h
  refine⟨_,(d7 (m8 (k7 (op_catTK (K:=K)) (a2x (d5 ↑5 (d5 ↑5 (d5 (v2 ↑102 (by rfl) T.z_tuple PyProof.Rows.boot_tuple ↑130) i9)))) ↑128))),?_⟩
  fail "ah";obtain⟨ps,Gq,Tq,lt,hL,hg,ht,ok⟩:=id hR;obtain⟨dx,ex⟩:=hL.gv;have em:=hL.mg;fail "";refine a6p em λm hm=>?_;generalize u1:upd H m _=H1;obtain⟨s1,e1⟩:=nwS u1 hm;fail "";refine⟨(show 3<=sizeLine by lia),λp hp=>?_⟩
  generalize u2:upd H1 p _=H2;obtain⟨s2,e2⟩:=nwS u2 hp;have ex2:=s2 _ _ (s1 _ _ ex);fail "e";refine⟨A.gv,cl.Giver,dx,_,_,_,rfl,ex2,rfl,T.k_Giver,GP,?_⟩;fail "";refine⟨A,L,tl,rfl,hR.same (s1.trans s2),λq hq=>?_⟩;generalize u3:upd H2 q _=H3;obtain⟨s3,e3⟩:=nwS u3 hq;refine⟨p,q,_,_,rfl,rfl,SqT.of (s3 _ _ e2),SqT.of e3,(by simp),(show 3+2<=sizeLine by lia),(λz=>by cases z),λ_ r hr=>?_⟩
  generalize u4:upd H3 r _=H4;obtain⟨s4,e4⟩:=nwS u4 hr;refine k r H4 (((s1.trans s2).trans s3).trans s4) ⟨m,?_,s4 _ _ (s3 _ _ (s2 _ _ e1))⟩;rw[e4,hg.st,hg.hr]
  rfl
theorem TRel.tell{L:Ln}{T:Tm}{ps:List Int}(h:TRel L T ps):(if T.st="left"\/T.st="thing" then T.nu else 0)=(b9h L).nu/\(if T.st="thing" then T.le else 0)=(b9h L).le/\ps=(b9h L).pa:=by
 have sl:(T.st="left")=(L.ts=.left):=propext ⟨λz=>a3l ((h.st.symm.trans z).trans (show("left":Str)=y9 .left from rfl)),λz=>by rw[h.st,z];rfl⟩
 have st:(T.st="thing")=(L.ts=.thing):=propext ⟨λz=>a3l ((h.st.symm.trans z).trans (show("thing":Str)=y9 .thing from rfl)),λz=>by rw[h.st,z];rfl⟩
 refine⟨?_,?_,h.pa⟩
 ·show _=if L.ts=.left\/L.ts=.thing then (m6 L.os L.t:Int) else 0
  by_cases z:L.ts=.left\/L.ts=.thing
  ·rw[if_pos z,if_pos (by rw[sl,st];exact z),h.nu z]
  ·rw[if_neg z,if_neg (by rw[sl,st];exact z)]
 ·show _=if L.ts=.thing then (m9 L.os L.t:Int) else 0
  by_cases z:L.ts=.thing
  ·rw[if_pos z,if_pos (by rw[st];exact z),h.le z]
  ·rw[if_neg z,if_neg (by rw[st];exact z)]
def b2y(cl:Cl):Sp:=λvs H Q _=>E3 λ(A:Ad)(L:Ln)(tl:List Tr)=>vs=[.ref A.tk]/\LR cl H A L tl/\∀p H',Same H H'->TT H' p (b9h L)->Q (.ref p) H'
noncomputable abbrev a8w:Stmt:=o9 (top 98) 4
theorem a4h:i8 ["self","number","left","seen"] ["self"] (g9 a8w):=↑1
theorem c2t(D:DefM K cl.Taker "mind" "Taker.mind" a8w ["self"])(T:↑14):↑903 "mind" 5 ["self"] (b2y cl):=by
 refine D.fn a4h ↑8 ↑3
 ·obtain⟨A,L,tl,rfl,⟨ps,Gq,Tq,lt,hL,hg,ht,ok⟩,k⟩:=h
  refine⟨_,(d6 (l9 (i:=1) a4h.nd rfl ↑22 (a0w (l7 (b6k (K:=K)) ↑5 (a2x ↑18) ↑58) ↑5 i4))
   (d6 (l9 (i:=2) a4h.nd rfl ↑22 (a0w (l7 a0m ↑5 m4 ↑43) ↑5 i4))
   (d6 (l9 (i:=3) a4h.nd rfl ↑22 (a2x (d5 ↑5 (d5 (pu 1) (d5 (pu 2) (d5 (v2 ↑102 (by rfl) T.z_tuple PyProof.Rows.boot_tuple ↑130) i9))))))
   (d7 (m8 (k7 (op_catTK (K:=K)) (a2x (d5 ↑5 (d5 ↑5 (d5 (v2 ↑102 (by rfl) T.z_tuple PyProof.Rows.boot_tuple ↑130) i9)))) (pu 3))))))),?_⟩
  fail "ah";obtain⟨dx,ex⟩:=hL.tk;have em:=hL.mt;have ea:=hL.pa;obtain⟨tn,tl',tp⟩:=ht.tell;fail "";refine⟨(show 2<=sizeLine by lia),λp1 hp1=>?_⟩
  generalize u1:upd H p1 _=H1;obtain⟨s1,f1⟩:=nwS u1 hp1;have ex1:=s1 _ _ ex;refine⟨p1,_,rfl,.inr (SqT.of f1),rfl,rfl,?_⟩;rename_i nX hX;have hin:inV (.str Tq.st) [V.str "left",.str "thing"]=decide (Tq.st="left"\/Tq.st="thing"):=by
   show(eqV (.str "left") (.str Tq.st) || (eqV (.str "thing") (.str Tq.st) || false))=_;rw[a9p,a9p,Bool.or_false,Bool.decide_or,decide_eq_decide.mpr (⟨Eq.symm,Eq.symm⟩:("left":Str)=Tq.st ↔ Tq.st="left"),decide_eq_decide.mpr (⟨Eq.symm,Eq.symm⟩:("thing":Str)=Tq.st ↔ Tq.st="thing")]
  have key:nX [some (.ref A.tk),some (.int (b9h L).nu),none,none] H1:=by
   refine b9b hX ?_;clear hX;fail "";rename_i nY hY;have key:nY [some (.ref A.tk),some (.int (b9h L).nu),some (.int (b9h L).le),none] H1:=by
    refine b9b hY ?_;clear hY;have ea1:=s1 _ _ ea;fail "";refine a6p ea1 λa ha=>?_;generalize u2:upd H1 a _=H2;obtain⟨s2,e2⟩:=nwS u2 ha;fail "";refine⟨(show 4<=sizeLine by lia),λp hp=>?_⟩
    generalize u3:upd H2 p _=H3;obtain⟨s3,e3⟩:=nwS u3 hp;have s13:=(s1.trans s2).trans s3;have ex3:=s13 _ _ ex;have em3:=s13 _ _ em;fail "";refine a6p em3 λm hm=>?_;generalize u4:upd H3 m _=H4;obtain⟨s4,e4⟩:=nwS u4 hm;fail "";refine⟨(show 3<=sizeLine by lia),λq hq=>?_⟩
    generalize u5:upd H4 q _=H5;obtain⟨s5,e5⟩:=nwS u5 hq;fail "";refine⟨q,p,_,_,rfl,rfl,SqT.of e5,SqT.of (s5 _ _ (s4 _ _ e3)),(by simp),(show 3+4<=sizeLine by lia),(λz=>by cases z),λ_ r hr=>?_⟩
    generalize u6:upd H5 r _=H6;obtain⟨s6,e6⟩:=nwS u6 hr;refine k r H6 (((s13.trans s4).trans s5).trans s6) ⟨m,a,?_,s6 _ _ (s5 _ _ e4),?_⟩
    ·rw[e6,ht.st,ht.hr.1,ht.hr.2]
     rfl
    ·rw[<- tp]
     exact s6 _ _ (s5 _ _ (s4 _ _ (s3 _ _ e2)))
   clear hY;by_cases z:Tq.st="thing"
   ·rw[if_pos z] at tl'
    rw[z,decide_eq_true (Eq.refl _)];fail "";rw[tl'];exact key
   ·rw[if_neg z] at tl'
    rw[decide_eq_false (λy=>z (V.str.inj y))];fail "";rw[tl'];exact key
  clear hX;refine ↑112;rw[if_neg (show ¬ (false=true) by decide),hin]
  by_cases z:Tq.st="left"\/Tq.st="thing"
  ·rw[if_pos z] at tn
   rw[decide_eq_true z];fail "";rw[tn];exact key
  ·rw[if_neg z] at tn
   rw[decide_eq_false z];fail "";rw[tn];exact key
set_option hygiene false in
local macro_rules | `(tactic| walk_at "go1")=>`(tactic| first|walk_at "ga"|((with_reducible refine' c7f ?h ?v ?_);(case h=>assumption);(case v=>exact rfl)))
def b7h(cl:Cl):Sp:=λvs H Q _=>ExN λla A L tl=>vs=[.ref la]/\LN cl H la A L tl/\L.os.length<=400/\∀p H',Same H H'->ST H' p (e5w L)->Q (.ref p) H'
abbrev b4m:Stmt:=top 103
theorem b7o:i8 ["lane","cells"] ["lane"] (g9 b4m):=↑1
theorem c7y(D:DefT K mg "stand_of" b4m ["lane"])(T:↑14)(G_Lane_cells:↑904 cl.Lane "cells" 2 ["self"] (a7d cl))(GM:↑902 "mind" 5 ["self"] (b3b cl))(TM:↑903 "mind" 5 ["self"] (b2y cl))(LO:↑904 cl.Lane "orders" 3 ["self"] (b0o cl))(LB:↑904 cl.Lane "book" 3 ["self"] (b6d cl))(G_frozen:↑901 "frozen" 1 ["orders"] c4b):↑901 "stand_of" 6 ["lane"] (b7h cl):=by
 refine D.fn b7o ↑8 ↑3
 ·obtain⟨la,A,L,tl,rfl,hN,os4,k⟩:=h
  refine⟨_,(d6 (l9 (i:=1) b7o.nd rfl ↑22 (v2 ↑102 (by rfl) T.z_tuple PyProof.Rows.boot_tuple (d5 (c0n (pu 0) T.k_Lane G_Lane_cells hr ↑4 j4) i9)))
   (d7 (m8 (a2x (d5 (pu 1) (d5 (a1n (k:=5) ↑5 hr ↑4 j4) (d5 (a1n (k:=5) ↑5 hr ↑4 j4) (d5 (m3 G_frozen hr ↑4 rfl j4 (d5 ↑140 i9)) (d5 (m3 G_frozen hr ↑4 rfl j4 (d5 ↑140 i9)) i9))))))))),?_⟩
  fail "ah";obtain⟨_,_,_,_,hL,_,_,ok⟩:=id hN.lr;have bl:=ok.tk.bl;obtain⟨dxl,ela⟩:=hN.ob;obtain⟨dxg,egv⟩:=hL.gv;obtain⟨dxt,etk⟩:=hL.tk;fail "";refine⟨la,A,L,tl,rfl,hN,λp1 hp1=>?_⟩;generalize u1:upd H p1 _=H1;obtain⟨s1,e1⟩:=nwS u1 hp1;fail "";refine a6p e1 λp2 hp2=>?_;generalize u2:upd H1 p2 _=H2;obtain⟨s2,e2⟩:=nwS u2 hp2;have s02:=s1.trans s2;have ela2:=s02 _ _ ela;have egv2:=s02 _ _ egv;fail "e";refine⟨A.gv,cl.Giver,dxg,_,_,_,rfl,egv2,rfl,T.k_Giver,GM,?_⟩;fail "";refine⟨A,L,tl,rfl,hN.lr.same s02,λp3 H3 s3 g3=>?_⟩;have s03:=s02.trans s3;have ela3:=s03 _ _ ela;have etk3:=s03 _ _ etk;fail "e";refine⟨A.tk,cl.Taker,dxt,_,_,_,rfl,etk3,rfl,T.k_Taker,TM,?_⟩;fail "";refine⟨A,L,tl,rfl,hN.lr.same s03,λp4 H4 s4 g4=>?_⟩;have s04:=s03.trans s4;have ela4:=s04 _ _ ela;fail "e";refine⟨la,cl.Lane,dxl,_,_,_,rfl,ela4,rfl,T.k_Lane,LO,?_⟩;fail "";refine⟨la,A,L,tl,rfl,hN.same s04,by lia,λp5 H5 nr5=>?_⟩
  fail "";refine⟨p5,L.os,rfl,nr5.rws,by lia,λp6 H6 _ s6 t6=>?_⟩
  have s06:=(s04.trans nr5.2.1).trans s6;have ela6:=s06 _ _ ela;fail "e";refine⟨la,cl.Lane,dxl,_,_,_,rfl,ela6,rfl,T.k_Lane,LB,?_⟩;fail "";refine⟨la,A,L,tl,rfl,hN.same s06,by lia,λp7 H7 nr7=>?_⟩
  fail "";refine⟨p7,L.bk,rfl,nr7.rws,by lia,λp8 H8 _ s8 t8=>?_⟩
  have s68:=nr7.2.1.trans s8;fail "";refine⟨(show 5<=sizeLine by lia),λp9 hp9=>?_⟩
  generalize u9:upd H8 p9 _=H9;obtain⟨s9,e9⟩:=nwS u9 hp9;have s69:=s68.trans s9;have s49:=(nr5.2.1.trans s6).trans s69;have s39:=s4.trans s49;exact k p9 H9 (s03.trans s39) ⟨p2,p3,p4,p6,p8,e9,s39 _ _ (s3 _ _ e2),g3.same s39,g4.same s49,t6.same s69,t8.same s9⟩
set_option hygiene false in
theorem e9h{n:Nat}{os:List ↑28}(gd:Good n os):m6 os 0=0:=by
 cases os with
 | nil=>rfl
 | cons o r=>
  have:=(gd o List.mem_cons_self).1;show(if 0<o.length then 0 else _)=0;rw[if_pos ↑2]
theorem OGr.tell{L:Ln}{x:Hd}(h:OGr L x)(ok:Ok L):(if decide (L.gs∈[.rouse,.clear,.mute,.marks,.told])=true then (0:Int) else 1)*x.at_=(d6l L).od/\(if decide (L.gs∈[.rouse,.clear,.mute,.marks,.told])=true then (0:Int) else 1)*x.pa=(d6l L).pt:=by
 have gd:=ok.core.good;show _=(if L.gs=.lacks then v9 L.os L.g else (m6 L.os (jG L):Int))/\_=if L.gs=.lacks then 0 else ((jG L-beg L.os (m6 L.os (jG L)):Nat):Int);have mem:decide (L.gs∈[.rouse,.clear,.mute,.marks,.told])=(Stg.come L.gs || decide (L.gs=.told)):=by cases L.gs <;> rfl
 rw[mem];by_cases z:(Stg.come L.gs || decide (L.gs=.told))=true
 ·have e:L.gs≠.lacks:=λy=>by rw[y] at z;cases z
  have j:jG L=0:=if_pos z;rw[if_pos z,if_neg e,if_neg e,j,e9h gd,Int.zero_mul,Int.zero_mul,Nat.zero_sub];exact⟨rfl,rfl⟩
 ·have j:jG L=gi L:=if_neg z
  have c:Stg.come L.gs=false:=by cases q:Stg.come L.gs <;> simp_all
  have d:L.gs≠.told:=λq=>z (by rw[q];rfl)
  rw[if_neg z,Int.one_mul,Int.one_mul,j];by_cases e:L.gs=.lacks
  ·rw[if_pos e,if_pos e]
   exact⟨h.la e,h.p0 (by rw[e];rfl)⟩
  ·rw[if_neg e,if_neg e]
   exact h.po c d e
noncomputable def seB(b:Bool)(L:Ln):List Int:=if b then L.gseen else L.tseen
theorem e3d{s:Ow}{L:Ln}(rel:ORel s L)(ok:Ok L)(b:Bool):(c3z b L=.marks->(s.h b).se=seB b L)/\(c3z b L≠.marks->seB b L=[]):=by
 cases b with
 | true=>exact⟨λz=>rel.g.se (by rw[show L.gs=.marks from z];rfl),λz=>ok.gv.seen0 z⟩
 | false=>exact⟨λz=>rel.t.se (by rw[show L.ts=.marks from z];rfl),λz=>ok.tk.seen0 z⟩
theorem OTr.tell{L:Ln}{x:Hd}(h:OTr L x)(ok:Ok L):(if decide (L.ts∈[.left,.thing])=true then x.at_ else 0)=(b9h L).nu/\(if decide (L.ts=.thing)=true then x.le else 0)=(b9h L).le/\(if decide (L.ts∈[.free,.card,.ring])=true then [] else x.ps)=(b9h L).pa:=by
 refine⟨?_,?_,?_⟩
 ·show _=if L.ts=.left\/L.ts=.thing then (m6 L.os L.t:Int) else 0
  by_cases z:L.ts=.left\/L.ts=.thing
  ·rw[if_pos (decide_eq_true (by simpa using z)),if_pos z,h.at_ z]
  ·rw[if_neg (by simpa using z),if_neg z]
 ·show _=if L.ts=.thing then (m9 L.os L.t:Int) else 0
  by_cases z:L.ts=.thing
  ·rw[if_pos (decide_eq_true z),if_pos z,h.le z]
  ·rw[if_neg (by simpa using z),if_neg z]
 ·show _=if Stg.come L.ts=true\/L.ts=.free\/L.ts.frees=true then [] else y7 L.os L.f (L.t-L.f)
  by_cases z:L.ts=.free\/L.ts.frees=true
  ·rw[if_pos (by cases q:L.ts <;> rw[q] at z <;> simp_all [Stg.frees]),if_pos (.inr z)]
  ·have z1:L.ts≠.free:=λy=>z (.inl y)
   have z2:L.ts.frees=false:=by cases q:L.ts.frees with|false=>rfl|true=>exact absurd (.inr q) z
   rw[if_neg (by cases q:L.ts <;> rw[q] at z1 z2 <;> simp_all [Stg.frees]),h.ps z1 z2]
   by_cases y:Stg.come L.ts=true
   ·have e:L.t=L.f:=ok.tk.come (by cases q:L.ts <;> rw[q] at y <;> first|exact .inl rfl|exact .inr ↑22|exact .inr (.inr ↑22)|exact .inr (.inr (.inr rfl))|cases y)
    rw[if_pos (.inl y),e,Nat.sub_self]
    rfl
   ·rw[if_neg (λq=>q.elim y z)]
theorem d5e(x y:Stg):decide (V.str (y9 x)=V.str (y9 y))=decide (x=y):=by
 rw[a2v,decide_eq_decide];exact⟨λz=>a3l z,λz=>by rw[z]⟩
def b7k:Sp:=λvs H Q _=>E4 λ(a:Nat->Addr)(s:Ow)(L:Ln)(b:Bool)=>vs=[.ref (a 0),.int (wi b)]/\OW H a s/\ORel s L/\Ok L/\∀p H',Same H H'->(b=true->GT H' p (d6l L))->(b=false->TT H' p (b9h L))->Q (.ref p) H'
abbrev b4u:Stmt:=top 121
theorem a1a:i8 ["lane","who","hand","stage","seen","known","number","left","parts"] ["lane","who"] (g9 b4u):=↑1
theorem c8g(D:DefT K mg "_law_mind" b4u ["lane","who"])(T:↑14):↑901 "_law_mind" 2 ["lane","who"] b7k:=by
 refine D.fn a1a ↑8 ↑7
 ·obtain⟨a,o,L,b,rfl,ow,rel,ok,k⟩:=h
  refine⟨_,(d6 (l9 (i:=2) a1a.nd rfl ↑22 (a0c ↑19 ↑10 (pu 1) ↑11))
   (d6 (l9 (i:=3) a1a.nd rfl ↑22 ↑127)
   (d6 (l9 (i:=4) a1a.nd rfl ↑22 (a0w (l7 a0m (pu 3) m4 ↑43) (v2 ↑102 (by rfl) T.z_tuple PyProof.Rows.boot_tuple (d5 ↑127 i9)) (a2x i9)))
   (d6 (x0 (l7 a0m (pu 1) i4 ↑43)
     (
     d6 (l9 (i:=5) a1a.nd rfl ↑22 (v2 a6q (by rfl) T.z_int PyProof.Rows.boot_int (d5 (a3k (c5c (K:=K)) (pu 3) (v5 (d5 m4 (d5 m4 (d5 m4 ↑18)))) ↑58) i9)))
     (d7 (m8 (a2x (d5 (pu 3) (d5 ↑127 (d5 (pu 4) (d5 (k7 a0p ↑127 (pu 5)) (d5 (k7 a0p ↑127 (pu 5)) i9)))))))))
     v6)
   (d6 (l9 (i:=6) a1a.nd rfl ↑22 (a0w (l7 (b6k (K:=K)) (pu 3) (v5 ↑18) ↑58) ↑127 i4))
   (d6 (l9 (i:=7) a1a.nd rfl ↑22 (a0w (l7 a0m (pu 3) m4 ↑43) ↑127 i4))
   (d6 (l9 (i:=8) a1a.nd rfl ↑22 (a0w (l7 (b6k (K:=K)) (pu 3) (v5 (d5 m4 ↑18)) ↑58) (a2x i9) (v2 ↑102 (by rfl) T.z_tuple PyProof.Rows.boot_tuple (d5 ↑127 i9))))
   (d7 (m8 (a2x (d5 (pu 3) (d5 ↑127 (d5 (pu 4) (d5 ↑127 (d5 (pu 6) (d5 (pu 7) (d5 (pu 8) i9))))))))))))))))),?_⟩
  fail "ah";fail "ar";have e0:H (a 0)=some (.dK (kvO o.n a)):=owx.e0;have e2:=owx.hs;have eh:=owx.eh b;have est:(o.h b).st=y9 (c3z b L):=by cases b;exact rel.t.st;exact rel.g.st
  rw[est] at eh;obtain⟨se1,se2⟩:=e3d rel ok b;have ese:H ↑103=some (.lst ((o.h b).se.map V.int)):=by cases b;exact owx.ob 6 ↑4;exact owx.ob 5 ↑4
  fail "";refine a1c e2 (b9f a b) ?_;fail "";rename_i nX hX;have key:∀m H',Same H H'->H' m=some (.tup ((seB b L).map V.int))->nX [some (.ref (a 0)),some (.int (wi b)),some (.ref (a (ha b))),some (.str (y9 (c3z b L))),some (.ref m),none,none,none,none] H':=λm H' s em=>by
   refine b9b hX ?_;clear hX;have eh:=s _ _ eh;fail "";rw[c7g];have sp:∀b,(o.h b).sp=hrB b L:=λb=>by cases b;exact rel.t.sp;exact rel.g.sp
   cases b with
   | true=>
    have eh:H' (a 3)=some (.dK (kvQ (y9 L.gs) o.g.sp o.g.fi o.g.at_ o.g.pa o.g.le (a 5) (a 7))):=eh;fail "";refine⟨(show 5<=sizeLine by lia),λp1 hp1=>?_⟩
    generalize u1:upd H' p1 _=H1;obtain⟨s1,f1⟩:=nwS u1 hp1;have eh1:=s1 _ _ eh;refine⟨p1,_,rfl,.inl (SqL.of f1),rfl,rfl,?_⟩;rw[show inV (.str (y9 (c3z true L))) [V.str "rouse",.str "clear",.str "mute",.str "marks",.str "told"]=decide (L.gs∈[.rouse,.clear,.mute,.marks,.told]) from b7f (l:=[.rouse,.clear,.mute,.marks,.told])];obtain⟨t1,t2⟩:=rel.g.tell ok;refine .inr ↑112;have ei:∀D:Bool,(if (if true=true then !D else D)=true then (1:Int) else 0)=if D=true then 0 else 1:=λD=>by cases D <;> rfl
    fail "";rw[ei,Int.mul_comm,t1,Int.mul_comm,t2];refine⟨(show 5<=sizeLine by lia),λp hp=>?_⟩
    generalize u2:upd H1 p _=H2;obtain⟨s2,e2⟩:=nwS u2 hp;refine k p H2 ((s.trans s1).trans s2) (λ_=>⟨m,?_,s2 _ _ (s1 _ _ em)⟩) ↑123;rw[e2,show o.g.sp=hrG L from rel.g.sp]
    rfl
   | false=>
    have eh:H' (a 4)=some (.dK (kvQ (y9 L.ts) o.t.sp o.t.fi o.t.at_ o.t.pa o.t.le (a 6) (a 8))):=eh;fail "";obtain⟨t1,t2,t3⟩:=rel.t.tell ok;refine⟨(show 2<=sizeLine by lia),λp1 hp1=>?_⟩
    generalize u1:upd H' p1 _=H1;obtain⟨s1,f1⟩:=nwS u1 hp1;have s01:=s.trans s1;have eh1:=s1 _ _ eh;have em1:=s1 _ _ em;refine⟨p1,_,rfl,.inl (SqL.of f1),rfl,rfl,?_⟩;rw[show inV (.str (y9 (c3z false L))) [V.str "left",.str "thing"]=decide (L.ts∈[.left,.thing]) from b7f (l:=[.left,.thing])];rename_i nA hA;have kA:nA [some (.ref (a 0)),some (.int (wi false)),some (.ref (a (ha false))),some (.str (y9 (c3z false L))),some (.ref m),none,some (.int (b9h L).nu),none,none] H1:=by
     refine b9b hA ?_;clear hA;fail "";rename_i nB hB;have kB:nB [some (.ref (a 0)),some (.int (wi false)),some (.ref (a (ha false))),some (.str (y9 (c3z false L))),some (.ref m),none,some (.int (b9h L).nu),some (.int (b9h L).le),none] H1:=by
      refine b9b hB ?_;clear hB;fail "";refine⟨(show 3<=sizeLine by lia),λp2 hp2=>?_⟩
      generalize u2:upd H1 p2 _=H2;obtain⟨s2,f2⟩:=nwS u2 hp2;have eh2:=s2 _ _ eh1;have ea2:H2 (a 8)=some (.lst (o.t.ps.map V.int)):=s2 _ _ (s01 _ _ (owx.ob 8 ↑4));refine⟨p2,_,rfl,.inl (SqL.of f2),rfl,rfl,?_⟩;rw[show inV (.str (y9 (c3z false L))) [V.str "free",.str "card",.str "ring"]=decide (L.ts∈[.free,.card,.ring]) from b7f (l:=[.free,.card,.ring])];rename_i nC hC;have kC:∀pa H3,Same H2 H3->H3 pa=some (.tup ((b9h L).pa.map V.int))->nC [some (.ref (a 0)),some (.int (wi false)),some (.ref (a (ha false))),some (.str (y9 (c3z false L))),some (.ref m),none,some (.int (b9h L).nu),some (.int (b9h L).le),some (.ref pa)] H3:=λpa H3 s3 epa=>by
       refine b9b hC ?_;clear hC;have eh3:=s3 _ _ eh2;fail "";refine⟨(show 7<=sizeLine by lia),λp hp=>?_⟩
       generalize u4:upd H3 p _=H4;obtain⟨s4,e4⟩:=nwS u4 hp;refine k p H4 (((s01.trans s2).trans s3).trans s4) ↑123 λ_=>⟨m,pa,?_,s4 _ _ (s3 _ _ (s2 _ _ em1)),s4 _ _ epa⟩;rw[e4,show o.t.sp=hrT L from rel.t.sp,show o.t.fi=hrF L from rel.t.fi]
       rfl
      clear hC;fail "ag";by_cases y:L.ts∈[Stg.free,.card,.ring]
      ·rw[decide_eq_true y] at t3 ⊢
       fail "";refine⟨Nat.zero_le _,λpa hpa=>?_⟩;exact kC pa _ (j1 hpa) (by rw[d9,<- t3];rfl)
      ·rw[decide_eq_false y] at t3 ⊢
       fail "";refine a6p ea2 λpa hpa=>?_;exact kC pa _ (j1 hpa) (by rw[d9,<- t3];rfl)
     clear hB;rw[show decide (V.str (y9 (c3z false L))=V.str "thing")=decide (L.ts=.thing) from d5e L.ts .thing];by_cases y:L.ts=.thing
     ·rw[decide_eq_true y] at t2 ⊢
      fail "";rw[show o.t.le=(b9h L).le from t2];exact kB
     ·rw[decide_eq_false y] at t2 ⊢
      fail "";rw[show(0:Int)=(b9h L).le from t2];exact kB
    clear hA;fail "ag";by_cases y:L.ts∈[Stg.left,.thing]
    ·rw[decide_eq_true y] at t1 ⊢
     fail "";rw[show o.t.at_=(b9h L).nu from t1];exact kA
    ·rw[decide_eq_false y] at t1 ⊢
     fail "";rw[show(0:Int)=(b9h L).nu from t1];exact kA
  clear hX;rw[show decide (V.str (y9 (c3z b L))=V.str "marks")=decide (c3z b L=.marks) from d5e _ .marks];by_cases y:c3z b L=.marks
  ·rw[decide_eq_true y]
   rw[se1 y] at ese;have eseq:H ↑103=some (.lst ((seB b L).map V.int)):=ese;fail "";refine a6p (p:=a (if b then 5 else 6)) eseq λm hm=>?_;exact key m _ (j1 hm) d9
  ·rw[decide_eq_false y]
   fail "";refine⟨Nat.zero_le _,λm hm=>?_⟩;exact key m _ (j1 hm) (by rw[d9,se2 y];rfl)
set_option hygiene false in
def b5u:Sp:=λvs H Q _=>E3 λ(a:Nat->Addr)(s:Ow)(L:Ln)=>vs=[.ref (a 0)]/\OW H a s/\ORel s L/\Ok L/\L.os.length<=400/\∀p H',Same H H'->ST H' p (e5w L)->Q (.ref p) H'
abbrev b1o:Stmt:=top 122
theorem a8h:i8 ["lane","orders","book"] ["lane"] (g9 b1o):=↑1
theorem c5o(D:DefT K mg "_law_stand" b1o ["lane"])(T:↑14)(G_law_mind:↑901 "_law_mind" 2 ["lane","who"] b7k):↑901 "_law_stand" 3 ["lane"] b5u:=by
 refine D.fn a8h ↑8 ↑7
 ·obtain⟨a,o,L,rfl,ow,rel,ok,os4,k⟩:=h
  refine⟨_,(d6 (l9 (i:=1) a8h.nd rfl ↑22 (v2 ↑102 (by rfl) T.z_tuple PyProof.Rows.boot_tuple (d5 (a9h (N:=["order"]) (nt:=1) (fr:=[]) rfl ↑38 (a2r (K:=K) ↑10) (a6d ↑4) (λ_ _ _ _ _=>a1b (i:=0) (show(["order"]:List Str).Nodup by decide +kernel) rfl (Or.inl rfl) (Or.inr rfl)) (λ_ _ _ _ _=>(v2 ↑102 (by rfl) T.z_tuple PyProof.Rows.boot_tuple ↑49))) i9)))
   (d6 (l9 (i:=2) a8h.nd rfl ↑22 (v2 ↑102 (by rfl) T.z_tuple PyProof.Rows.boot_tuple (d5 (a9h (N:=["order"]) (nt:=1) (fr:=[]) rfl ↑38 (a2r (K:=K) ↑10) (a6d ↑4) (λ_ _ _ _ _=>a1b (i:=0) (show(["order"]:List Str).Nodup by decide +kernel) rfl (Or.inl rfl) (Or.inr rfl)) (λ_ _ _ _ _=>(v2 ↑102 (by rfl) T.z_tuple PyProof.Rows.boot_tuple ↑49))) i9)))
   (d7 (m8 (a2x (d5 (v2 ↑102 (by rfl) T.z_tuple PyProof.Rows.boot_tuple (d5 ↑10 i9)) (d5 (m3 G_law_mind hr ↑4 rfl j4 (d5 (pu 0) ↑25)) (d5 (m3 G_law_mind hr ↑4 rfl j4 (d5 (pu 0) ↑25)) (d5 (pu 1) (d5 (pu 2) i9)))))))))),?_⟩
  fail "ah";have bl:=ok.tk.bl;fail "ar";have e0:H (a 0)=some (.dK (kvO o.n a)):=owx.e0;have e9:H (a 9)=some (.lst (ks.map V.ref)):=owx.ob 9 ↑4;have R9:Rws H (a 9) L.os:=⟨ks,e9,by rw[<- rel.os];exact owx.rk.1,λi p u hp hu=>(owx.rk.2 i p u hp (by rw[rel.os];exact hu)).2⟩
  fail "";refine c9f R9 ↑2 (λq o H' R e r=>by fail "";exact a6p e r) λD1 H1 _ s1 ⟨xs,f1,t1⟩=>?_
  fail "";refine a6p f1 λp1 hp1=>?_;have t1:=t1 p1 hp1;generalize u1:upd H1 p1 _=H2 at *;obtain⟨s2,_⟩:=nwS u1 hp1;have s02:=s1.trans s2;have e02:=s02 _ _ e0;have o2:=owx.same s02;have e10:H2 (a 10)=some (.lst (bs.map V.ref)):=o2.ob 10 ↑4;have R10:Rws H2 (a 10) L.bk:=⟨bs,e10,by rw[<- rel.bk];exact o2.rb.1,λi p u hp hu=>(o2.rb.2 i p u hp (by rw[rel.bk];exact hu)).2⟩
  fail "";refine c9f R10 ↑2 (λq o H' R e r=>by fail "";exact a6p e r) λD3 H3 _ s3 ⟨ys,f3,t3⟩=>?_
  fail "";refine a6p f3 λp3 hp3=>?_;have t3:=t3 p3 hp3;generalize u3:upd H3 p3 _=H4 at *;obtain⟨s4,_⟩:=nwS u3 hp3;have s24:=s3.trans s4;have s04:=s02.trans s24;have e04:=s04 _ _ e0;have e1:H4 (a 1)=some (.lst (o.c.map V.int)):=(owx.same s04).ob 1 ↑4;fail "";refine a6p e1 λp5 hp5=>?_;generalize u5:upd H4 p5 _=H5;obtain⟨s5,f5⟩:=nwS u5 hp5;have s05:=s04.trans s5;fail "";refine⟨a,o,L,true,rfl,ow.same s05,rel,ok,λp6 H6 s6 g6 _=>?_⟩;have s06:=s05.trans s6;fail "";refine⟨a,o,L,false,rfl,ow.same s06,rel,ok,λp7 H7 s7 _ g7=>?_⟩;fail "";refine⟨(show 5<=sizeLine by lia),λp8 hp8=>?_⟩
  generalize u8:upd H7 p8 _=H8;obtain⟨s8,e8⟩:=nwS u8 hp8;have s78:=s7.trans s8;have s58:=s6.trans s78;have s48:=s5.trans s58;refine k p8 H8 (s04.trans s48) ⟨p5,p6,p7,p1,p3,e8,?_,(g6 rfl).same s78,(g7 rfl).same s8,t1.same (s24.trans s48),t3.same s48⟩;rw[<- show o.c=(e5w L).c from rel.c];exact s58 _ _ f5
end
theorem d8k:PySem.bootBuiltins "str" = some (.type "str"):=by decide +kernel
section
variable{P:Program}{w:World}{K:Frag}{mg:Str->Option Value}{base:Heap}{cl:Cl}
noncomputable def e6h:V->Prop
 | .non=>True
 | .str _=>True
 | .int _=>True
 | _=>False
noncomputable def Kd:Nat->Hp->V->Prop
 | 0,_,v=>e6h v
 | d+1,H,v=>e6h v \/ ∃p xs,v=.ref p/\H p=some (.tup xs)/\xs.length<=1000/\∀x∈xs,Kd d H x
theorem Kd.same{H H':Hp}(s:Same H H'):∀{d:Nat}{v:V},Kd d H v->Kd d H' v
 | 0,_,h=>h
 | d+1,_,.inl h=>.inl h
 | d+1,_,.inr ⟨p,xs,e,e1,l,h⟩=>.inr ⟨p,xs,e,s _ _ e1,l,λx hx=>Kd.same s (h x hx)⟩
theorem Kd.leaf{H:Hp}{v:V}(h:e6h v):∀{d:Nat},Kd d H v
 | 0=>h
 | _+1=>.inl h
def a6w(d:Nat):Sp:=λvs H Q _=>∃v,vs=[v]/\Kd d H v/\∀H',Same H H'->Q (.bl true) H'
abbrev a7j:Stmt:=top 124
theorem b6g:i8 ["thing"] ["thing"] (g9 a7j):=↑1
theorem d1x(D:DefT K mg "_law_kinds" a7j ["thing"])(T:↑14)(kTT:kitOne K ↑100 ↑100=some true)(kST:kitOne K (.type "str") ↑100=some false)(kIT:kitOne K ↑119 ↑100=some false)(kNT:kitOne K (.type "NoneType") ↑100=some false)(kSS:kitOne K (.type "str") (.type "str")=some true)(kIS:kitOne K ↑119 (.type "str")=some false)(kII:kitOne K ↑119 ↑119=some true)(kIB:kitOne K ↑119 (.type "bool")=some false)(d k0:Nat)(sp:Sp)(hsp:sp=(λ_ _ _ _=>False)/\d=0 \/ ∃d',sp=a6w d'/\d=d'+1)(G_law_kinds:↑901 "_law_kinds" k0 ["thing"] sp):↑901 "_law_kinds" (k0+1) ["thing"] (a6w d):=by
 refine D.fn b6g ↑8 ↑7
 ·obtain⟨v,rfl,hv,k⟩:=h
  refine⟨_,(d6 (x0 (a9g (v7 (b4e (K:=K)) (by rfl) T.z_isinstance PyProof.Rows.boot_isinstance (d5 (pu 0) (d5 (c9y T.z_tuple PyProof.Rows.boot_tuple rfl) i9))))
     (d7 (m8 (v7 (d5n (K:=K) rfl) (by rfl) T.z_all PyProof.Rows.boot_all (d5 (a9h (N:=["part"]) (nt:=1) (fr:=[]) rfl ↑38 (e0k (K:=K) (pu 0)) (a6d ↑4) (λ_ _ _ _ _=>a1b (i:=0) (show(["part"]:List Str).Nodup by decide +kernel) rfl (Or.inl rfl) (Or.inr rfl)) (λ_ _ _ _ _=>(m3 G_law_kinds hr ↑31 rfl d3n ↑49))) i9))))
     v6)
   (d7 (m8 (e0o (a3k e3v (pu 0) b3q ↑43) (e0o (v7 (b4e (K:=K)) (by rfl) T.z_isinstance PyProof.Rows.boot_isinstance (d5 (pu 0) (d5 (c9y T.z_str d8k rfl) i9))) (c0m (c9z (v7 (b4e (K:=K)) (by rfl) T.z_isinstance PyProof.Rows.boot_isinstance (d5 (pu 0) (d5 (c9y T.z_int PyProof.Rows.boot_int rfl) i9))) (c0m (d8s (v7 (b4e (K:=K)) (by rfl) T.z_isinstance PyProof.Rows.boot_isinstance (d5 (pu 0) (d5 (c9y T.z_bool PyProof.Rows.boot_bool rfl) i9)))))))))))),?_⟩
  fail "ah";by_cases lf:e6h v
  ·cases v with
   | non=>
    fail "";refine c6m (.ty .non) rfl kNT ?_;fail "";refine⟨rfl,_,rfl,?_⟩;fail "";exact k H (Same.refl H)
   | str z=>
    fail "";refine c6m (.ty (.str z)) rfl kST ?_;fail "";refine⟨rfl,_,rfl,?_⟩;rw[decide_eq_false (λy:V.str z=V.non=>nomatch y)];fail "";refine c6m (.ty (.str z)) rfl kSS ?_;fail "";exact k H (Same.refl H)
   | int z=>
    fail "";refine c6m (.ty (.int z)) rfl kIT ?_;fail "";refine⟨rfl,_,rfl,?_⟩;rw[decide_eq_false (λy:V.int z=V.non=>nomatch y)];fail "";refine c6m (.ty (.int z)) rfl kIS ?_;fail "";refine c6m (.ty (.int z)) rfl kII ?_;fail "";refine c6m (.ty (.int z)) rfl kIB ?_;fail "";exact k H (Same.refl H)
   | _=>cases lf
  ·cases d with
   | zero=>exact absurd hv lf
   | succ d'=>
    obtain⟨p,xs,rfl,e,lx,hx⟩:=hv.resolve_left lf;obtain rfl:sp=a6w d':=by
     rcases hsp with ⟨_,z⟩|⟨d2,z,z2⟩
     ·cases z
     ·cases z2;exact z
    fail "";refine c6m (.ty (.tup e)) rfl kTT ?_;fail "";refine e4r ?_;fail "";refine e4s (SqT.of e) ?_;refine d5i (xs:=xs) ↑2 (λD i acc H'=>H' D=some ↑88/\acc.length=i/\Same H H'/\acc=List.replicate i (V.bl true)) (λD hD=>⟨d9,rfl,j1 hD,rfl⟩) ?_ ?_ ?_
    ·rintro D i acc H' ⟨a,b,c,_⟩
     exact⟨a,b,SqT.of (c _ _ e)⟩
    ·rintro D i x acc H' hD hxi ⟨a,b,c,rfl⟩
     fail "";refine⟨x,rfl,(hx x (List.mem_of_getElem? hxi)).same c,λH2 s2=>?_⟩;refine⟨s2 _ _ a,d9,by rw[List.length_append,b];rfl,λy o eo=>(d8 (k8 eo hD)).trans (s2 _ _ (c _ _ eo)),?_⟩
     rw[List.replicate_succ']
    ·rintro D acc H' hD ⟨a,b,c,rfl⟩
     fail "";refine⟨D,List.replicate xs.length true,rfl,SqL.of (by rw[a,List.map_replicate]),?_⟩
     rw[show(List.replicate xs.length true).all id=true by simp]
     exact k _ c
theorem c5s(D:DefT K mg "_law_kinds" a7j ["thing"])(T:↑14)(kTT:kitOne K ↑100 ↑100=some true)(kST:kitOne K (.type "str") ↑100=some false)(kIT:kitOne K ↑119 ↑100=some false)(kNT:kitOne K (.type "NoneType") ↑100=some false)(kSS:kitOne K (.type "str") (.type "str")=some true)(kIS:kitOne K ↑119 (.type "str")=some false)(kII:kitOne K ↑119 ↑119=some true)(kIB:kitOne K ↑119 (.type "bool")=some false):↑901 "_law_kinds" 5 ["thing"] (a6w 3):=by
 have s:∀d k0 sp,(sp=(λ_ _ _ _=>False)/\d=0 \/ ∃d',sp=a6w d'/\d=d'+1)->FnT P w K mg base "_law_kinds" k0 ["thing"] sp->FnT P w K mg base "_law_kinds" (k0+1) ["thing"] (a6w d):=d1x D T kTT kST kIT kNT kSS kIS kII kIB;have g0:↑901 "_law_kinds" 1 ["thing"] (λ_ _ _ _=>False):=D.fn b6g (λvs H Q E h=>h.elim) (λf cdv A outer s H vs Q E hr h=>h.elim);exact s 3 4 _ (.inr ⟨2,rfl,rfl⟩) (s 2 3 _ (.inr ⟨1,rfl,rfl⟩) (s 1 2 _ (.inr ⟨0,rfl,rfl⟩) (s 0 1 _ (.inl ⟨rfl,rfl⟩) g0)))
theorem b8v{H:Hp}{p:Addr}{ns:List Int}{d:Nat}(e:H p=some (.tup ↑81))(l:ns.length<=1000):Kd (d+1) H (.ref p) :=
 .inr ⟨p,_,rfl,e,by rw[List.length_map];exact l,λx hx=>Kd.leaf (by obtain⟨i,_,rfl⟩:=List.mem_map.mp hx;trivial)⟩
theorem d4j{H:Hp}{p:Addr}{os:List ↑28}{d:Nat}(h:TTs H p os)(l:os.length<=1000)(lo:∀o∈os,o.length<=1000):Kd (d+2) H (.ref p):=by
 obtain⟨ps,e,hl,r⟩:=h;refine .inr ⟨p,_,rfl,e,by rw[List.length_map,hl];exact l,λx hx=>?_⟩
 obtain⟨q,hq,rfl⟩:=List.mem_map.mp hx;obtain⟨i,hi,e'⟩:=List.mem_iff_getElem.mp hq;have hj:=List.getElem?_eq_getElem (show i<os.length by lia)
 exact b8v (r i q _ (by rw[<- e'];exact List.getElem?_eq_getElem hi) hj) (lo _ (List.getElem_mem _))
theorem c8y{d:Nat}{H:Hp}(h:Hr):Kd d H h.v:=Kd.leaf (by cases h <;> trivial)
theorem e6y{H:Hp}{p:Addr}{x:Sd}(h:ST H p x)(lc:x.c.length<=1000)(lg:x.g.ms.length<=1000)(lt:x.t.ms.length<=1000)(lp:x.t.pa.length<=1000)(lo:x.os.length<=1000/\∀o∈x.os,o.length<=1000)(lb:x.bk.length<=1000/\∀o∈x.bk,o.length<=1000):Kd 3 H (.ref p):=by
 obtain⟨c,g,t,o,b,e,e1,⟨m,g1,g2⟩,⟨m1,pa,t1,t2,t3⟩,e4,e5⟩:=h;refine .inr ⟨p,_,rfl,e,(by show 5<=1000;decide),λy hy=>?_⟩
 simp only[List.mem_cons,List.not_mem_nil,or_false] at hy;rcases hy with rfl|rfl|rfl|rfl|rfl
 ·exact b8v e1 lc
 ·refine .inr ⟨g,_,rfl,g1,(by show 5<=1000;decide),λy hy=>?_⟩
  simp only[List.mem_cons,List.not_mem_nil,or_false] at hy;rcases hy with rfl|rfl|rfl|rfl|rfl
  ·exact Kd.leaf (by trivial)
  ·exact c8y _
  ·exact b8v g2 lg
  ·exact Kd.leaf (by trivial)
  ·exact Kd.leaf (by trivial)
 ·refine .inr ⟨t,_,rfl,t1,(by show 7<=1000;decide),λy hy=>?_⟩
  simp only[List.mem_cons,List.not_mem_nil,or_false] at hy;rcases hy with rfl|rfl|rfl|rfl|rfl|rfl|rfl
  ·exact Kd.leaf (by trivial)
  ·exact c8y _
  ·exact b8v t2 lt
  ·exact c8y _
  ·exact Kd.leaf (by trivial)
  ·exact Kd.leaf (by trivial)
  ·exact b8v t3 lp
 ·exact d4j e4 lo.1 lo.2
 ·exact d4j e5 lb.1 lb.2
local macro_rules | `(tactic| walk_at "go1")=>`(tactic| first|walk_at "ga"|((with_reducible refine' c7f ?h ?v ?_);(case h=>assumption);(case v=>exact rfl)))
theorem ST.tup{H H':Hp}{p:Addr}{x:Sd}(h:ST H p x)(t:TupLe H H'):ST H' p x:=by
 obtain⟨c,g,t',o,b,e,e1,⟨m,g1,g2⟩,⟨m1,pa,t1,t2,t3⟩,⟨ps,q1,q2,q3⟩,⟨ps',q4,q5,q6⟩⟩:=h;exact⟨c,g,t',o,b,t _ _ e rfl,t _ _ e1 rfl,⟨m,t _ _ g1 rfl,t _ _ g2 rfl⟩,⟨m1,pa,t _ _ t1 rfl,t _ _ t2 rfl,t _ _ t3 rfl⟩,⟨ps,t _ _ q1 rfl,q2,λi p o hp ho=>t _ _ (q3 i p o hp ho) rfl⟩,⟨ps',t _ _ q4 rfl,q5,λi p o hp ho=>t _ _ (q6 i p o hp ho) rfl⟩⟩
theorem e6z{H:Hp}{p:Addr}{L:Ln}(ok:Ok L)(l:L.os.length<=400)(h:ST H p (e5w L)):Kd 3 H (.ref p):=by
 have n8:=ok.core.n8;have gd:=ok.core.good;have bl:=ok.tk.bl;have mb:∀o∈L.bk,o∈L.os:=λo ho=>by
  rw[ok.tk.bk] at ho;exact List.mem_of_mem_take ho
 refine e6y h (by show(b8i L.n L.c).length<=1000;rw[c9s];lia) (by show L.gseen.length<=1000;have:=ok.gv.seen.1;lia) (by show L.tseen.length<=1000;have:=ok.tk.seen.1;lia) ?_ ⟨(by show L.os.length<=1000;lia),λo ho=>by have:=(gd o ho).2;lia⟩ ⟨(by show L.bk.length<=1000;lia),λo ho=>by have:=(gd o (mb o ho)).2;lia⟩
 show(if Stg.come L.ts=true\/L.ts=.free\/L.ts.frees=true then [] else y7 L.os L.f (L.t-L.f)).length<=1000;split
 ·exact Nat.zero_le _
 ·unfold y7
  rw[List.length_map,List.length_range];have:=ok.tk.tg;have:=ok.core.gf;lia
inductive ExP(R:(Addr->Prop)->(Addr->Prop)->Ln->(Nat->Addr)->Ow->Option V->Prop):Prop
 | mk (F F2:Addr->Prop) (L:Ln) (a:Nat->Addr) (s:Ow) (x5:Option V) (h:R F F2 L a s x5):ExP R
inductive ExQ(R:(Addr->Prop)->(Addr->Prop)->Ad->Ln->(Nat->Addr)->Ow->Addr->Addr->Option V->Option V->Option V->Prop):Prop
 | mk (F F2:Addr->Prop) (A:Ad) (L:Ln) (a:Nat->Addr) (s:Ow) (el du:Addr) (x5 x9 x10:Option V) (h:R F F2 A L a s el du x5 x9 x10):ExQ R
theorem c9t(k:Nat)(v:Int):(List.replicate k [V.int v]).flatten=(List.replicate k v).map V.int:=by
 rw[List.flatten_replicate_singleton,List.map_replicate]
abbrev c2d:Stmt:=top 125
theorem a6i:i8 ["script","well","size","lane","own","k","elder","due","many","move","order"] ["script"] (g9 c2d):=↑1
theorem e3x{
        fa:Addr}{fd:FuncData}(D:Fun K "law" "law" c2d fa fd)(T:↑14)(G_law_take:↑901 "_law_take" 1 ["well","many"] a6u)(G_law_well:↑901 "_law_well" 1 ["script","k"] (b0x K))(G_law_order:↑901 "_law_order" 2 ["well","size"] b5w)(G_law_moves:↑901 "_law_moves" 2 ["script","first","most"] (b5x K))(G_Lane:MakeT P w K mg base "Lane" cl.Lane 6 ["self","size"] (frS (b6b cl)))(G_law_lane:↑901 "_law_lane" 2 ["size"] b7l)(G_law_stepped:↑901 "_law_stepped" 3 ["lane","who"] (frS b0m))(G_law_fresh:↑901 "_law_fresh" 1 [] a8c)(G_stand_of:↑901 "stand_of" 6 ["lane"] (b7h cl))(G_law_stand:↑901 "_law_stand" 3 ["lane"] b5u)(G_law_kinds:↑901 "_law_kinds" 5 ["thing"] (a6w 3))(LS:↑904 cl.Lane "step" 9 ["self","hand"] (frS (b6a cl)))(G_Lane_fall:↑904 cl.Lane "fall" 6 ["self","hand"] (frS (b6c cl)))(G_Lane_hand_in:↑904 cl.Lane "hand_in" 3 ["self","order"] (frS (a8e cl)))(G_Lane_trail:↑904 cl.Lane "trail" 1 ["self"] (b3a cl))(G_Lane_cells:↑904 cl.Lane "cells" 2 ["self"] (a7d cl)):
  FnOk P w K mg base (CXK P w) 10 fa fd ["script"] (c9p K):=by
 refine D.okX a6i ↑8 (λcdv A' outer s H vs Q E hr h=>?_)
 ·obtain⟨sa,ns,rfl,hS,hlen,k⟩:=h
  refine⟨_,(
        d6 (l9 (i:=1) a6i.nd rfl ↑22 (m3 G_law_well hr ↑4 rfl j4 (d5 (pu 0) ↑25)))
   (d6 (l9 (i:=2) a6i.nd rfl ↑22 (k7 v3 i4 (m3 G_law_take hr ↑4 rfl j4 (d5 (pu 1) ↑25))))
   (d6 (l9 (i:=3) a6i.nd rfl ↑22 (d6v G_Lane hr ↑4 rfl j4 (d5 (pu 2) i9)))
   (d6 (l9 (i:=4) a6i.nd rfl ↑22 (m3 G_law_lane hr ↑4 rfl j4 (d5 (pu 2) i9)))
   (d6 (b8l a5o rfl (b3p rfl T.z_range (d5 (k7 a0p (k7 v3 i4 (m3 G_law_take hr ↑4 rfl j4 (d5 (pu 1) ↑25))) (v2 a6q (by rfl) T.z_int PyProof.Rows.boot_int (d5 (a3k a0m (m3 G_law_take hr ↑4 rfl j4 (d5 (pu 1) ↑25)) i4 ↑43) i9))) i9)) (a1b (i:=5) a6i.nd rfl ↑22)
     (
     d6 (j9 (z9 (K:=K) ↑138 (d5 (k7 c0o (@v5 _ _ _ _ (d5 (k7 a2g (pu 5) i4) i9)) (k7 v3 i4 (k7 a0l (pu 5) (pu 2)))) i9)))
     (d7 (j9 (a2s (pu 3) T.k_Lane G_Lane_hand_in hr ↑4 j4 (d5 (k7 c0o (@v5 _ _ _ _ (d5 (k7 a2g (pu 5) i4) i9)) (k7 v3 i4 (k7 a0l (pu 5) (pu 2)))) i9))))))
   (d6 (l9 (i:=6) a6i.nd rfl ↑22 (m3 G_stand_of hr ↑4 rfl j4 (d5 (pu 3) i9)))
   (d6 (l9 (i:=7) a6i.nd rfl ↑22 (m3 G_law_stand hr ↑4 rfl j4 (d5 (pu 4) i9)))
   (d6 (l9 (i:=8) a6i.nd rfl ↑22 (v7 ↑42 (by rfl) T.z_len PySem.boot_len (d5 ↑138 i9)))
   (d6 (
         b8l a5o rfl (a2r (K:=K) (k7 c5e (@v5 _ _ _ _ ↑25) (m3 G_law_moves hr ↑4 rfl j4 (d5 (pu 0) (d5 i4 ↑25))))) (a1b (i:=9) a6i.nd rfl ↑22)
     (
     d6 (
          x0 (l7 b5h (pu 9) i4 ↑43)
       (
       d6 (j9 (d3i (k:=9) (pu 3) hr ↑4 j4 (d5 (@a0c _ _ _ _ _ _ _ ↑19 (@v5 _ _ _ _ ↑18) (pu 9) ↑11) i9)))
       (d7 (j9 (m3 G_law_stepped hr ↑4 rfl j4 (d5 (pu 4) (d5 (pu 9) i9))))))
       (d7 (x0 (l7 b5h (pu 9) i4 ↑43)
        (
         d6 (j9 (a2s (pu 3) T.k_Lane G_Lane_fall hr ↑4 j4 (d5 (@a0c _ _ _ _ _ _ _ ↑19 (@v5 _ _ _ _ ↑18) (k7 a2g (pu 9) i4) ↑11) i9)))
         (d7 (c0l (d3j G_law_fresh hr ↑4 rfl j4) (c5a ↑138 (k7 a2g (pu 9) i4) b3f))))
        (d7 (x0 (l7 b5h (v7 ↑42 (by rfl) T.z_len PySem.boot_len (d5 ↑138 i9)) (k7 v3 (pu 8) i4) ↑43)
          (
          d6 (l9 (i:=10) a6i.nd rfl ↑22 (m3 G_law_order hr ↑4 rfl j4 (d5 (pu 1) (d5 (pu 2) i9))))
          (d6 (j9 (z9 (K:=K) ↑138 (d5 (pu 10) i9)))
          (d7 (j9 (a2s (pu 3) T.k_Lane G_Lane_hand_in hr ↑4 j4 (d5 (v2 (a4l (K:=K)) (by rfl) T.z_list PyProof.Rows.boot_list (d5 (pu 10) i9)) i9))))))
          v6)))))
     (d6 (x0 (l7 (d3p (K:=K) (n:=2) (huN hr 3)) (pu 6) (pu 7) ↑43)
       ↑101
       v6)
     (d6 (l9 (i:=6) a6i.nd rfl ↑22 (m3 G_stand_of hr ↑4 rfl j4 (d5 (pu 3) i9)))
     (d6 (l9 (i:=7) a6i.nd rfl ↑22 (m3 G_law_stand hr ↑4 rfl j4 (d5 (pu 4) i9)))
     (d7 (x0 (PW.pt (c4x (l7 (d3p (K:=K) (n:=2) (huN hr 3)) (pu 6) (pu 7) ↑43) (c4x (d2z (a9g (m3 G_law_kinds hr ↑4 rfl j4 (d5 (pu 6) i9)))) (b8j (l7 (d3p (K:=K) (n:=0) ↑23) (c0n (pu 3) T.k_Lane G_Lane_cells hr ↑4 j4) ↑138 ↑43)))))
      ↑101
      v6)))))))
   (d7 (m8 (a3k (d8t (K:=K) (n:=1) (huN hr 2)) (c0n (pu 3) T.k_Lane G_Lane_trail hr ↑4 j4) ↑138 ↑43)))))))))))),?_⟩
  have h60:6000000<=sizeLine:=by decide
  fail "";refine⟨sa,ns,0,rfl,hS,by lia,λwl H1 nwl s1 w1=>?_⟩
  fail "";refine⟨wl,7,rfl,w1,by decide,by decide,λr2 H2 a2 c2 w2 b2=>?_⟩
  obtain⟨n,en⟩:∃n:Nat,(n:Int)=2+r2:=⟨(2+r2).toNat,by lia⟩
  have s2:Same H H2:=λx o e=>b2 _ _ (s1 _ _ e) (λz=>by rw[z,nwl] at e;cases e)
  fail "";rw[<- en];intro la dx hla hdx ne;have sm:=b5n (u:=.own la) (o:=.ins cl.Lane dx []) hla hdx ne;have ela:upd (upd H2 dx (.own la)) la (.ins cl.Lane dx []) la=some (.ins cl.Lane dx []):=d9;generalize upd (upd H2 dx _) la _=H3 at *;refine⟨rs (λy=>y=la) H3,c0h _ H3,la,dx,n,rfl,b5e ela ↑118 ↑22,by lia,by lia,λ_=>False,(λx hx=>hx.elim),λA J eF N3 kp3 fr3 ul3 ot=>⟨rfl,?_⟩⟩
  have nl:wl≠la:=λz=>by obtain⟨o,e⟩:=w2.at;rw[z,hla] at e;cases e
  obtain⟨wx,wy,wz,ew,wq⟩:=w2;obtain⟨ew4,nw4⟩:=a9n (sm _ _ ew) nl ot;have lp:=LP.behind ot N3 (λx hx=>by rw[eF] at hx;exact hx)
  obtain⟨sko,sk4,skn,skk⟩:∃sko:List (Addr×List Int),(∀z∈sko,jn J (rs (λy=>y=la) H3) H3 z.1=some (.lst (z.2.map V.int))/\¬ c8z J z.1/\z.1≠wl)/\(∀z∈sko,∃o,H2 z.1=some o)/\∀H',(∀z∈sko,H' z.1=some (.lst (z.2.map V.int)))->TupLe (jn J (rs (λy=>y=la) H3) H3) H'->SqL K H' sa (ns.map V.int):=by
   rcases hS with (h|⟨o,h⟩)|h
   ·have e3:=sm _ _ (s2 _ _ h)
    have q:=a9n e3 (λz:sa=la=>by have:=s2 _ _ h;rw[z,hla] at this;cases this) ot
    exact⟨[(sa,ns)],λz hz=>by rw[List.mem_singleton.mp hz];exact⟨q.1,q.2,λy=>by rw[show sa=wl from y,nwl] at h;cases h⟩,λz hz=>by rw[List.mem_singleton.mp hz];exact⟨_,s2 _ _ h⟩,λH' m _=>.inl (.inl (m _ (List.mem_singleton.mpr rfl)))⟩
   ·exact⟨[],↑118,↑118,λH' _ m=>.inl (.inr ⟨o,m _ _ (a2c (ot.frz _ _ _ (sm _ _ (s2 _ _ h)))) rfl⟩)⟩
   ·exact⟨[],↑118,↑118,λH' _ _=>.inr h⟩
  generalize jn J (rs (λy=>y=la) H3) H3=H4 at *;generalize c8z J=F at *;clear ot N3 kp3 fr3 ul3;fail "";refine⟨n,rfl,by lia,by lia,λa H5 na s5 ox=>?_⟩
  have rel:=e0z (n:=n) ↑2 ↑2;have lF:∀x,F x->∃o,H4 x=some o:=λx hx=>by obtain⟨o,e,_⟩:=lp.dom x hx;exact⟨o,e⟩
  have noa:∀{x:Addr}{o:HO},H4 x=some o->¬ ((∃j,j<12/\x=a j)\/x∈([]:List Addr)\/x∈([]:List Addr)):=λe z=>by
   rcases z with ⟨j,hj,z⟩|z|z
   ·rw[z,na j hj] at e;cases e
   ·cases z
   ·cases z
  have T5:TI cl H5 la wl sko F (λx=>(∃j,j<12/\x=a j)\/x∈([]:List Addr)\/x∈([]:List Addr)) A (a0s n) [] a (e6b n) :=
   ⟨lp.kp λx o e _ _=>s5 _ _ e,ox.part,λx hx h2=>by obtain⟨o,e⟩:=lF x hx;exact noa e h2,⟨wx,wy,wz,s5 _ _ ew4,wq⟩,⟨nw4,noa ew4⟩,λz hz=>s5 _ _ (sk4 z hz).1,λz hz=>⟨(sk4 z hz).2.1,noa (sk4 z hz).1⟩,λz hz=>(sk4 z hz).2.2⟩
  have tl5:TupLe H4 H5:=TupLe.of s5;generalize (λx=>(∃j,j<12/\x=a j)\/x∈([]:List Addr)\/x∈([]:List Addr))=F2 at *;obtain⟨oa,eoa⟩:∃oa,oa=a 0:=⟨_,rfl⟩;rw[<- eoa];clear noa ox lF lp na ela sm s1 s2 b2 w1 sk4 skn s5 ew ew4 nw4 nl hla hdx ne nwl hS;fail "";refine⟨wl,170,rfl,T5.we,by decide,by decide,λr6 H6 a6 c6 w6 b6=>?_⟩
  have T6:=T5.but b6 w6;have t6:=tl5.trans (TupLe.but T5.we b6);fail "";refine⟨wl,8,rfl,w6,by decide,by decide,λr7 H7 a7 c7 w7 b7=>?_⟩
  have T7:=T6.but b7 w7;have t7:=t6.trans (TupLe.but w6 b7);fail "";refine .inr ↑112;clear T5 T6 b6 b7 w6 w7 tl5 t6;obtain⟨N,eN,hN0,hN⟩:∃N:Int,(65+r6)*(if decide (V.int r7=V.int 0)=true then 1 else 0)=N/\0<=N/\N<=234:=by
   refine ↑112;split <;> lia
  fail "";rw[eN];have hNn:(N.toNat:Int)=N:=Int.toNat_of_nonneg hN0;refine b0c (n:=N.toNat) (λi σ H'=>ExP λF F2 L a s x5=>σ=[some (.ref sa),some (.ref wl),some (.int n),some (.ref la),some (.ref oa),x5,none,none,none,none,none]/\TI cl H' la wl sko F F2 A L s.tr a s/\oa=a 0/\ORel s L/\L.n=n/\L.os.length=i/\s.tr=[]/\TupLe H4 H') ⟨F,F2,a0s n,a,e6b n,_,rfl,T7,eoa,rel,rfl,rfl,rfl,t7⟩ ?_ ?_
  ·clear T7 rel eoa t7
   rintro i σ G0 hi ⟨F,F2,L,a,s,x5,rfl,T0,eoa,rel,eNn,eLen,etr,t0⟩;have ok:Ok L:=by obtain⟨_,_,_,_,_,_,_,ok⟩:=T0.lp.ln.lr;exact ok
   have n2:=ok.core.n2;have n8:=ok.core.n8;obtain⟨ks,_,_,ox⟩:=T0.op.all;have e0:G0 oa=some (.dK (kvO s.n a)):=eoa ▸ ox.e0;have e9:G0 (a 9)=some (.lst (ks.map V.ref)):=ox.ob 9 ↑4;have lk:ks.length=i:=by rw[ox.rk.1,rel.os,eLen]
   fail "";refine⟨(show 1<=sizeLine by lia),λp1 hp1=>?_⟩
   generalize u1:upd G0 p1 _=G1;obtain⟨t1,e1⟩:=nwS u1 hp1;fail "";have em:(1+(0+(i:Int)) % (n:Int))=((1+i % n:Nat):Int):=by rw[Int.zero_add];push_cast;rfl
   have hm:=Nat.mod_lt i (show 0<n by lia)
   rw[em];refine⟨p1,_,_,rfl,rfl,e1,by lia,by lia,(by show 1*((1+i % n:Nat):Int).toNat<=_;lia),λp2 hp2=>?_⟩
   rw[c9t,Int.toNat_natCast];generalize u2:upd G1 p2 _=G2;obtain⟨t2,e2⟩:=nwS u2 hp2;have lo1:1<=(List.replicate (1+i % n) (0+(i:Int)-9)).length:=by rw[List.length_replicate];lia
   have lo2:(List.replicate (1+i % n) (0+(i:Int)-9)).length<=L.n:=by rw[List.length_replicate,eNn];lia
   generalize eo:List.replicate (1+i % n) (0+(i:Int)-9)=o at *;have T1:=T0.same t1;obtain⟨xs,ex,lx,F3,T3⟩:=(T1.same t2).order e2 (T1.no hp2);have lx':xs.length<sizeLine:=by rw[lx,rel.os,eLen];lia
   have t3:=(t0.trans (.of (t1.trans t2))).trans (TupLe.put (ys:=xs++[.ref p2]) ex);clear ox e9 e0 T0 T1 t0 t1 e1 u1 hp1;fail "";generalize upd G2 (a 9) _=G3 at *;clear ex e2 hp2 u2 t2;obtain⟨dxl,el⟩:=T3.lp.all.ob;fail "";refine⟨(show 1<=sizeLine by lia),λp4 hp4=>?_⟩
   generalize u4:upd G3 p4 _=G4;obtain⟨t4,e4⟩:=nwS u4 hp4;fail "";rw[em];refine⟨p4,_,_,rfl,rfl,e4,by lia,by lia,(by show 1*((1+i % n:Nat):Int).toNat<=_;lia),λq hq=>?_⟩
   rw[c9t,Int.toNat_natCast,eo];generalize u5:upd G4 q _=G5;obtain⟨t5,e5⟩:=nwS u5 hq;have T4:=T3.same t4;have T5:=(T4.same t5).grow (q:=q) ⟨_,e5,rfl,λ_ z=>nomatch z⟩ (T4.no hq);refine⟨rs (λx=>F x\/x=q) G5,c0h _ G5,la,A,L,s.tr,q,o,rfl,T5.lp.ln,b5e e5 ↑118 (.inl (.inr rfl)),lo1,lo2,by lia,λJ3 y1 _ ot=>?_⟩
   have T6:=T5.lane ot y1 rfl;have t6:=(t3.trans (.of (t4.trans t5))).trans (TupLe.out ot);have rel2:=rel.add ok lo1;fail "";exact⟨_,F3,a7t L o,a,{ s with os:=s.os++[o] },_,rfl,T6,eoa,rel2,eNn,by show(L.os++[o]).length=i+1;rw[List.length_append,eLen];rfl,etr,t6⟩
  ·clear T7 rel eoa t7
   rintro σ G0 ⟨F,F2,L,a,s,x5,rfl,T0,eoa,rel,eNn,eLen,etr,t0⟩;have hL:L.os.length<=234:=by lia
   clear eLen;obtain⟨M,eM⟩:∃M,L.os.length=M:=⟨_,rfl⟩;fail "";have ok:Ok L:=by obtain⟨_,_,_,_,_,_,_,ok⟩:=T0.lp.ln.lr;exact ok
   refine⟨la,A,L,s.tr,rfl,T0.lp.all,by lia,λel H1 t1 st1=>?_⟩
   have T1:=T0.same t1;fail "";refine⟨a,s,L,by rw[eoa],T1.op.all,rel,ok,by lia,λdu H2 t2 st2=>?_⟩
   have T2:=T1.same t2;have st1:=st1.same t2;have u2:=t0.trans (.of (t1.trans t2));clear T0 T1 t0 t1 t2;obtain⟨ks,_,_,ox⟩:=T2.op.all;have e0:H2 oa=some (.dK (kvO s.n a)):=eoa ▸ ox.e0;have e9:H2 (a 9)=some (.lst (ks.map V.ref)):=ox.ob 9 ↑4;have lk:ks.length=M:=by rw[ox.rk.1,rel.os,eM]
   fail "";rw[List.length_map,lk];refine⟨(show 1<=sizeLine by lia),λp3 hp3=>?_⟩
   generalize u3:upd H2 p3 _=H3;obtain⟨s3,e3⟩:=nwS u3 hp3;have T3:=T2.same s3;fail "";refine⟨sa,ns,1,300,rfl,skk H3 T3.em (u2.trans (.of s3)),hlen,by decide,by decide,λml H5 row hml eml s5 lrow hrow=>?_⟩
   refine d4y (s5 _ _ e3) eml (by rw[List.length_map];show 1+row.length<=sizeLine;lia) λmv hmv=>?_
   rw[show([.int 4]:List V)++row.map V.int=((4::row):List Int).map V.int from rfl];generalize u6:upd H5 mv _=H6;obtain⟨s6,e6⟩:=nwS u6 hmv;have T6:=(T3.same s5).keep hmv s6 e6;have s26:=(s3.trans s5).trans s6;have st1:=st1.same s26;have st2:=st2.same s26;have hrow:∀x∈((4::row):List Int),0<=x/\x<=4:=λx hx=>by
    rcases List.mem_cons.mp hx with rfl|hx
    ·decide
    ·exact hrow x hx
   have lrow:((4::row):List Int).length<=301:=by show row.length+1<=301;lia
   generalize ((4::row):List Int)=ms at *;have mkm:(mv,ms)∈(mv,ms)::sko:=List.mem_cons_self;generalize ((mv,ms)::sko)=ko at *;have tr0:s.tr.length<=0:=by rw[etr];exact Nat.le_refl _
   clear T2 T3 u2 ox e0 e9 lk u3 s3 e3 hp3 eml s5 u6 s6 s26 hml hmv etr;fail "";refine for_listH (xs:=ms.map V.int) (λi σ H'=>ExQ λF F2 A L a s el du x5 x9 x10=>σ=[some (.ref sa),some (.ref wl),some (.int n),some (.ref la),some (.ref oa),x5,some (.ref el),some (.ref du),some (.int M),x9,x10]/\TI cl H' la wl ko F F2 A L s.tr a s/\oa=a 0/\ORel s L/\L.n=n/\L.os.length<=M+60/\s.tr.length<=i/\∃x,ST H' el x/\ST H' du x) ⟨F,F2,A,L,a,s,el,du,_,_,_,rfl,T6,eoa,rel,eNn,by lia,tr0,_,st1,st2⟩ ?_ ?_ ?_
   ·rintro i σ H' _ ⟨F,F2,A,L,a,s,el,du,x5,x9,x10,_,T1,_⟩
    exact SqL.of (T1.em _ mkm)
   ·clear T6 rel eoa ok st1 st2
    have hM:M<=234:=by lia
    rintro i x σ G0 hx ⟨F,F2,A,L,a,s,el,du,x5,x9,x10,rfl,T0,eoa,rel,eN,os6,tl6,S0,sa0,sb0⟩;obtain⟨v,v0,v8,hi,rfl⟩:∃v:Int,0<=v/\v<=4/\i<301/\x=.int v:=by
     have hi:=(List.getElem?_eq_some_iff.mp hx).1;rw[List.length_map] at hi;rw[List.getElem?_map,List.getElem?_eq_getElem hi] at hx;cases hx;obtain⟨p,q⟩:=hrow _ (List.getElem_mem hi);exact⟨_,p,q,by lia,rfl⟩
    clear hx hrow lrow;have ok:Ok L:=by obtain⟨_,_,_,_,_,_,_,ok⟩:=T0.lp.ln.lr;exact ok
    fail "";rename_i nX hX;have fin:∀(F F2:Addr->Prop)(A:Ad)(L:Ln)(a:Nat->Addr)(s:Ow)(x10:Option V)(G:Hp),TI cl G la wl ko F F2 A L s.tr a s->oa=a 0->ORel s L->L.n=n->L.os.length<=M+60->s.tr.length<=i+1->TupLe G0 G->nX [some (.ref sa),some (.ref wl),some (.int n),some (.ref la),some (.ref oa),x5,some (.ref el),some (.ref du),some (.int M),some (.int v),x10] G:=λF F2 A L a s x10 G T eoa rel eN os6 tl6 tl=>by
     have ok:Ok L:=by obtain⟨_,_,_,_,_,_,_,ok⟩:=T.lp.ln.lr;exact ok
     refine b9b hX ?_;clear hX;fail "";refine e1r (b:=true) (d9c (sa0.tup tl) (sb0.tup tl)) ?_;fail "";refine⟨la,A,L,s.tr,rfl,T.lp.all,by lia,λp1 H1 t1 st1=>?_⟩
     have T1:=T.same t1;fail "";refine⟨a,s,L,by rw[eoa],T1.op.all,rel,ok,by lia,λp2 H2 t2 st2=>?_⟩
     have T2:=T1.same t2;have st1:=st1.same t2;fail "";refine e1r (b:=true) (d9c st1 st2) ?_;fail "";refine⟨_,rfl,e6z ok ↑2 st1,λH3 t3=>?_⟩;have T3:=T2.same t3;obtain⟨dxl,el'⟩:=T3.lp.all.ob;obtain⟨_,_,_,ox⟩:=T3.op.all;have e03:H3 oa=some (.dK (kvO s.n a)):=eoa ▸ ox.e0;have e1:H3 (a 1)=some (.lst (s.c.map V.int)):=ox.ob 1 ↑4;rw[rel.c] at e1;fail "";refine⟨la,A,L,s.tr,rfl,T3.lp.all,λp4 hp4=>?_⟩;generalize u4:upd H3 p4 _=H4';obtain⟨t4,f4⟩:=nwS u4 hp4;have e04:=t4 _ _ e03;fail "";refine e1r (d8c (k8 e1 hp4).symm f4 (t4 _ _ e1)) ?_;fail "";exact⟨F,F2,A,L,a,s,p1,p2,_,_,_,rfl,T3.same t4,eoa,rel,eN,os6,tl6,_,st1.same (t3.trans t4),st2.same (t3.trans t4)⟩
    clear hX;fail "y"
    ·obtain⟨b,rfl⟩:∃b,v=wi b:=by
      rcases (show v=0\/v=1 by lia) with rfl|rfl
      ·exact⟨true,rfl⟩
      ·exact⟨false,rfl⟩
     obtain⟨dxl,el'⟩:=T0.lp.all.ob;fail "e";refine⟨la,cl.Lane,dxl,_,_,_,rfl,el',rfl,T.k_Lane,LS,?_⟩;fail "";refine⟨(show 2<=sizeLine by lia),λp2 hp2=>?_⟩
     generalize u2:upd G0 p2 _=G2;obtain⟨t2,e2⟩:=nwS u2 hp2;have T2:=T0.same t2;fail "";refine a1c (v:=.str (nmB b)) e2 (by cases b <;> rfl) ?_
     fail "";refine⟨rs F G2,c0h F G2,la,A,L,s.tr,b,nmB b,rfl,e4p b,T2.lp.ln,by lia,by lia,λJ3 A3 y1 y2 y3 ot=>?_⟩
     have T3:=T2.lane ot y1 y3.2;have u3:=(TupLe.of t2).trans (TupLe.out ot);generalize jn J3 (rs F G2) G2=G3 at *;generalize c8z J3=F5 at *;clear ot T2 t2 e2 u2 hp2 el' y1 y2 y3 T0;fail "";refine⟨rs F2 G3,c0h F2 G3,a,s,L,b,by rw[eoa],T3.op.ow,rel,ok,by lia,by lia,λJ1 a' s1 z0 z1 z2 z3 ot=>?_⟩
     have T4:=T3.own ot z1;rw[<- z3] at T4;have u4:=u3.trans (TupLe.out ot);generalize jn J1 (rs F2 G3) G3=G4 at *;generalize c8z J1=F6 at *;clear ot z1 T3;have eo:(b7g b L).os=L.os:=by cases b;exact(a2d L).2.1;exact(a2h L).2.1
     have en':(b7g b L).n=L.n:=by cases b;exact(a2d L).1;exact(a2h L).1
     have lt':s1.tr.length<=i+1:=by rw[z3];have:=(e2p b L s.tr).2;lia
     fail "";exact fin _ _ _ _ _ _ _ _ T4 (eoa.trans z0.symm) z2 ↑2 (by rw[eo];exact os6) lt' u4
    ·fail ""
     refine a4j (λy2=>?_) (λy2=>?_)
     ·obtain⟨b,rfl⟩:∃b,v=2+wi b:=by
       rcases (show v=2\/v=3 by lia) with rfl|rfl
       ·exact⟨true,rfl⟩
       ·exact⟨false,rfl⟩
      obtain⟨dxl,el'⟩:=T0.lp.all.ob;fail "";refine⟨(show 2<=sizeLine by lia),λp2 hp2=>?_⟩
      generalize u2:upd G0 p2 _=G2;obtain⟨t2,e2⟩:=nwS u2 hp2;have T2:=T0.same t2;fail "";rw[show 2+wi b-2=wi b by lia]
      refine a1c (v:=.str (nmB b)) e2 (by cases b <;> rfl) ?_
      fail "";refine⟨rs F G2,c0h F G2,la,A,L,s.tr,b,nmB b,rfl,e4p b,T2.lp.ln,by lia,λJ3 A3 y1 y2 y3 ot=>?_⟩
      have T3:=T2.lane ot y1 y3.2;have u3:=(TupLe.of t2).trans (TupLe.out ot);generalize jn J3 (rs F G2) G2=G3 at *;generalize c8z J3=F5 at *;clear ot T2 t2 e2 u2 hp2 el' y1 y2 y3 T0;fail "";refine⟨rfl,λd p p' G4 f=>?_⟩;obtain⟨ks,bs,ts,ox⟩:=T3.op.all;have e0:G4 oa=some (.dK (kvO s.n a)):=f.2.2.2.2.1 _ _ (eoa ▸ ox.e0);have e2:=f.2.2.2.2.1 _ _ ox.hs;obtain⟨F3,T4⟩:=T3.fall f b;have u4:=(u3.trans (.of f.2.2.2.2.1)).trans (TupLe.put (ys:=if b then [.ref d,.ref (a 4)] else [.ref (a 3),.ref d]) e2);fail "";rw[show 2+wi b-2=wi b by lia]
      refine d4t (j:=wn b) e2 (by cases b <;> rfl) ?_
      have a1:oa=reH a b d p p' 0:=by rw[eoa];cases b <;> rfl
      rw[show(([V.ref (a 3),V.ref (a 4)]:List V).set (wn b) (.ref d)) = ↑74 by cases b <;> rfl]
      have st:(s.setH b b4d).tr=s.tr:=by cases b <;> rfl
      rw[<- st] at T4;have rel2:ORel (s.setH b b4d) (d8a b L):=by cases b;exact rel.tfall;exact rel.gfall
      have eo:(d8a b L).os=L.os:=by cases b <;> rfl
      have en':(d8a b L).n=L.n:=by cases b <;> rfl
      fail "";exact fin _ _ _ _ _ _ _ _ T4 a1 rel2 ↑2 (by rw[eo];exact os6) (by rw[st];lia) u4
     ·obtain⟨ks,bs,ts,ox⟩:=T0.op.all
      have e0:G0 oa=some (.dK (kvO s.n a)):=eoa ▸ ox.e0;have e9:G0 (a 9)=some (.lst (ks.map V.ref)):=ox.ob 9 ↑4;have lk:ks.length=L.os.length:=by rw[ox.rk.1,rel.os]
      fail "";rw[List.length_map,lk];refine a4j (λy3=>?_) (λy3=>?_)
      ·clear ox e9 lk
       have n2:=ok.core.n2;have n8:=ok.core.n8;fail "";refine⟨wl,n,rfl,T0.we,by lia,by lia,λp G1 o hp ep r1 r2 _ w1 b1=>?_⟩
       have T1:=T0.but b1 w1;have e01:G1 oa=some (.dK (kvO s.n a)):=by obtain⟨_,_,_,ox⟩:=T1.op.all;exact eoa ▸ ox.e0
       obtain⟨xs,ex,lx,F3,T2⟩:=T1.order ep (T0.no hp);have lx':xs.length<sizeLine:=by rw[lx,rel.os];lia
       have u2:=(TupLe.but T0.we b1).trans (TupLe.put (ys:=xs++[.ref p]) ex);fail "";have ep2:upd G1 (a 9) (.lst (xs++[.ref p])) p=some ↑53:=(d8 (λz=>by obtain⟨_,_,_,x,inn⟩:=T1.op.inn;exact(T0.no hp).2.1 (inn _ (.inl ⟨9,by decide,z⟩)))).trans ep
       generalize upd G1 (a 9) _=G2 at *;clear T1 ex b1 w1 e01 e0 ep hp T0;obtain⟨dxl,el'⟩:=T2.lp.all.ob;fail "";intro q hq;generalize u3:upd G2 q _=G3;obtain⟨t3,eq3⟩:=nwS u3 hq;have T3:=(T2.same t3).grow (q:=q) ⟨_,eq3,rfl,λ_ z=>nomatch z⟩ (T2.no hq);refine⟨rs (λx=>F x\/x=q) G3,c0h _ G3,la,A,L,s.tr,q,o,rfl,T3.lp.ln,b5e eq3 ↑118 (.inl (.inr rfl)),r1,by lia,by lia,λJ3 y1 _ ot=>?_⟩
       have T4:=T3.lane ot y1 rfl;have u4:=(u2.trans (.of t3)).trans (TupLe.out ot);have rel2:=rel.add ok r1;fail "";exact fin _ _ _ _ a { s with os:=s.os++[o] } _ _ T4 eoa rel2 eN (by show(L.os++[o]).length<=M+60;rw[List.length_append];show L.os.length+1<=M+60;lia) (by show s.tr.length<=i+1;lia) u4
      ·fail ""
       exact fin _ _ _ _ _ _ _ _ T0 eoa rel eN os6 ↑2 (.of (Same.refl G0))
   ·rintro σ G0 ⟨F,F2,A,L,a,s,el,du,x5,x9,x10,rfl,T0,eoa,rel,eN,os6,tl6,_⟩
    have N0:=T0.lp.all;obtain⟨dxl,el'⟩:=N0.ob;obtain⟨ks,bs,ts,ox⟩:=T0.op.all;fail "";refine⟨la,A,L,s.tr,rfl,N0,λp ps hp r=>?_⟩;generalize u1:upd G0 p _=G1;obtain⟨t1,e1⟩:=nwS u1 hp;have e01:G1 oa=some (.dK (kvO s.n a)):=eoa ▸ t1 _ _ ox.e0;have eT:G1 (a 11)=some (.lst (ts.map V.ref)):=t1 _ _ (ox.ob 11 ↑4);fail "";refine e5h (d5b (k8 (ox.ob 11 ↑4) hp).symm e1 eT (r.same t1) (ox.same t1).rt) ?_;exact k _
end
end
section
open PySem PySem.Spec L2
section
variable{P:Program}{w:World}{K:Frag}{mg:Str->Option Value}{base:Heap}{cl:Cl}
theorem DefV.mk'{x:Str}{st:Stmt}{ps:List Str}{f:Addr}{oc:Value}{od an:Option Addr}{osl:Array (Option Value)}{kV doc pm cdv ct:Value}(l:K.lookup f=some ⟨oc,od,.func (PySem.W.fnOf x x (a1o st) ↑125 ↑89 .none kV doc pm an cdv ct),osl⟩)(c:codeIn K cdv x=true)(k:↑98)(hb:∀(kV doc pm:Value) (an:Option Addr) (cdv ct:Value) (us:List Value),us.length=ps.length->bindArgs (PySem.W.fnOf x x (a1o st) ↑125 ↑89 .none kV doc pm an cdv ct) ⟨us,[]⟩=pure (ps.zip us)):DefV K f x st ps :=
 have F:=d0g (st:=st) (x:=x) (qual:=x) l c k
 ⟨_,F,F.binds hb⟩
inductive DTs(P:Program)(w:World)(K:↑29)(mg:↑67)(base:Heap)(k:Nat):List (Str×Tok×Value)->List (Str×Sp)->Prop where
 | nil:DTs P w K mg base k [] []
 | cons {x:Str} {tk:Tok} {f:Addr} {pn:List Str} {sp:Sp} {ps:List (Str×Tok×Value)} {sl:List (Str×Sp)} (F:FnV P w K mg base f k pn sp) (r:DTs P w K mg base k ps sl):DTs P w K mg base k ((x,tk,.ref f)::ps) ((x,sp)::sl)
theorem DTs.keys{k:Nat}{ps:List (Str×Tok×Value)}{sl:List (Str×Sp)}(h:DTs P w K mg base k ps sl):ps.map (·.1)=sl.map (·.1):=by
 induction h with
 | nil=>rfl
 | cons F r ih=>simp only[List.map_cons,ih]
theorem DTs.at{k:Nat}{ps:List (Str×Tok×Value)}{sl:List (Str×Sp)}(h:DTs P w K mg base k ps sl){x:Str}{sp:Sp}(hx:(x,sp)∈sl):∃(i:Nat)(tk:Tok)(f:Addr)(pn:List Str),ps[i]?=some (x,tk,.ref f)/\FnV P w K mg base f k pn sp:=by
 induction h with
 | nil=>cases hx
 | cons F r ih=>
  rcases List.mem_cons.mp hx with e|e
  ·cases e
   exact⟨0,_,_,_,rfl,F⟩
  ·obtain⟨i,tk,f,pn,a,b⟩:=ih e
   exact⟨i+1,tk,f,pn,a,b⟩
theorem c3s{kvs:List (Str×Value)}{x:Str}(h:x ∉ kvs.map (·.1)):valueAt kvs x=none:=by
 unfold valueAt;rw[List.find?_eq_none.mpr]
 ·rfl
 ·intro kv hkv z
  exact h (List.mem_map.mpr ⟨kv,hkv,of_decide_eq_true z⟩)
theorem DT.mk'{d:Addr}{k:Nat}{ps:List (Str×Tok×Value)}{sl:List (Str×Sp)}{ep:Nat}(hd:(d == sysModules)=false)(l:K.lookup d=some ⟨.type "dict",none,.dict (e2g w ps).toArray ep,#[]⟩)(h:DTs P w K mg base k ps sl)(nd:(sl.map (·.1)).Nodup):DT P w K mg base d k sl:=by
 have kd:=KDict.mk' (P:=P) hd l (by rw[h.keys];exact nd)
 have ke:(ps.map λp=>(p.1,p.2.2)).map (·.1)=sl.map (·.1):=by rw[List.map_map,<- h.keys];rfl
 refine⟨_,kd,λx sp hx=>?_,λx hx=>c3s (by rw[ke];exact hx)⟩
 obtain⟨i,tk,f,pn,a,b⟩:=h.at hx;exact⟨f,pn,valueAt_of_get (by rw[ke];exact nd) (i:=i) (by rw[List.getElem?_map,a];rfl),b⟩
end
section
variable{K:Frag}{mg:Str->Option Value}
inductive AtF(K:↑29)(f:Addr)(x q:Str)(st:Stmt):Prop
 | of {oc:Value} {od:Option Addr} {kV dc pm cd ct:Value} {an:Option Addr} {sl:Array (Option Value)} (l:K.lookup f=some ⟨oc,od,.func (PySem.W.fnOf x q (a1o st) ↑125 ↑89 .none kV dc pm an cd ct),sl⟩) (c:codeIn K cd q=true) (k:↑98):AtF K f x q st
abbrev BA(x q:Str)(st:Stmt)(ps:List Str):Prop:=∀(kV doc pm:Value)(an:Option Addr)(cdv ct:Value)(us:List Value),us.length=ps.length->bindArgs (PySem.W.fnOf x q (a1o st) ↑125 ↑89 .none kV doc pm an cdv ct) ⟨us,[]⟩=pure (ps.zip us)
theorem ba0{β:Type}{F G:List Value->β}(h:F []=G [])(us:List Value)(e:us.length=0):F us=G us:=by
 cases us with
 | nil=>exact h
 | cons=>cases e
theorem ba1{β:Type}{F G:List Value->β}(h:∀a,F [a]=G [a])(us:List Value)(e:us.length=1):F us=G us:=by
 cases us with
 | nil=>cases e
 | cons a t=>exact ba0 (F:=λt=>F (a::t)) (G:=λt=>G (a::t)) (h a) t (Nat.succ.inj e)
theorem ba2{β:Type}{F G:List Value->β}(h:∀a b,F [a,b]=G [a,b])(us:List Value)(e:us.length=2):F us=G us:=by
 cases us with
 | nil=>cases e
 | cons a t=>exact ba1 (F:=λt=>F (a::t)) (G:=λt=>G (a::t)) (h a) t (Nat.succ.inj e)
theorem ba3{β:Type}{F G:List Value->β}(h:∀a b c,F [a,b,c]=G [a,b,c])(us:List Value)(e:us.length=3):F us=G us:=by
 cases us with
 | nil=>cases e
 | cons a t=>exact ba2 (F:=λt=>F (a::t)) (G:=λt=>G (a::t)) (h a) t (Nat.succ.inj e)
theorem ba4{β:Type}{F G:List Value->β}(h:∀a b c d,F [a,b,c,d]=G [a,b,c,d])(us:List Value)(e:us.length=4):F us=G us:=by
 cases us with
 | nil=>cases e
 | cons a t=>exact ba3 (F:=λt=>F (a::t)) (G:=λt=>G (a::t)) (h a) t (Nat.succ.inj e)
theorem ba5{β:Type}{F G:List Value->β}(h:∀a b c d e,F [a,b,c,d,e]=G [a,b,c,d,e])(us:List Value)(e:us.length=5):F us=G us:=by
 cases us with
 | nil=>cases e
 | cons a t=>exact ba4 (F:=λt=>F (a::t)) (G:=λt=>G (a::t)) (h a) t (Nat.succ.inj e)
theorem AtF.t{h:Heap}{x:Str}{st:Stmt}{ps:List Str}{f:Addr}(X:K.In h)(G:h.Ns mainGlobals mg)(a:nsIn K mainGlobals x=some ↑116)(l:AtF K f x x st)(hb:BA x x st ps):DefT K mg x st ps :=
 by cases l with|of l c k=>exact .mk' X G a l c k hb
theorem AtF.v{x:Str}{st:Stmt}{ps:List Str}{f:Addr}(l:AtF K f x x st)(hb:BA x x st ps):DefV K f x st ps :=
 by cases l with|of l c k=>exact .mk' l c k hb
theorem AtF.m{C:Addr}{m q:Str}{st:Stmt}{ps:List Str}{f:Addr}(a:findIn K (.ref C) m=some ↑116)(i:isFn K (.ref f)=true)(l:AtF K f m q st)(hb:BA m q st ps):DefM K C m q st ps :=
 by cases l with|of l c k=>exact .mk' a i l c k hb
theorem AtF.k{f:Addr}{x q:Str}{st:Stmt}(l:AtF K f x q st):keepIn K (.ref f)=true:=by cases l with|of l c k=>exact k
inductive AtG(K:↑29)(x:Str)(st:Stmt):Prop
 | mk {f:Addr} (d:nsIn K mainGlobals x=some ↑116) (l:AtF K f x x st):AtG K x st
theorem AtG.of{x:Str}{st:Stmt}{f:Addr}{oc:Value}{od:Option Addr}{kV dc pm cd ct:Value}{an:Option Addr}{sl:Array (Option Value)}(d:nsIn K mainGlobals x=some ↑116)(l:K.lookup f=some ⟨oc,od,.func (PySem.W.fnOf x x (a1o st) ↑125 ↑89 .none kV dc pm an cd ct),sl⟩)(c:codeIn K cd x=true)(k:↑98):AtG K x st:=⟨d,.of l c k⟩
theorem AtG.t{h:Heap}{x:Str}{st:Stmt}{ps:List Str}(l:AtG K x st)(X:K.In h)(G:h.Ns mainGlobals mg)(hb:BA x x st ps):DefT K mg x st ps:=by cases l with|mk d l=>exact AtF.t X G d l hb
inductive AtM(K:↑29)(C:Addr)(m q:Str)(st:Stmt):Prop
 | mk {f:Addr} (d:findIn K (.ref C) m=some ↑116) (i:isFn K (.ref f)=true) (l:AtF K f m q st):AtM K C m q st
theorem AtM.of{C:Addr}{m q:Str}{st:Stmt}{f:Addr}{oc:Value}{od:Option Addr}{kV dc pm cd ct:Value}{an:Option Addr}{sl:Array (Option Value)}(d:findIn K (.ref C) m=some ↑116)(i:isFn K (.ref f)=true)(l:K.lookup f=some ⟨oc,od,.func (PySem.W.fnOf m q (a1o st) ↑125 ↑89 .none kV dc pm an cd ct),sl⟩)(c:codeIn K cd q=true)(k:↑98):AtM K C m q st:=⟨d,i,.of l c k⟩
theorem AtM.m{C:Addr}{m q:Str}{st:Stmt}{ps:List Str}(l:AtM K C m q st)(hb:BA m q st ps):DefM K C m q st ps:=by cases l with|mk d i l=>exact AtF.m d i l hb
end
end
open PySem L2
theorem all_mk{l:PySem.W.OpenLaw}{w:World}{K:Frag}{h:Heap}{mg:Str->Option Value}{fa:Addr}{ae ad aa ab ac:Addr}{cZ:Tok}{dg:Tok}{dc:Tok}{jD:Tok}{gT:Tok}{jN:Tok}{eh:Tok}{cx:Tok}{de:Tok}{jx:Tok}{iX:Tok}{aG:Addr}{cL:Nat}{cv:Array (Option Value)}{eQ hh:Tok}{aq aA ax au al an ao ak aL bm bc aT bj aQ aY bk aK bd aO bn bb aH bg aM bi:Addr}{dq cj cc bV aU bJ:Value}{iY cg:Option Addr}{iB:Array (Option Value)}{aw aB av aC aF ay:Addr}{eq:Nat}{eY fR iP hK hE ik dm hQ fj dD jC iL:Tok}{jT:Nat}{cS fn gL jl ee fe:Tok}{ir:Nat}{hF eE gu eJ:Tok}(eG:AtG K "check_size" a8s)(hY:AtG K "check_turn" a8r)(ds:AtG K "place_of" b4n)(fJ:AtG K "lap_of" c2e)(eP:AtG K "onward" c2c)(cV:AtG K "check_mark" a8t)(jq:AtG K "mark_of" b7w)(df:AtG K "mark_lap" b4p)(gk:AtG K "mark_side" b1j)(eD:AtG K "full_mark" b1u)(cC:AtG K "free_mark" b1v)(fN:AtG K "mark_to_give" a5y)(hD:AtG K "check_hand" a8u)(gW:AtG K "mark_cell" b1k)(iE:AtG K "number_cell" a7g)(jI:AtG K "left_cell" b1l)(hc:AtG K "thing_cell" a8m)(hR:AtG K "card_cell" b1w)(eo:AtG K "bell_cell" b1x)(fp:AtG K "new_cells" b1h)(jt:AtG K "check_bits" a8v)(iq:AtG K "check_marks" a7k)(hx:AtG K "alike_ahead" a7l)(dr:AtG K "front" c7t)(hg:AtG K "taker_bit" b1f)(gV:AtG K "giver_turn" a8q)(ho:AtG K "taker_turn" a8n)(gl:AtG K "write_card" a8l)(ju:AtG K "ring_other" a8p)(hq:AtG K "still_bell" a8o)(eT:AtG K "may_go_on" b1i)(gd:AtG K "order_of" b4o)(jH:AtG K "orders_of" b1g)(fu:AtG K "orders_told" a7f)(gG:AtG K "frozen" c2f)(gx:AtG K "stand_of" b4m)(fi:AtG K "_law_well" b4q)(fE:AtG K "_law_take" b4s)(hu:AtG K "_law_order" b1q)(dK:AtG K "_law_fresh" b1s)(fS:AtG K "_law_lane" b4w)(iA:AtG K "_law_touch" b1m)(da:AtG K "_law_turn_by" a7h)(fW:AtG K "_law_rise" b4t)(cB:AtG K "_law_lets" b4v)(gn:AtG K "_law_wait" b4r)(jS:AtG K "_law_remember" a5z)(ix:AtG K "_law_give" b4x)(iW:AtG K "_law_takes" b1n)(jM:AtG K "_law_frees" b1t)(fw:AtG K "_law_rests" b1p)(iK:AtG K "_law_stepped" a7i)(cy:AtG K "_law_mind" b4u)(dv:AtG K "_law_stand" b1o)(jv:AtG K "_law_moves" b1r)(fB:AtG K "_law_kinds" a7j)(iO:AtM K ae "__init__" "Board.__init__" a9f)(dh:AtM K ae "check_cell" "Board.check_cell" a2q)(dj:AtM K ae "note_touch" "Board.note_touch" a2o)(jJ:AtM K ae "read" "Board.read" a9e)(hn:AtM K ae "write" "Board.write" a7p)(et:AtM K ae "all_cells" "Board.all_cells" a3j)(jg:AtM K ae "touches" "Board.touches" a9d)(eZ:AtM K ae "last_touch" "Board.last_touch" a2p)(cw:AtM K aa "__init__" "Giver.__init__" a9c)(jy:AtM K aa "add" "Giver.add" b2e)(jp:AtM K aa "orders" "Giver.orders" a6b)(db:AtM K aa "place_ahead" "Giver.place_ahead" a2a)(hB:AtM K aa "begins_order" "Giver.begins_order" a1l)(hU:AtM K aa "next_order" "Giver.next_order" a2n)(jX:AtM K aa "next_part" "Giver.next_part" a3g)(gJ:AtM K aa "next_left" "Giver.next_left" a3h)(gI:AtM K aa "has_part" "Giver.has_part" a4b)(jE:AtM K aa "order_and_part" "Giver.order_and_part" a0r)(ja:AtM K aa "mind" "Giver.mind" a9b)(dC:AtM K aa "know_turn" "Giver.know_turn" a3i)(he:AtM K aa "awaited_mark" "Giver.awaited_mark" a1m)(dl:AtM K aa "turn_served" "Giver.turn_served" a1z)(hk:AtM K aa "go_on" "Giver.go_on" a7o)(ey:AtM K aa "resting" "Giver.resting" a4w)(iZ:AtM K aa "own_deed" "Giver.own_deed" a4a)(cA:AtM K ab "__init__" "Taker.__init__" a8x)(hO:AtM K ab "book" "Taker.book" a8y)(ft:AtM K ab "book_order" "Taker.book_order" a2k)(io:AtM K ab "mind" "Taker.mind" a8w)(fO:AtM K ab "know_turn" "Taker.know_turn" a3e)(eu:AtM K ab "awaited_mark" "Taker.awaited_mark" a1k)(gv:AtM K ab "turn_served" "Taker.turn_served" a1y)(gg:AtM K ab "go_on" "Taker.go_on" a7m)(dY:AtM K ab "resting" "Taker.resting" a4u)(fb:AtM K ab "own_deed" "Taker.own_deed" a3z)(ed:AtM K ac "__init__" "Lane.__init__" b2a)(jK:AtM K ac "place_giver" "Lane.place_giver" a2m)(hs:AtM K ac "place_taker" "Lane.place_taker" a2l)(iJ:AtM K ac "hand_named" "Lane.hand_named" a3f)(ev:AtM K ac "hand_in" "Lane.hand_in" a6a)(gj:AtM K ac "step" "Lane.step" b1z)(eO:AtM K ac "fall" "Lane.fall" b2b)(iR:AtM K ac "stage" "Lane.stage" b6h)(cH:AtM K ac "turn" "Lane.turn" b8g)(fg:AtM K ac "book" "Lane.book" b2c)(gz:AtM K ac "orders" "Lane.orders" a7n)(iu:AtM K ac "trail" "Lane.trail" a8z)(hT:AtM K ac "cells" "Lane.cells" a9a)(X:K.In h)(G:h.Ns mainGlobals mg)(hfa:mg "law" = some (.ref fa))(ge:nsIn K mainGlobals "Board" = some (some (.ref ae)))(jm:nsIn K mainGlobals "Hand" = some (some (.ref ad)))(hG:nsIn K mainGlobals "Giver" = some (some (.ref aa)))(jW:nsIn K mainGlobals "Taker" = some (some (.ref ab)))(eV:nsIn K mainGlobals "Lane" = some (some (.ref ac)))(gS:nsIn K mainGlobals "LEAST_SIZE" = some (some (.int (2) cZ)))(hM:nsIn K mainGlobals "MOST_SIZE" = some (some (.int (8) dg)))(fZ:nsIn K mainGlobals "FREE" = some (some (.int (0) dc)))(dt:nsIn K mainGlobals "FULL" = some (some (.int (1) jD)))(hp:nsIn K mainGlobals "MOST_MARK" = some (some (.int (3) gT)))(iS:nsIn K mainGlobals "CELLS_OF_A_PLACE" = some (some (.int (4) jN)))(jb:nsIn K mainGlobals "NEW_MARK" = some (some (.int (2) eh)))(gR:nsIn K mainGlobals "NO_ORDER" = some (some (.int (-1) cx)))(cM:nsIn K mainGlobals "NO_TURN" = some (some (.int (-1) de)))(ia:nsIn K mainGlobals "STILL" = some (some (.int (0) jx)))(cO:nsIn K mainGlobals "RUNG" = some (some (.int (1) iX)))(di:nsIn K mainGlobals "HANDS" = some (some (.ref aG)))(dw:K.lookup aG=some ⟨.type "tuple",none,.seq #[.str "giver" eQ,.str "taker" hh] cL,cv⟩)(jn:nsIn K mainGlobals "DEEDS_hand" = some (some (.ref aq)))(dI:nsIn K mainGlobals "DEEDS_giver" = some (some (.ref aA)))(ig:nsIn K mainGlobals "DEEDS_taker" = some (some (.ref ax)))(gU:plainGet K ae Str.empty=true)(gp:hasDictIn K ae=true)(eX:plainOver K ae=true)(fx:findIn K (.ref ae) "__setattr__" = some ↑77)(jo:makesIn K ae=true)(du:keepIn K (.ref ae)=true)(dG:findIn K (.ref ae) "many_touches" = some none)(cI:findIn K (.ref ae) "newest_touch" = some none)(fo:findIn K (.ref ae) "numbers" = some none)(dP:findIn K (.ref ae) "size" = some none)(hL:plainGet K ad Str.empty=true)(fP:hasDictIn K ad=true)(hC:plainOver K ad=true)(fF:findIn K (.ref ad) "__setattr__" = some ↑77)(kj:makesIn K ad=true)(kq:keepIn K (.ref ad)=true)(hH:findIn K (.ref ad) "board" = some none)(cW:findIn K (.ref ad) "here" = some none)(dH:findIn K (.ref ad) "marks_read" = some none)(hI:findIn K (.ref ad) "name" = some none)(fA:findIn K (.ref ad) "other" = some none)(ea:findIn K (.ref ad) "stage_behind_marks" = some none)(gh:findIn K (.ref ad) "stage_now" = some none)(dk:findIn K (.ref ad) "touched" = some none)(gE:plainGet K aa Str.empty=true)(eC:hasDictIn K aa=true)(ec:plainOver K aa=true)(ip:findIn K (.ref aa) "__setattr__" = some ↑77)(fG:makesIn K aa=true)(hX:keepIn K (.ref aa)=true)(cE:findIn K (.ref aa) "board" = some none)(gX:findIn K (.ref aa) "here" = some none)(cF:findIn K (.ref aa) "kept" = some none)(it:findIn K (.ref aa) "left" = some none)(hS:findIn K (.ref aa) "marks_read" = some none)(jk:findIn K (.ref aa) "name" = some none)(hP:findIn K (.ref aa) "number" = some none)(fz:findIn K (.ref aa) "other" = some none)(eR:findIn K (.ref aa) "stage_behind_marks" = some none)(gm:findIn K (.ref aa) "stage_now" = some none)(eL:findIn K (.ref aa) "touched" = some none)(gq:plainGet K ab Str.empty=true)(ep:hasDictIn K ab=true)(fH:plainOver K ab=true)(gi:findIn K (.ref ab) "__setattr__" = some ↑77)(hv:makesIn K ab=true)(cG:keepIn K (.ref ab)=true)(jz:findIn K (.ref ab) "board" = some none)(dL:findIn K (.ref ab) "here" = some none)(el:findIn K (.ref ab) "left" = some none)(eN:findIn K (.ref ab) "marks_read" = some none)(jf:findIn K (.ref ab) "name" = some none)(fK:findIn K (.ref ab) "not_freed" = some none)(gf:findIn K (.ref ab) "number" = some none)(eM:findIn K (.ref ab) "other" = some none)(iM:findIn K (.ref ab) "parts" = some none)(gt:findIn K (.ref ab) "stage_behind_marks" = some none)(hA:findIn K (.ref ab) "stage_now" = some none)(fl:findIn K (.ref ab) "taken" = some none)(ga:findIn K (.ref ab) "touched" = some none)(hm:plainGet K ac Str.empty=true)(en:hasDictIn K ac=true)(fy:plainOver K ac=true)(hZ:findIn K (.ref ac) "__setattr__" = some ↑77)(eU:makesIn K ac=true)(jO:keepIn K (.ref ac)=true)(eg:findIn K (.ref ac) "board" = some none)(ej:findIn K (.ref ac) "giver" = some none)(dE:findIn K (.ref ac) "kept_trail" = some none)(fv:findIn K (.ref ac) "taker" = some none)(ez:findIn K (.ref ac) "touched" = some none)(bD:findIn K (.ref ad) "__init__" = some (some (.ref au)))(hj:isFn K (.ref au)=true)(bQ:AtF K au "__init__" "Hand.__init__" b2d)(cP:findIn K (.ref ad) "stage" = some (some (.ref al)))(dy:isFn K (.ref al)=true)(dV:AtF K al "stage" "Hand.stage" b6i)(ji:findIn K (.ref ad) "turn" = some (some (.ref an)))(cz:isFn K (.ref an)=true)(dT:AtF K an "turn" "Hand.turn" b8h)(dZ:findIn K (.ref ad) "place" = some (some (.ref ao)))(aI:isFn K (.ref ao)=true)(aX:AtF K ao "place" "Hand.place" a5m)(gY:findIn K (.ref ad) "step" = some (some (.ref ak)))(aP:isFn K (.ref ak)=true)(aJ:AtF K ak "step" "Hand.step" a4v)(dS:nsIn K mainGlobals "len" = some none)(gs:nsIn K mainGlobals "range" = some none)(eb:nsIn K mainGlobals "max" = some none)(iz:nsIn K mainGlobals "min" = some none)(dM:nsIn K mainGlobals "isinstance" = some none)(dF:nsIn K mainGlobals "int" = some none)(dR:nsIn K mainGlobals "bool" = some none)(eI:nsIn K mainGlobals "list" = some none)(eH:nsIn K mainGlobals "all" = some none)(jQ:nsIn K mainGlobals "tuple" = some none)(dn:nsIn K mainGlobals "str" = some none)(ci:nsIn K mainGlobals "at_rouse" = some (some (.ref aL)))(fU:AtF K aL "at_rouse" "at_rouse" b4z)(bT:nsIn K mainGlobals "at_clear" = some (some (.ref bm)))(iD:AtF K bm "at_clear" "at_clear" b5c)(bA:nsIn K mainGlobals "at_mute" = some (some (.ref bc)))(ew:AtF K bc "at_mute" "at_mute" b8a)(bC:nsIn K mainGlobals "at_marks" = some (some (.ref aT)))(eS:AtF K aT "at_marks" "at_marks" b5a)(bN:nsIn K mainGlobals "at_look" = some (some (.ref bj)))(gA:AtF K bj "at_look" "at_look" b8c)(bZ:nsIn K mainGlobals "at_wish" = some (some (.ref aQ)))(gC:AtF K aQ "at_wish" "at_wish" b7x)(bR:nsIn K mainGlobals "at_again" = some (some (.ref aY)))(iC:AtF K aY "at_again" "at_again" b5d)(bM:nsIn K mainGlobals "at_sleep" = some (some (.ref bk)))(ib:AtF K bk "at_sleep" "at_sleep" b4y)(cm:nsIn K mainGlobals "at_hush" = some (some (.ref aK)))(ht:AtF K aK "at_hush" "at_hush" b8d)(bI:nsIn K mainGlobals "at_unwish" = some (some (.ref bd)))(jw:AtF K bd "at_unwish" "at_unwish" b1y)(bO:nsIn K mainGlobals "at_card" = some (some (.ref aO)))(fC:AtF K aO "at_card" "at_card" b8f)(bK:nsIn K mainGlobals "at_ring" = some (some (.ref bn)))(hw:AtF K bn "at_ring" "at_ring" b7z)(ck:nsIn K mainGlobals "at_told" = some (some (.ref bb)))(hW:AtF K bb "at_told" "at_told" b7y)(cr:nsIn K mainGlobals "at_lacks" = some (some (.ref aH)))(gH:AtF K aH "at_lacks" "at_lacks" b5b)(br:nsIn K mainGlobals "at_mark" = some (some (.ref bg)))(cT:AtF K bg "at_mark" "at_mark" b8b)(bu:nsIn K mainGlobals "at_free" = some (some (.ref aM)))(cX:AtF K aM "at_free" "at_free" b8e)(cY:nsIn K mainGlobals "law" = some (some (.ref bi)))(fk:K.lookup bi=some ⟨dq,iY,.func (PySem.W.fnOf "law" "law" (a1o c2d) (c9b c2d) (g9 c2d) .none cj cc bV cg aU bJ),iB⟩)(er:codeIn K aU "law" = true)(fV:keepIn K (.ref bi)=true)(kd:nsIn K mainGlobals "at_number_giver" = some (some (.ref aw)))(hl:AtF K aw "at_number" "at_number" a3d)(ke:nsIn K mainGlobals "at_left_giver" = some (some (.ref aB)))(eW:AtF K aB "at_left" "at_left" a4t)(ki:nsIn K mainGlobals "at_thing_giver" = some (some (.ref av)))(fX:AtF K av "at_thing" "at_thing" a3y)(ko:nsIn K mainGlobals "at_number_taker" = some (some (.ref aC)))(hz:AtF K aC "at_number" "at_number" a3c)(kf:nsIn K mainGlobals "at_left_taker" = some (some (.ref aF)))(jB:AtF K aF "at_left" "at_left" a4s)(kh:nsIn K mainGlobals "at_thing_taker" = some (some (.ref ay)))(fQ:AtF K ay "at_thing" "at_thing" a3x)(gD:kitOne K ↑100 ↑100=some true)(jh:kitOne K (.type "str") ↑100=some false)(cu:kitOne K ↑119 ↑100=some false)(ih:kitOne K (.type "NoneType") ↑100=some false)(fs:kitOne K (.type "str") (.type "str")=some true)(ii:kitOne K ↑119 (.type "str")=some false)(iU:kitOne K ↑119 ↑119=some true)(cR:kitOne K ↑119 (.type "bool")=some false)(id:findIn K (.ref aa) "place" = some (some (.ref ao)))(jR:findIn K (.ref ab) "place" = some (some (.ref ao)))(fY:findIn K (.ref aa) "step" = some (some (.ref ak)))(je:findIn K (.ref ab) "step" = some (some (.ref ak)))(kp:findIn K (.ref aa) "stage" = some (some (.ref al)))(kc:findIn K (.ref ab) "stage" = some (some (.ref al)))(kl:findIn K (.ref aa) "turn" = some (some (.ref an)))(jZ:findIn K (.ref ab) "turn" = some (some (.ref an)))(dz:specialIn K (.ref ad) "__getattribute__" = some (some (.builtin "type.__getattribute__")))(ex:PySem.W.readsIn K ad (.type "type")=true)(fm:PySem.W.findCls K (.ref ad) (.type "type") "__init__" = some (.val (.ref au)))(iF:(aq == sysModules)=false)(hN:K.lookup aq=some ⟨.type "dict",none,.dict (e2g w [("rouse",eY,.ref aL),("clear",fR,.ref bm),("mute",iP,.ref bc),("marks",hK,.ref aT),("look",hE,.ref bj),("wish",ik,.ref aQ),("again",dm,.ref aY),("sleep",hQ,.ref bk),("hush",fj,.ref aK),("unwish",dD,.ref bd),("card",jC,.ref aO),("ring",iL,.ref bn)]).toArray eq,#[]⟩)(gM:(aA == sysModules)=false)(jG:K.lookup aA=some ⟨.type "dict",none,.dict (e2g w [("told",cS,.ref bb),("lacks",fn,.ref aH),("number",gL,.ref aw),("left",jl,.ref aB),("thing",ee,.ref av),("mark",fe,.ref bg)]).toArray jT,#[]⟩)(es:(ax == sysModules)=false)(cQ:K.lookup ax=some ⟨.type "dict",none,.dict (e2g w [("number",hF,.ref aC),("left",eE,.ref aF),("thing",gu,.ref ay),("free",eJ,.ref aM)]).toArray ir,#[]⟩):
  ∃fd:FuncData,(∀(s:Shared)(v:Value),BindsTo s fd ⟨[v],[]⟩ [("script",v)])/\∀base:Heap,K.In base->base.Ns mainGlobals mg->FnOk l.prog w K mg base (CXK l.prog w) 10 fa fd ["script"] (c9p K):=by
 let cl:Cl:=⟨ae,ad,aa,ab,ac,aG,aq,aA,ax⟩
 have e:=hfa.symm.trans (mg_of X G cY);cases e;have T:Txt K mg cl:=⟨⟨mg_of X G ge⟩,
  ⟨mg_of X G jm⟩,
  ⟨mg_of X G hG⟩,
  ⟨mg_of X G jW⟩,
  ⟨mg_of X G eV⟩,
  ⟨_,mg_of X G gS⟩,
  ⟨_,mg_of X G hM⟩,
  ⟨_,mg_of X G fZ⟩,
  ⟨_,mg_of X G dt⟩,
  ⟨_,mg_of X G hp⟩,
  ⟨_,mg_of X G iS⟩,
  ⟨_,mg_of X G jb⟩,
  ⟨_,mg_of X G gR⟩,
  ⟨_,mg_of X G cM⟩,
  ⟨_,mg_of X G ia⟩,
  ⟨_,mg_of X G cO⟩,
  mg_of X G di,
  ⟨_,_,_,dw,(show 2<=sizeLine by decide),.cons ⟨_,rfl⟩ (.cons ⟨_,rfl⟩ (.nil))⟩,
  ⟨gU,gp,eX,fx⟩,
  dG,
  cI,
  fo,
  dP,
  ⟨hL,fP,hC,fF⟩,
  hH,
  cW,
  dH,
  hI,
  fA,
  ea,
  gh,
  dk,
  ⟨gE,eC,ec,ip⟩,
  cE,
  gX,
  cF,
  it,
  hS,
  jk,
  hP,
  fz,
  eR,
  gm,
  eL,
  ⟨gq,ep,fH,gi⟩,
  jz,
  dL,
  el,
  eN,
  jf,
  fK,
  gf,
  eM,
  iM,
  gt,
  hA,
  fl,
  ga,
  ⟨hm,en,fy,hZ⟩,
  eg,
  ej,
  dE,
  fv,
  ez,
  mg_of X G jn,
  mg_of X G dI,
  mg_of X G ig,
  mg_none_of X G dS,
  mg_none_of X G gs,
  mg_none_of X G eb,
  mg_none_of X G iz,
  mg_none_of X G dM,
  mg_none_of X G dF,
  mg_none_of X G dR,
  mg_none_of X G eI,
  mg_none_of X G eH,
  mg_none_of X G jQ,
  mg_none_of X G dn⟩
 have kk:DefM K cl.Board "touches" "Board.touches" a9d ["self"]:=jg.m λ_ _ _ _ _ _=>ba1 λ_=>rfl;have kg:DefM K cl.Hand "stage" "Hand.stage" b6i ["self"]:=AtF.m cP dy dV λ_ _ _ _ _ _=>ba1 λ_=>rfl;have kb:DefM K cl.Hand "turn" "Hand.turn" b8h ["self"]:=AtF.m ji cz dT λ_ _ _ _ _ _=>ba1 λ_=>rfl;have km:DefM K cl.Hand "place" "Hand.place" a5m ["self"]:=AtF.m dZ aI aX λ_ _ _ _ _ _=>ba1 λ_=>rfl;have jY:DefM K cl.Hand "step" "Hand.step" a4v ["self"]:=AtF.m gY aP aJ λ_ _ _ _ _ _=>ba1 λ_=>rfl;have ka:DefM K cl.Lane "stage" "Lane.stage" b6h ["self","hand"]:=iR.m λ_ _ _ _ _ _=>ba2 λ_ _=>rfl;have kn:DefM K cl.Lane "turn" "Lane.turn" b8g ["self","hand"]:=cH.m λ_ _ _ _ _ _=>ba2 λ_ _=>rfl;have gQ:=d0g (st:=c2d) fk er fV;refine⟨PySem.W.fnOf "law" "law" (a1o c2d) (c9b c2d) (g9 c2d) .none cj cc bV cg aU bJ,λs v=>.of_eq rfl,λbase _ _=>?_⟩;have am:=(c2o (eG.t X G ↑906) T:FnT l.prog w K mg base _ _ _ _);have aZ:=c2n (hY.t X G λ_ _ _ _ _ _=>ba2 λ_ _=>rfl) T am;have aD:=c7z (ds.t X G λ_ _ _ _ _ _=>ba2 λ_ _=>rfl) T aZ;have bf:=d3v (fJ.t X G λ_ _ _ _ _ _=>ba2 λ_ _=>rfl) T aZ;have ah:=d3u (eP.t X G λ_ _ _ _ _ _=>ba3 λ_ _ _=>rfl) T aZ;have fc:=(c2p (cV.t X G ↑906) T:FnT l.prog w K mg base _ _ _ _);have bo:=(d1i (jq.t X G λ_ _ _ _ _ _=>ba2 λ_ _=>rfl) T:FnT l.prog w K mg base _ _ _ _);have cn:=c5v (eD.t X G λ_ _ _ _ _ _=>ba2 λ_ _=>rfl) T bf bo;have dX:=c5w (cC.t X G λ_ _ _ _ _ _=>ba2 λ_ _=>rfl) T bf bo;have im:=b8n (fN.t X G λ_ _ _ _ _ _=>ba2 λ_ _=>rfl) T bf bo;have bl:=(c8e (fE.t X G λ_ _ _ _ _ _=>ba2 λ_ _=>rfl) T:FnT l.prog w K mg base _ _ _ _);have cq:=(c8c (fi.t X G λ_ _ _ _ _ _=>ba2 λ_ _=>rfl) T:FnT l.prog w K mg base _ _ _ _);have go:=c2r (jt.t X G ↑906) T am;have em:=(b9w (hx.t X G ↑906) T:FnT l.prog w K mg base _ _ _ _);have bz:=d7a (dr.t X G ↑906) T go em ah;have bY:=(c8b (df.t X G ↑906) T:FnT l.prog w K mg base _ _ _ _);have eA:=(c5j (gk.t X G ↑906) T:FnT l.prog w K mg base _ _ _ _);have ek:=c5f (hg.t X G ↑906) T bY eA;have bE:=b9v (iq.t X G ↑906) T am fc;have fq:=c2m (gV.t X G ↑906) T bE bY bz;have cU:=c2j (ho.t X G ↑906) T bE ek bz;have be:=(c2q (hD.t X G ↑906) T:FnT l.prog w K mg base _ _ _ _);have ar:=(c5k (gW.t X G ↑906) T:FnT l.prog w K mg base _ _ _ _);have aR:=(b9s (iE.t X G ↑906) T:FnT l.prog w K mg base _ _ _ _);have aN:=(c5l (jI.t X G ↑906) T:FnT l.prog w K mg base _ _ _ _);have co:=(c2i (hc.t X G ↑906) T:FnT l.prog w K mg base _ _ _ _);have aS:=c5x (hR.t X G λ_ _ _ _ _ _=>ba2 λ_ _=>rfl) T am be;have aV:=c5y (eo.t X G λ_ _ _ _ _ _=>ba2 λ_ _=>rfl) T aS;have gN:=(c5h (fp.t X G ↑906) T:FnT l.prog w K mg base _ _ _ _);have jj:=c3c (iO.m (ps:=["self","size"]) λ_ _ _ _ _ _=>ba2 λ_ _=>rfl) T am gN;have jP:=jj.make jo du T.c_Board.m;have cf:=(b2n (dh.m (ps:=["self","cell"]) λ_ _ _ _ _ _=>ba2 λ_ _=>rfl) T:MethT l.prog w K mg base _ _ _ _ _);have bs:=(b2l (dj.m (ps:=["self","deed","cell","value"]) λ_ _ _ _ _ _=>ba4 λ_ _ _ _=>rfl) T:MethT l.prog w K mg base _ _ _ _ _);have af:=c3b (jJ.m (ps:=["self","cell"]) λ_ _ _ _ _ _=>ba2 λ_ _=>rfl) T cf bs;have ag:=c0a (hn.m (ps:=["self","cell","number"]) λ_ _ _ _ _ _=>ba3 λ_ _ _=>rfl) T cf bs;have iv:=(b3z (et.m (ps:=["self"]) ↑906) T:MethT l.prog w K mg base _ _ _ _ _);have bG:=(b2m (eZ.m (ps:=["self"]) ↑906) T:MethT l.prog w K mg base _ _ _ _ _);have eF:=c5q (hu.t X G λ_ _ _ _ _ _=>ba2 λ_ _=>rfl) T bl;have bh:=c2h (gl.t X G λ_ _ _ _ _ _=>ba2 λ_ _=>rfl) T ag aS;have bP:=c2l (ju.t X G ↑906) T ag aV;have bW:=c2k (hq.t X G ↑906) T ag aV;have fD:=c8l (AtF.t X G ci fU ↑906) T bP;have fM:=c8o (AtF.t X G bT iD ↑906) T bh;have gO:=d1m (AtF.t X G bA ew ↑906) T bW;have hf:=d1p (AtF.t X G cm ht ↑906) T bW;have jF:=c5z (AtF.t X G bI jw ↑906) T bh;have iT:=c8k (AtF.t X G bM ib ↑906) T af aV;have ap:=b3v (AtF.m id aI aX (λ_ _ _ _ _ _=>ba1 λ_=>rfl)) T aD;have az:=b3v (AtF.m jR aI aX (λ_ _ _ _ _ _=>ba1 λ_=>rfl)) T aD;have cJ:=a9k (he.m (ps:=["self"]) ↑906) T im;have gZ:=a9i (eu.m (ps:=["self"]) ↑906) T cn;have cd:=c5i (eT.t X G ↑906) T af ar ap az cJ gZ;have eK:=d1o (AtF.t X G bN gA ↑906) T cd;have dJ:=c8p (AtF.t X G bR iC ↑906) T cd;have dp:=d1j (AtF.t X G bZ gC ↑906) T bh;have ce:=(a9j (hB.m (ps:=["self"]) ↑906) T:MethT l.prog w K mg base _ _ _ _ _);have ai:=b2k (hU.m (ps:=["self"]) ↑906) T ce;have aE:=b3w (jX.m (ps:=["self"]) ↑906) T ce;have bS:=b3x (gJ.m (ps:=["self"]) ↑906) T ai aE;have ch:=b5m (gI.m (ps:=["self"]) ↑906) T ai aE;have hy:=b6t (ey.m (ps:=["self"]) ↑906) T ch;have cs:=b0j (db.m (ps:=["self"]) ↑906) T aD ah;have gy:=d1k (AtF.t X G ck hW ↑906) T af aR cs;have jr:=c8n (AtF.t X G cr gH ↑906) T af aN cs;have iw:=(b3s (AtF.v hl ↑906) T ag aR ap ai:FnV l.prog w K mg base aw 5 ["giver"] (a0u cl));have iH:=(b6r (AtF.v eW ↑906) T ag aN ap bS:FnV l.prog w K mg base aB 5 ["giver"] (a1r cl));have jU:=(b5j (AtF.v fX ↑906) T ag co ap ai aE:FnV l.prog w K mg base av 5 ["giver"] (a1e cl));have dQ:=d1n (AtF.t X G br cT ↑906) T ag ar ap cn;have bL:=(b0i (dl.m (ps:=["self"]) ↑906) T:MethT l.prog w K mg base _ _ _ _ _);have jd:=b3y (dC.m (ps:=["self","marks"]) λ_ _ _ _ _ _=>ba2 λ_ _=>rfl) T fq;have bB:=b9z (hk.m (ps:=["self"]) ↑906) T ai bS ah;have ha:=(b3r (AtF.v hz ↑906) T af aR az:FnV l.prog w K mg base aC 5 ["taker"] (a0t cl));have il:=(b6q (AtF.v jB ↑906) T af aN az:FnV l.prog w K mg base aF 5 ["taker"] (a1q cl));have eB:=d1q (AtF.t X G bu cX ↑906) T ag ar aD dX;have gP:=(b6s (dY.m (ps:=["self"]) ↑906) T:MethT l.prog w K mg base _ _ _ _ _);have bX:=b0h (gv.m (ps:=["self"]) ↑906) T ah;have ct:=b3t (fO.m (ps:=["self","marks"]) λ_ _ _ _ _ _=>ba2 λ_ _=>rfl) T cU;have bp:=b9x (gg.m (ps:=["self"]) ↑906) T ah;have ei:=(b2g (ft.m (ps:=["self"]) ↑906) T:MethT l.prog w K mg base _ _ _ _ _);have jL:=(b5i (AtF.v fQ ↑906) T af co az ah ei:FnV l.prog w K mg base ay 5 ["taker"] (a1d cl));have hd:=c8m (AtF.t X G bC eS ↑906) T af ar jd ct;have cN:=d1r (AtF.t X G bO fC ↑906) T af aS (MethT.lift bL ↑4) bX bB bp;have cD:=d1l (AtF.t X G bK hw ↑906) T bP (MethT.lift bL ↑4) bX bB bp;have bt:=(DT.mk' iF hN (.cons ((FnT.toV fD (mg_of X G ci)).mono ↑4) (.cons ((FnT.toV fM (mg_of X G bT)).mono ↑4) (.cons ((FnT.toV gO (mg_of X G bA)).mono ↑4) (.cons ((FnT.toV hd (mg_of X G bC)).mono ↑4) (.cons ((FnT.toV eK (mg_of X G bN)).mono ↑4) (.cons ((FnT.toV dp (mg_of X G bZ)).mono ↑4) (.cons ((FnT.toV dJ (mg_of X G bR)).mono ↑4) (.cons ((FnT.toV iT (mg_of X G bM)).mono ↑4) (.cons ((FnT.toV hf (mg_of X G cm)).mono ↑4) (.cons ((FnT.toV jF (mg_of X G bI)).mono ↑4) (.cons ((FnT.toV cN (mg_of X G bO)).mono ↑4) (.cons ((FnT.toV cD (mg_of X G bK)).mono ↑4) .nil)))))))))))) (show(["rouse","clear","mute","marks","look","wish","again","sleep","hush","unwish","card","ring"]:List Str).Nodup by decide):DT l.prog w K mg base cl.d_DEEDS_hand 7 (c6l cl))
 have gc:=(DT.mk' gM jG (.cons ((FnT.toV gy (mg_of X G ck)).mono ↑4) (.cons ((FnT.toV jr (mg_of X G cr)).mono ↑4) (.cons (iw.mono ↑4) (.cons (iH.mono ↑4) (.cons (jU.mono ↑4) (.cons ((FnT.toV dQ (mg_of X G br)).mono ↑4) .nil)))))) (show(["told","lacks","number","left","thing","mark"]:List Str).Nodup by decide):DT l.prog w K mg base cl.d_DEEDS_giver 5 (e5z cl))
 have jA:=(DT.mk' es cQ (.cons (ha.mono ↑4) (.cons (il.mono ↑4) (.cons (jL.mono ↑4) (.cons ((FnT.toV eB (mg_of X G bu)).mono ↑4) .nil)))) (show(["number","left","thing","free"]:List Str).Nodup by decide):DT l.prog w K mg base cl.d_DEEDS_taker 5 (e5y cl))
 have dU:=b5l (iZ.m (ps:=["self"]) ↑906) T gc;have iy:=b5k (fb.m (ps:=["self"]) ↑906) T jA;have hr:=(c2y (AtF.m fY aP aJ (λ_ _ _ _ _ _=>ba1 λ_=>rfl)) T hy bt dU bG:MethT l.prog w K mg base cl.Giver "step" 8 ["self"] (c1f cl true));have iQ:=(c2s (AtF.m je aP aJ (λ_ _ _ _ _ _=>ba1 λ_=>rfl)) T (MethT.lift gP ↑4) bt iy bG:MethT l.prog w K mg base cl.Taker "step" 8 ["self"] (c1f cl false));have bx:=(c8a (gd.t X G λ_ _ _ _ _ _=>ba2 λ_ _=>rfl) T:FnT l.prog w K mg base _ _ _ _);have bF:=c5g (jH.t X G λ_ _ _ _ _ _=>ba2 λ_ _=>rfl) T bx;have bH:=(b9r (fu.t X G ↑906) T:FnT l.prog w K mg base _ _ _ _);have ic:=c6f (jy.m (ps:=["self","order"]) λ_ _ _ _ _ _=>ba2 λ_ _=>rfl) T bx;have bw:=b8q (jp.m (ps:=["self"]) ↑906) T bH;have cp:=c2v (hO.m (ps:=["self"]) ↑906) T bH;have gF:=(c6e (AtF.m bD hj bQ λ_ _ _ _ _ _=>ba5 λ_ _ _ _ _=>rfl) T:MethT l.prog w K mg base _ _ _ _ _);have bq:=(MethT.toBase gF bD ⟨dz,⟨.type "type",ex,fm⟩,bQ.k⟩ T.c_Hand.m:d5x l.prog w K mg base "Hand" "__init__" 1 ["self","board","name","other","stage_behind_marks"] (a5i cl));have cK:=c3a (cw.m (ps:=["self","board","orders"]) λ_ _ _ _ _ _=>ba3 λ_ _ _=>rfl) T bF bq;have dW:=cK.make fG hX T.c_Giver.m;have gK:=c2u (cA.m (ps:=["self","board","book"]) λ_ _ _ _ _ _=>ba3 λ_ _ _=>rfl) T bF bq;have dN:=gK.make hv cG T.c_Taker.m;have ca:=b2j (jK.m (ps:=["self","orders"]) λ_ _ _ _ _ _=>ba2 λ_ _=>rfl) T dW;have cb:=b2h (hs.m (ps:=["self","book"]) λ_ _ _ _ _ _=>ba2 λ_ _=>rfl) T dN;have fh:=b3u (iJ.m (ps:=["self","hand"]) λ_ _ _ _ _ _=>ba2 λ_ _=>rfl) T be;have gb:=b8p (ev.m (ps:=["self","order"]) λ_ _ _ _ _ _=>ba2 λ_ _=>rfl) T ic;have fT:=c6a (gj.m (ps:=["self","hand"]) λ_ _ _ _ _ _=>ba2 λ_ _=>rfl) T fh hr iQ;have js:=c6d (fg.m (ps:=["self"]) ↑906) T cp;have hi:=b9y (gz.m (ps:=["self"]) ↑906) T bw;have fL:=c6c (eO.m (ps:=["self","hand"]) λ_ _ _ _ _ _=>ba2 λ_ _=>rfl) T be ca cb bw cp;have dA:=c6b (ed.m (ps:=["self","size"]) λ_ _ _ _ _ _=>ba2 λ_ _=>rfl) T jP ca cb;have gB:=dA.make eU jO T.c_Lane.m;have bU:=c2x (hT.m (ps:=["self"]) ↑906) T iv;have aj:=(c5m (iA.t X G λ_ _ _ _ _ _=>ba4 λ_ _ _ _=>rfl) T:FnT l.prog w K mg base _ _ _ _);have aW:=(c8h (cB.t X G λ_ _ _ _ _ _=>ba3 λ_ _ _=>rfl) T:FnT l.prog w K mg base _ _ _ _);have hV:=c8d (gn.t X G λ_ _ _ _ _ _=>ba2 λ_ _=>rfl) T aj aW;have iN:=(c5p (fw.t X G ↑906) T:FnT l.prog w K mg base _ _ _ _);have hJ:=b8o (jS.t X G ↑906) T aj;have fr:=c5u (jM.t X G ↑906) T aj;have dB:=c8j (ix.t X G ↑906) T aj aW;have gr:=c5n (iW.t X G ↑906) T aj aW;have gw:=(b9t (da.t X G λ_ _ _ _ _ _=>ba2 λ_ _=>rfl) T:FnT l.prog w K mg base _ _ _ _);have ef:=c8f (fW.t X G λ_ _ _ _ _ _=>ba2 λ_ _=>rfl) T aj gw;have bv:=(c5t (dK.t X G λ_ _ _ _ _ _=>ba0 rfl) T:FnT l.prog w K mg base _ _ _ _);have fI:=c8i (fS.t X G ↑906) T bv;have dx:=b9u (iK.t X G λ_ _ _ _ _ _=>ba2 λ_ _=>rfl) T iN ef hV hJ dB fr gr;have jV:=(c2w (iu.m (ps:=["self"]) ↑906) T:MethT l.prog w K mg base _ _ _ _ _);have ij:=c5r (jv.t X G λ_ _ _ _ _ _=>ba3 λ_ _ _=>rfl) T bl cq;have dO:=(d3w (gG.t X G ↑906) T:FnT l.prog w K mg base _ _ _ _);have ie:=a7r (jE.m (ps:=["self"]) ↑906) T ch ai aE;have hb:=c2z (ja.m (ps:=["self"]) ↑906) T ie;have dd:=(c2t (io.m (ps:=["self"]) ↑906) T:MethT l.prog w K mg base _ _ _ _ _);have iI:=c7y (gx.t X G ↑906) T bU hb dd hi js dO;have iV:=(c8g (cy.t X G λ_ _ _ _ _ _=>ba2 λ_ _=>rfl) T:FnT l.prog w K mg base _ _ _ _);have iG:=c5o (dv.t X G ↑906) T iV;have jc:=(c5s (fB.t X G ↑906) T gD jh cu ih fs ii iU cR:FnT l.prog w K mg base _ _ _ _);have ff:=e3x gQ T bl cq eF ij (MakeT.frame gB) fI (FnT.frame dx) bv iI iG jc (MethT.frame fT) (MethT.frame fL) (MethT.frame gb) jV bU;exact ff
theorem walk{l:PySem.W.OpenLaw}{q:Program}{loose:List Str}{XP:(Str->Option Value)->Heap->Prop}{YP:World->Heap->Prop}{d:DefRec}{K:Params->Frag}(hn:l.most=some 63)(hdf:d.params.defaults=[])(hY:∀(w:World) (h:Heap),YP w h->(K w.params).In h)(F:∀(w:World) (mg:↑67) (fa:Addr) (h:Heap),(K w.params).In h->h.Ns mainGlobals mg->mg d.name=some (.ref fa) ->
   ∃fd:FuncData,(∀(s:Shared) (u:Value),BindsTo s fd ⟨[u],[]⟩ [("script",u)])/\∀base:Heap,(K w.params).In base->base.Ns mainGlobals mg->FnOk l.prog w (K w.params) mg base (CXK l.prog w) 10 fa fd ["script"] (c9p (K w.params))):
  PySem.W.WalkO q loose XP YP l.row.toRowW d [] (λf vs=>PySem.call f vs) :=
 L2.walk_of (n:=63) (k:=10) (x:="script") (CX:=λw=>CXK l.prog w) (sp:=λw=>c9p (K w.params)) hn ↑4 hdf ⟨rfl,by decide,by decide⟩ hY F (λ_ _ a ns hl _ hS=>⟨a,ns,rfl,hS,hl,λ_=>rfl⟩)
  λ_ _ _ _ _ z=>by obtain⟨_,_,_,_,_,q⟩:=z;exact q
end S
open PySem PySem.W PyProof.Rows
set_option maxRecDepth 100000
set_option maxHeartbeats 0
theorem PySem.Challenge.cw_slipring_k33_stands_told_holds : PySem.Challenge.rw_slipring_k33_stands_told.Holds := by
 refine hd ?_
 k_fill
 refine S.walk (l := PySem.Challenge.rw_slipring_k33_stands_told) rfl rfl (fun w h Y => PySem.W.kIn_of Y) ?F
 case F =>
  intro w mg fa h KX G hmg
  apply S.all_mk (X := KX) (G := G) (hfa := hmg)
  all_goals try (first | k_is | kit_is | kts_exm | kernel_rfl)
  all_goals first | (refine' S.AtG.of ?d ?a ?b ?c; (case d => k_is); (case a => k_is); (case b => k_is); (case c => k_is)) | (refine' S.AtM.of ?d ?i ?a ?b ?c; (case d => k_is); (case i => k_is); (case a => k_is); (case b => k_is); (case c => k_is)) | (refine' S.AtF.of ?a ?b ?c; (case a => k_is); (case b => k_is); (case c => k_is)) | skip
