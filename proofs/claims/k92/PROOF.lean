import PyProof.Rows.All
import Open.Line
import Open.Pieces
import KE.KDictList
import KE.KDictOf
import KE.KFromBytes
import KE.KIsAll
import KE.KItem
import KE.KLam
import KE.KNestM
import PySem.Challenge.RW_eachonce_k92_shops_at_their_bounds
noncomputable section
namespace PySem.W.Fast
theorem tw10027999919239898756:True:=⟨⟩
theorem tw1007866940053603792:True:=⟨⟩
theorem tw10101092918462781074:True:=⟨⟩
theorem tw10149562070362567302:True:=⟨⟩
theorem tw10239567568841264832:True:=⟨⟩
theorem tw10266485695295674298:True:=⟨⟩
theorem tw10295083158086236568:True:=⟨⟩
theorem tw10338809493250578947:True:=⟨⟩
theorem tw10409370046636993940:True:=⟨⟩
theorem tw10422356145652249795:True:=⟨⟩
theorem tw10423249060967417797:True:=⟨⟩
theorem tw10434595700406508224:True:=⟨⟩
theorem tw10449253458617122541:True:=⟨⟩
theorem tw1046331471177170031:True:=⟨⟩
theorem tw10629738972651491322:True:=⟨⟩
theorem tw10682737905223431717:True:=⟨⟩
theorem tw10692585777976852185:True:=⟨⟩
theorem tw10841672233716058956:True:=⟨⟩
theorem tw10842889776501904371:True:=⟨⟩
theorem tw10850705276728250748:True:=⟨⟩
theorem tw10969079415538767355:True:=⟨⟩
theorem tw11111289536883736253:True:=⟨⟩
theorem tw11140874398942889532:True:=⟨⟩
theorem tw11248467157179958312:True:=⟨⟩
theorem tw11264011843773518982:True:=⟨⟩
theorem tw11266347623718757665:True:=⟨⟩
theorem tw11274112258488627267:True:=⟨⟩
theorem tw11298699623685117008:True:=⟨⟩
theorem tw11348128835721949867:True:=⟨⟩
theorem tw11352727903057623870:True:=⟨⟩
theorem tw1135815121703577705:True:=⟨⟩
theorem tw11438725011268058516:True:=⟨⟩
theorem tw11468786284017666005:True:=⟨⟩
theorem tw1157913857656512324:True:=⟨⟩
theorem tw11588250717487285867:True:=⟨⟩
theorem tw11593761743526514925:True:=⟨⟩
theorem tw11608704872859210773:True:=⟨⟩
theorem tw11637407878201215902:True:=⟨⟩
theorem tw11663959654243412032:True:=⟨⟩
theorem tw11672121284408501424:True:=⟨⟩
theorem tw11771734244659305072:True:=⟨⟩
theorem tw11774183283737502466:True:=⟨⟩
theorem tw11791250257769018355:True:=⟨⟩
theorem tw11802241617568076659:True:=⟨⟩
theorem tw11806401906041020581:True:=⟨⟩
theorem tw11853480372430246331:True:=⟨⟩
theorem tw1188160816143775619:True:=⟨⟩
theorem tw11896002118451075039:True:=⟨⟩
theorem tw11909219020280061545:True:=⟨⟩
theorem tw11927395019969422324:True:=⟨⟩
theorem tw1195164837617001392:True:=⟨⟩
theorem tw12027565174855511264:True:=⟨⟩
theorem tw12052253753573384384:True:=⟨⟩
theorem tw12054571626046416414:True:=⟨⟩
theorem tw12090656910841197101:True:=⟨⟩
theorem tw12093323764932110493:True:=⟨⟩
theorem tw12122316197236926216:True:=⟨⟩
theorem tw12150331002296918435:True:=⟨⟩
theorem tw12151419555121482023:True:=⟨⟩
theorem tw12169582611178607571:True:=⟨⟩
theorem tw122246906246669719:True:=⟨⟩
theorem tw12228589518796520470:True:=⟨⟩
theorem tw12241648250877366407:True:=⟨⟩
theorem tw12267911208965252640:True:=⟨⟩
theorem tw12286468425177425349:True:=⟨⟩
theorem tw1229020240268266432:True:=⟨⟩
theorem tw12359474460382929660:True:=⟨⟩
theorem tw12453949884527289215:True:=⟨⟩
theorem tw12485466623639716725:True:=⟨⟩
theorem tw12597131404932538326:True:=⟨⟩
theorem tw12776586846892527764:True:=⟨⟩
theorem tw12779984308188452393:True:=⟨⟩
theorem tw12824095751643478462:True:=⟨⟩
theorem tw12917477055619162821:True:=⟨⟩
theorem tw12920009142667998884:True:=⟨⟩
theorem tw12956793566929434829:True:=⟨⟩
theorem tw12973497368914391811:True:=⟨⟩
theorem tw13007709912611302109:True:=⟨⟩
theorem tw13107913394739106614:True:=⟨⟩
theorem tw13126663958205828693:True:=⟨⟩
theorem tw13129701326427215238:True:=⟨⟩
theorem tw13137350707689768490:True:=⟨⟩
theorem tw13147755510006556415:True:=⟨⟩
theorem tw13155559173250778469:True:=⟨⟩
theorem tw1331997740712378900:True:=⟨⟩
theorem tw13355208500706219282:True:=⟨⟩
theorem tw13400698238523116168:True:=⟨⟩
theorem tw13425558088269796487:True:=⟨⟩
theorem tw13453611971876189586:True:=⟨⟩
theorem tw134868804862724437:True:=⟨⟩
theorem tw13506375280679640315:True:=⟨⟩
theorem tw13508368923237278491:True:=⟨⟩
theorem tw13615368923458254142:True:=⟨⟩
theorem tw13621680958834975941:True:=⟨⟩
theorem tw13630871155080860306:True:=⟨⟩
theorem tw13711158872464068733:True:=⟨⟩
theorem tw13774171844400392969:True:=⟨⟩
theorem tw13803948638667084612:True:=⟨⟩
theorem tw13860223260431548190:True:=⟨⟩
theorem tw13867311644239041680:True:=⟨⟩
theorem tw13896821842088972131:True:=⟨⟩
theorem tw13920227603408590825:True:=⟨⟩
theorem tw13923158625880222238:True:=⟨⟩
theorem tw13934112940986360612:True:=⟨⟩
theorem tw13950626736102639294:True:=⟨⟩
theorem tw13970584591538487040:True:=⟨⟩
theorem tw13990074350926276253:True:=⟨⟩
theorem tw14027865474327878104:True:=⟨⟩
theorem tw14058441331930850903:True:=⟨⟩
theorem tw14061444205939459657:True:=⟨⟩
theorem tw14099496473118504320:True:=⟨⟩
theorem tw14151785269980802210:True:=⟨⟩
theorem tw14284088632456496527:True:=⟨⟩
theorem tw1429330660594608059:True:=⟨⟩
theorem tw14302647103091541830:True:=⟨⟩
theorem tw14316801841866757559:True:=⟨⟩
theorem tw1431718204281701251:True:=⟨⟩
theorem tw14331470168134270297:True:=⟨⟩
theorem tw14357010446617928276:True:=⟨⟩
theorem tw14470126392068400846:True:=⟨⟩
theorem tw14498317421621616512:True:=⟨⟩
theorem tw14643535574879742138:True:=⟨⟩
theorem tw14663424487676882401:True:=⟨⟩
theorem tw14768669464525522672:True:=⟨⟩
theorem tw14781819193682440257:True:=⟨⟩
theorem tw14838580410382701087:True:=⟨⟩
theorem tw14842597372842020206:True:=⟨⟩
theorem tw14853911413929914645:True:=⟨⟩
theorem tw14896182064030591797:True:=⟨⟩
theorem tw14929961526383510150:True:=⟨⟩
theorem tw14956736007386113347:True:=⟨⟩
theorem tw14964070257724134036:True:=⟨⟩
theorem tw14966976852418403201:True:=⟨⟩
theorem tw14968753060756590126:True:=⟨⟩
theorem tw14988066576168982391:True:=⟨⟩
theorem tw15011271322962208976:True:=⟨⟩
theorem tw15033032636968804836:True:=⟨⟩
theorem tw15050652806578748358:True:=⟨⟩
theorem tw15087352440206910287:True:=⟨⟩
theorem tw15093666499211662247:True:=⟨⟩
theorem tw15108992085432245207:True:=⟨⟩
theorem tw15116416221341432427:True:=⟨⟩
theorem tw15133102547024894246:True:=⟨⟩
theorem tw1522798017179901612:True:=⟨⟩
theorem tw15324870191087114413:True:=⟨⟩
theorem tw15461842672657119609:True:=⟨⟩
theorem tw15522859916718784316:True:=⟨⟩
theorem tw15533450594532128726:True:=⟨⟩
theorem tw15543044886109119580:True:=⟨⟩
theorem tw15558142368746175128:True:=⟨⟩
theorem tw15562898584837329973:True:=⟨⟩
theorem tw15577697347953947435:True:=⟨⟩
theorem tw15583907746688238176:True:=⟨⟩
theorem tw15594509749783051998:True:=⟨⟩
theorem tw15608871769826537257:True:=⟨⟩
theorem tw15617964027410465377:True:=⟨⟩
theorem tw15716250231324241282:True:=⟨⟩
theorem tw15718910271732484782:True:=⟨⟩
theorem tw15721451866732538078:True:=⟨⟩
theorem tw15724749354638031032:True:=⟨⟩
theorem tw15825023661948973629:True:=⟨⟩
theorem tw15867818126775716802:True:=⟨⟩
theorem tw15875004819124786166:True:=⟨⟩
theorem tw15927356908533173680:True:=⟨⟩
theorem tw15958034870190223883:True:=⟨⟩
theorem tw15966237106236531792:True:=⟨⟩
theorem tw15987736064083670821:True:=⟨⟩
theorem tw16045954079232276646:True:=⟨⟩
theorem tw16072615019062656403:True:=⟨⟩
theorem tw1613299049534272265:True:=⟨⟩
theorem tw16143235245676365157:True:=⟨⟩
theorem tw16200665826197651550:True:=⟨⟩
theorem tw16327308698096780285:True:=⟨⟩
theorem tw16378770180827345612:True:=⟨⟩
theorem tw16381877685210041227:True:=⟨⟩
theorem tw16432210874968895433:True:=⟨⟩
theorem tw16450705674407366829:True:=⟨⟩
theorem tw16460723764238112046:True:=⟨⟩
theorem tw16575869075626540644:True:=⟨⟩
theorem tw16611099883207968152:True:=⟨⟩
theorem tw16616162548524352197:True:=⟨⟩
theorem tw16641441060618568176:True:=⟨⟩
theorem tw16714123555242758619:True:=⟨⟩
theorem tw16721029758265473893:True:=⟨⟩
theorem tw16754198139467059388:True:=⟨⟩
theorem tw16760149289775652688:True:=⟨⟩
theorem tw16812082906458945789:True:=⟨⟩
theorem tw16939369323979753181:True:=⟨⟩
theorem tw16990775756948674552:True:=⟨⟩
theorem tw17000111385535060486:True:=⟨⟩
theorem tw17011336749031493867:True:=⟨⟩
theorem tw17038185272842545930:True:=⟨⟩
theorem tw17179578863212520718:True:=⟨⟩
theorem tw1718965652790654207:True:=⟨⟩
theorem tw17207690753464373707:True:=⟨⟩
theorem tw1733930263003321052:True:=⟨⟩
theorem tw17379517410137069100:True:=⟨⟩
theorem tw17398904974130460596:True:=⟨⟩
theorem tw17417878720820127356:True:=⟨⟩
theorem tw17460942098393150724:True:=⟨⟩
theorem tw17461890319236996681:True:=⟨⟩
theorem tw17484971854127759324:True:=⟨⟩
theorem tw17521064002466440053:True:=⟨⟩
theorem tw17542941670480308896:True:=⟨⟩
theorem tw17578540304269881830:True:=⟨⟩
theorem tw17579395003012899768:True:=⟨⟩
theorem tw17580075913072837301:True:=⟨⟩
theorem tw17635125885118359701:True:=⟨⟩
theorem tw17685886086659622674:True:=⟨⟩
theorem tw1768740849213853168:True:=⟨⟩
theorem tw17726908471380762018:True:=⟨⟩
theorem tw17760131685915494620:True:=⟨⟩
theorem tw17826646702491575395:True:=⟨⟩
theorem tw17851727440433470447:True:=⟨⟩
theorem tw1789502117202570819:True:=⟨⟩
theorem tw17897202210037789050:True:=⟨⟩
theorem tw17919862732991893559:True:=⟨⟩
theorem tw17927528050048245374:True:=⟨⟩
theorem tw18033370041423008131:True:=⟨⟩
theorem tw18045742105769255377:True:=⟨⟩
theorem tw18067161049441780038:True:=⟨⟩
theorem tw18142625242132224291:True:=⟨⟩
theorem tw18210962923216378637:True:=⟨⟩
theorem tw18246052877949603091:True:=⟨⟩
theorem tw18275647056179893869:True:=⟨⟩
theorem tw18292440568725983425:True:=⟨⟩
theorem tw18309043952185907250:True:=⟨⟩
theorem tw18367206926772109973:True:=⟨⟩
theorem tw1858725374813066614:True:=⟨⟩
theorem tw1873758803929084236:True:=⟨⟩
theorem tw1888795536608342512:True:=⟨⟩
theorem tw1910629643733356364:True:=⟨⟩
theorem tw2027051761666931474:True:=⟨⟩
theorem tw2039366824618242914:True:=⟨⟩
theorem tw2045841741542891268:True:=⟨⟩
theorem tw2078115620802184945:True:=⟨⟩
theorem tw2079750944954870093:True:=⟨⟩
theorem tw2152575005388730974:True:=⟨⟩
theorem tw2254991315608560085:True:=⟨⟩
theorem tw227348889280928283:True:=⟨⟩
theorem tw2284280684233185496:True:=⟨⟩
theorem tw2321994804537496169:True:=⟨⟩
theorem tw2366091490650141252:True:=⟨⟩
theorem tw2377205803447955902:True:=⟨⟩
theorem tw243466729310399538:True:=⟨⟩
theorem tw2443608170251178440:True:=⟨⟩
theorem tw2448462843731299956:True:=⟨⟩
theorem tw2467464512588998671:True:=⟨⟩
theorem tw2486712617512161471:True:=⟨⟩
theorem tw24936543820887149:True:=⟨⟩
theorem tw2557576984255382732:True:=⟨⟩
theorem tw265878428881709772:True:=⟨⟩
theorem tw2681339404103779021:True:=⟨⟩
theorem tw2681985110194670722:True:=⟨⟩
theorem tw2703524851857756077:True:=⟨⟩
theorem tw2704027578097013833:True:=⟨⟩
theorem tw2738352461582206390:True:=⟨⟩
theorem tw2763993170844426611:True:=⟨⟩
theorem tw2803959448352294980:True:=⟨⟩
theorem tw2806498389606754737:True:=⟨⟩
theorem tw2866241978267733634:True:=⟨⟩
theorem tw2911815883511305651:True:=⟨⟩
theorem tw2943437134348790798:True:=⟨⟩
theorem tw3023924363084574965:True:=⟨⟩
theorem tw3088021767892586307:True:=⟨⟩
theorem tw3109648081780314389:True:=⟨⟩
theorem tw3176665009783647029:True:=⟨⟩
theorem tw3218888277820014768:True:=⟨⟩
theorem tw3226018148810243098:True:=⟨⟩
theorem tw3286734520844384117:True:=⟨⟩
theorem tw3290348966579263130:True:=⟨⟩
theorem tw3353094727222728403:True:=⟨⟩
theorem tw3434102419604739463:True:=⟨⟩
theorem tw3450569305524073378:True:=⟨⟩
theorem tw3663886516840243797:True:=⟨⟩
theorem tw366562115162697561:True:=⟨⟩
theorem tw3789478246926236211:True:=⟨⟩
theorem tw3897920875900228774:True:=⟨⟩
theorem tw3898844602722829707:True:=⟨⟩
theorem tw3902051764425561939:True:=⟨⟩
theorem tw4024128556961100931:True:=⟨⟩
theorem tw4060715038717169064:True:=⟨⟩
theorem tw4063978751072385615:True:=⟨⟩
theorem tw419842047731079432:True:=⟨⟩
theorem tw4266273045351138817:True:=⟨⟩
theorem tw4268589435406204399:True:=⟨⟩
theorem tw4399590071961976074:True:=⟨⟩
theorem tw4412460671535995149:True:=⟨⟩
theorem tw4433440536879333410:True:=⟨⟩
theorem tw4436166176419131993:True:=⟨⟩
theorem tw450554651710472048:True:=⟨⟩
theorem tw4544545502161232323:True:=⟨⟩
theorem tw458120389108039866:True:=⟨⟩
theorem tw4597071287173586289:True:=⟨⟩
theorem tw469056319685905970:True:=⟨⟩
theorem tw4740596731735688723:True:=⟨⟩
theorem tw4750087236028658660:True:=⟨⟩
theorem tw4788059117685049567:True:=⟨⟩
theorem tw4804193705456986081:True:=⟨⟩
theorem tw4893521365403275849:True:=⟨⟩
theorem tw4914537998195684805:True:=⟨⟩
theorem tw4953053310486156227:True:=⟨⟩
theorem tw5011891216701373013:True:=⟨⟩
theorem tw5138895758386665679:True:=⟨⟩
theorem tw5248912566756373425:True:=⟨⟩
theorem tw5281528675969038774:True:=⟨⟩
theorem tw5387089366052786168:True:=⟨⟩
theorem tw5434597792275390103:True:=⟨⟩
theorem tw5568403357023402836:True:=⟨⟩
theorem tw5622891448331783671:True:=⟨⟩
theorem tw5624853488578031242:True:=⟨⟩
theorem tw563187358100531285:True:=⟨⟩
theorem tw5635997465376423156:True:=⟨⟩
theorem tw5668242778917330218:True:=⟨⟩
theorem tw5681342490699550605:True:=⟨⟩
theorem tw572025973120968020:True:=⟨⟩
theorem tw5879794045989190140:True:=⟨⟩
theorem tw5881794051213638047:True:=⟨⟩
theorem tw5890149429776544528:True:=⟨⟩
theorem tw592091986841399488:True:=⟨⟩
theorem tw5944779741542164560:True:=⟨⟩
theorem tw5982530900706172834:True:=⟨⟩
theorem tw5993674680026032479:True:=⟨⟩
theorem tw606933014632685877:True:=⟨⟩
theorem tw6073024041949513324:True:=⟨⟩
theorem tw6123484323876157739:True:=⟨⟩
theorem tw6191063356408143937:True:=⟨⟩
theorem tw62031144846760905:True:=⟨⟩
theorem tw6251666310388454671:True:=⟨⟩
theorem tw6279628107977015093:True:=⟨⟩
theorem tw6286037085342025068:True:=⟨⟩
theorem tw6303432918075416744:True:=⟨⟩
theorem tw6309723882432604320:True:=⟨⟩
theorem tw6386092755870707692:True:=⟨⟩
theorem tw640717731267680540:True:=⟨⟩
theorem tw641001872174225133:True:=⟨⟩
theorem tw6432722533495008372:True:=⟨⟩
theorem tw6442494855838712652:True:=⟨⟩
theorem tw6500942888191125815:True:=⟨⟩
theorem tw6520899474041221572:True:=⟨⟩
theorem tw6539061426093148979:True:=⟨⟩
theorem tw6547225116803572273:True:=⟨⟩
theorem tw6615682148682845167:True:=⟨⟩
theorem tw6630675192702485437:True:=⟨⟩
theorem tw6679979816984632669:True:=⟨⟩
theorem tw6734496671581317598:True:=⟨⟩
theorem tw6754147672135886483:True:=⟨⟩
theorem tw680111582318525604:True:=⟨⟩
theorem tw6802778842542395806:True:=⟨⟩
theorem tw6825797759118122970:True:=⟨⟩
theorem tw6832888851603262585:True:=⟨⟩
theorem tw6885557564790610001:True:=⟨⟩
theorem tw6938116632572317592:True:=⟨⟩
theorem tw6956897642245805858:True:=⟨⟩
theorem tw7018414765206410540:True:=⟨⟩
theorem tw7020955769068344209:True:=⟨⟩
theorem tw7059359309219465204:True:=⟨⟩
theorem tw7072312837895531171:True:=⟨⟩
theorem tw7072537584033888557:True:=⟨⟩
theorem tw7130766658981800375:True:=⟨⟩
theorem tw7167620789231048338:True:=⟨⟩
theorem tw7330260549621879328:True:=⟨⟩
theorem tw7370972281444274087:True:=⟨⟩
theorem tw7405644864755699042:True:=⟨⟩
theorem tw7465714587959458814:True:=⟨⟩
theorem tw7517036829861042684:True:=⟨⟩
theorem tw7570987899599450499:True:=⟨⟩
theorem tw7639736427667149144:True:=⟨⟩
theorem tw7672310262817745345:True:=⟨⟩
theorem tw77082805650119974:True:=⟨⟩
theorem tw7722423164617013580:True:=⟨⟩
theorem tw7784690632952039614:True:=⟨⟩
theorem tw7803997997100863413:True:=⟨⟩
theorem tw780475605979630356:True:=⟨⟩
theorem tw7824989909958231386:True:=⟨⟩
theorem tw7841741008780555445:True:=⟨⟩
theorem tw7874623550503065189:True:=⟨⟩
theorem tw7946914072053288584:True:=⟨⟩
theorem tw7966489490326676491:True:=⟨⟩
theorem tw8008057580884817254:True:=⟨⟩
theorem tw8031397017349748578:True:=⟨⟩
theorem tw8034290116476804475:True:=⟨⟩
theorem tw8056048489000790568:True:=⟨⟩
theorem tw8065418615681656153:True:=⟨⟩
theorem tw8074306312341719246:True:=⟨⟩
theorem tw8082426696607575194:True:=⟨⟩
theorem tw8096033694431299706:True:=⟨⟩
theorem tw8124585195434535884:True:=⟨⟩
theorem tw8224803747986255328:True:=⟨⟩
theorem tw8228568407051769884:True:=⟨⟩
theorem tw8257349393965672597:True:=⟨⟩
theorem tw8273810743451691648:True:=⟨⟩
theorem tw8312542479057246847:True:=⟨⟩
theorem tw8321468504581212951:True:=⟨⟩
theorem tw8369340655615849108:True:=⟨⟩
theorem tw8379526472115275572:True:=⟨⟩
theorem tw848267711227332965:True:=⟨⟩
theorem tw8652858348520841398:True:=⟨⟩
theorem tw8683234968120123712:True:=⟨⟩
theorem tw8716194066105262940:True:=⟨⟩
theorem tw8743732717859707415:True:=⟨⟩
theorem tw8761071798825386396:True:=⟨⟩
theorem tw8779518744160103427:True:=⟨⟩
theorem tw8802326932474669252:True:=⟨⟩
theorem tw8815405653933915954:True:=⟨⟩
theorem tw8844608584347340904:True:=⟨⟩
theorem tw8943743261797847211:True:=⟨⟩
theorem tw897518102602205710:True:=⟨⟩
theorem tw8979205943984705376:True:=⟨⟩
theorem tw8984497966633461397:True:=⟨⟩
theorem tw9006072353767524086:True:=⟨⟩
theorem tw9064229813469321468:True:=⟨⟩
theorem tw9066718089546101862:True:=⟨⟩
theorem tw9081284773505527066:True:=⟨⟩
theorem tw9100037868834095952:True:=⟨⟩
theorem tw9126464014414425109:True:=⟨⟩
theorem tw9261131073888719084:True:=⟨⟩
theorem tw9280002308640000179:True:=⟨⟩
theorem tw9294367487207819930:True:=⟨⟩
theorem tw9297401807154163858:True:=⟨⟩
theorem tw9305565188494999343:True:=⟨⟩
theorem tw9442752755529842303:True:=⟨⟩
theorem tw9446533808497510281:True:=⟨⟩
theorem tw9496998226752135671:True:=⟨⟩
theorem tw9530956900183057448:True:=⟨⟩
theorem tw9592680538688045266:True:=⟨⟩
theorem tw9653132536775852749:True:=⟨⟩
theorem tw9665610561896482715:True:=⟨⟩
theorem tw9669512017590042584:True:=⟨⟩
theorem tw9716893516191523829:True:=⟨⟩
theorem tw9739923851600360458:True:=⟨⟩
theorem tw9805442609004925004:True:=⟨⟩
theorem tw9819952953756182222:True:=⟨⟩
theorem tw9856797125855841177:True:=⟨⟩
theorem tw9874183311256813351:True:=⟨⟩
theorem tw9886480204967844615:True:=⟨⟩
theorem tw993958986809931741:True:=⟨⟩
theorem tw9962757452246191520:True:=⟨⟩
theorem tw9980876292764189546:True:=⟨⟩
theorem tw99911251385322863:True:=⟨⟩
end PySem.W.Fast
set_option Elab.async false
set_option linter.all false
set_option maxRecDepth 100000
def ac:=@PySem.wpAny_bind
def ae:=@PySem.Heap.get?_push_of_some
def af:=@PySem.wpAny_pure
def ag:=@List.length_map
def ai:=@of_decide_eq_true
def aj:=@decide_eq_true
def ak:=@PySem.Heap.get?_push_size
def am:=@List.mem_cons
def ao:=@PySem.Heap.lt_size
def aq:=@Nat.le_refl
def ar:=@List.not_mem_nil
def au:=@Bool.false_ne_true
def av:=@if_neg
def aw:=@decide_eq_false
def ay:=@List.getElem?_eq_some_iff
def az:=@List.getElem?_eq_getElem
def aA:=@List.size_toArray
def aB:=@if_pos
def aC:=@PySem.sizeLine_eq
def aD:=@List.length_append
def aE:=@List.getD_eq_getElem?_getD
def aF:=@Nat.ne_of_lt
def aG:=@List.mem_singleton
def aI:=@List.mem_cons_of_mem
def aJ:=@List.mem_cons_self
def aK:=@PySem.W.mg_none_of
def aL:=@List.getElem?_map
def aM:=@Option.some.inj
def aN:=@Nat.lt_of_lt_of_le
def aO:=@PySem.wpAny_holding
def aP:=@List.mem_of_getElem?
def aQ:=@List.all_eq_true
def aR:=@PySem.wpAny_field
def aS:=@PyProof.Rows.slot_tuple_getitem
def aU:=@List.map_append
def aV:=@Bool.and_eq_true
def aW:=@PySem.wpAny_newObj_type
def aX:=@or_false
def aY:=@List.lookup_cons
def aZ:=@PySem.wpAny_mono
def ba:=@PySem.wpAny_callSpecial?_slot
def bc:=@List.mem_map
def bd:=@PySem.wpAny_setField_rec
def be:=@List.map_cons
def bf:=@PySem.wpAny_call_entry
def bg:=@PySem.F.plainAttrs_list
def bh:=@List.mem_append_right
def bi:=@Nat.zero_le
def bj:=@List.mem_range
def bn:=@List.getElem?_eq_none
def bo:=@Ne.symm
def bp:=@Array.length_toList
def bq:=@List.mem_append
def br:=@PySem.Heap.size_push
def bt:=@List.getElem?_append_right
def bu:=@List.mem_toArray
def bv:=@Int.toNat_natCast
def bw:=@PySem.Heap.get?_update_other
def bx:=@List.take_of_length_le
def bz:=@List.mem_filter
def bA:=@PySem.W.kia_one
def bB:=@List.length_cons
def bC:=@PySem.AutoSeq1.wpAny_loadPart'
def bD:=@beq_eq_false_iff_ne
def bE:=@PySem.Heap.get?_update_self
def bF:=@Nat.le_trans
def bG:=@Nat.lt_irrefl
def bH:=@List.append_nil
def bI:=@PySem.codeAny_builtin
def bJ:=@List.length_take
def bK:=@List.getElem_mem
def bL:=@PySem.Around.under_plainId
def bM:=@List.take_length
def bN:=@PyProof.Rows.callWith_type1
def bO:=@congrArg
def bP:=@List.take_add_one
def bQ:=@PySem.mem_of_lookup
def bR:=@List.length_take_le
def bS:=@List.nodup_cons
def bU:=@PySem.wpAny_loadPart'
def bV:=@List.getElem?_append_left
def bW:=@List.getLastD_eq_getLast?
def bX:=@List.length_singleton
def bY:=@PySem.wpAny_Call_Name_kw
def bZ:=@List.any_eq_true
def b8:=@Nat.ne_of_gt
def b9:=@PySem.codeAny_mono
def cb:=@List.idxOf_lt_length_iff
def ce:=@Bool.and_eq_true_iff
def cf:=@PySem.wpAny_truthy_bool
def cg:=@PySem.wpAny_pyIter_list
def cj:=@PySem.wpAny_setState_of
def ck:=@Bool.eq_iff_iff
def cm:=@List.replicate_succ
def cn:=@List.getElem?_range
def cq:=@List.map_map
def cr:=@List.length_drop
def cw:=@PySem.wpAny_seqItems
def cx:=@List.pairwise_iff_getElem
def cy:=@PySem.wpAny_passesOwn
def cz:=@List.find?_cons
def cA:=@PySem.sizeLine_eq
def cB:=@Nat.lt_succ_of_lt
def cC:=@List.length_range
def cF:=@decide_eq_true_eq
def cG:=@Option.isSome_iff_exists
def cI:=@PySem.wpAny_attempt
def cJ:=@PySem.F.slot_list_append
def cK:=@PySem.F.type_list_append
def cL:=@List.getElem_of_mem
def cN:=@Bool.false_and
def cQ:=@decide_eq_decide
def cR:=@Nat.le_succ
def cS:=@List.eq_nil_of_length_eq_zero
def cU:=@PySem.wpAny_typeOf
def cV:=@PySem.call_meets
def cX:=@Nat.lt_trans
def cY:=@List.getElem_idxOf
def cZ:=@PySem.wpAny_execs_nil
def db:=@List.of_mem_zip
def de:=@Bool.or_eq_true
def df:=@PySem.wpAny_standAt
def dg:=@PySem.W.methodCall_KW
def di:=@Array.getElem?_toList
def dj:=@List.length_filter_le
def dk:=@List.pairwise_map
def dq:=@PySem.Calls.evalArgs_plain
def dy:=@Array.getElem?_eq_some_iff
def dz:=@PySem.wpAny_rule
def dB:=@Array.toArray_toList
def dC:=@PySem.wpAny_setField
def dD:=@Nat.le_of_lt
def dE:=@PySem.wpAny_askSetting
def dF:=@Nat.le_add_right
def dG:=@List.getLast?_eq_getElem?
def dH:=@List.filterMap_cons
def dI:=@List.length_reverse
def dJ:=@PySem.F.args_tuple_add_2
def dL:=@List.all_cons
def dM:=@PySem.plainId_quiet
def dN:=@Nat.not_lt_zero
def dO:=@PySem.PassesOwn.never
def dP:=@PySem.wpAny_call
def dQ:=@PySem.W.callWith_K
def dR:=@List.filter_append
def dS:=@PySem.F.entry_tuple_add
def dU:=@List.length_eq_zero_iff
def dW:=@PySem.F.slot_list_index
def dX:=@PySem.F.type_list_index
def dY:=@List.getElem?_set_self
def dZ:=@PySem.W.cellsFrom_some
def d0:=@PySem.F.slot_tuple_add
def d9:=@List.reverse_cons
def ef:=@List.flatten_cons
def ej:=@Option.some.injEq
def eB:=@List.ext_getElem?
def eC:=@List.pairwise_lt_range
def eE:=@Array.getElem?_setIfInBounds_ne
def eF:=@List.length_replicate
def eG:=@List.take_append_drop
def eJ:=@PySem.builtinLookup_eq_fast
def eL:=@PySem.wpAny_execs_cons
def eN:=@PySem.wpAny_isInstance
def eQ:=@PySem.Heap.size_update
def eR:=@PySem.W.mg_of
def eS:=@Bool.true_and
def eU:=@List.mem_append_left
def eV:=@List.getElem?_set_ne
def eX:=@PySem.W.looks_findIn
def eY:=@PySem.Around.frames_deeper
def eZ:=@List.pairwise_append
def fb:=@PySem.wpAny_updateSeq_pair
def fe:=@List.dropLast_concat
def ff:=@PySem.wpAny_ite_false
def fg:=@List.dropLast_concat_getLast
def fh:=@PySem.W.plainGet_of
def fi:=@PySem.W.callWith_K0
def fj:=@PyProof.Rows.entry_tuple_getitem
def fk:=@PySem.Heap.SameBut.update
def fm:=@List.filter_eq_self
def fo:=@List.map_congr_left
def fq:=@List.map_eq_nil_iff
def ft:=@PySem.Calls.Name_function_global
def fu:=@Int.fdiv_eq_ediv_of_nonneg
def fw:=@beq_iff_eq
def fz:=@PySem.wpAny_newFunctionEnv_cells
def fF:=@PyProof.Rows.slicePart_none
def fH:=@PyProof.Rows.args_tuple_getitem
def fJ:=@Bool.and_false
def fN:=@PySem.F.excBase_ValueError
def fQ:=@List.drop_eq_getElem_cons
def fV:=@PySem.Calls.call_function_entry
def fX:=@List.take_sublist
def fY:=@PySem.wpAny_sequenceKey
def fZ:=@PySem.Heap.SameBut.refl
def gb:=@PySem.Paired.length
def gc:=@List.getElem?_take_of_lt
def gd:=@Prod.mk.injEq
def ge:=@PySem.wpAny_onRaise
def gf:=@List.getLast?_eq_getLast
def gg:=@Nat.lt_succ_self
def gi:=@List.getElem?_replicate
def gj:=@PySem.noFill_tuple_add
def gk:=@PySem.F.plain_list_iadd
def gl:=@PySem.F.slot_tuple_rmul
def gm:=@PySem.AutoSeq1.idx_int
def gq:=@PySem.F.attr_ValueError
def gt:=@List.pairwise_singleton
def gu:=@PySem.wpAny_load
def gw:=@Nat.add_comm
def gx:=@PySem.F.slot_tuple_mul
def gy:=@List.length_set
def gA:=@List.forIn_cons
def gC:=@PySem.typeLookup_type
def gE:=@PySem.wpAny_specialOf
def gF:=@PySem.F.slot_set_iter
def gG:=@PySem.F.slot_list_pop
def gH:=@PySem.F.type_list_pop
def gI:=@List.mem_of_mem_drop
def gJ:=@PySem.wpAny_of_eq
def gK:=@PySem.wpAny_runValue
def gL:=@not_or
def gM:=@PySem.isSubtype_type
def gO:=@PySem.isSubtype_stop
def gQ:=@PySem.wpAny_letGo
def gR:=@List.take_succ_cons
def gS:=@PySem.W.callWith_of
def gW:=@PySem.W.codeHd_of_K
def gZ:=@Int.toNat_of_nonneg
def g4:=@Bool.not_true
def g5:=@Array.append_assoc
def g6:=@List.mem_filterMap
def g7:=@Int.natCast_nonneg
def g8:=@PySem.W.codeRec_of
def g9:=@List.pairwise_cons
def hG:=@PySem.Walks.list
def hU:=@Bool.false_eq_true
def hV:=@List.contains_cons
def hW:=@List.zip_cons_cons
def hZ:=@Int.emod_lt_of_pos
def ic:=@List.getElem?_drop
def ie:=@Nat.add_sub_cancel
def ig:=@if_true
def ii:=@Bool.or_true
def ij:=@Nat.sub_self
def ik:=@Sum.inl.inj
def im:=@Int.le_refl
def io:=@List.map_id
open PySem.W (clsIn codeHdIn emptyDict envX findIn findObj fnMade handedIn hasDictIn instObj isFn keepIn keeps_F kitAny kitOne kitx_dict kitx_list lookIn makesIn methodObj mg_of mroIn plainGet plainOver specialIn tabObj takerIn takesIn)
open List (map_nil replicate)
open Nat (not_lt)
open Option (bind_some map_some)
namespace L2
open PySem PySem.Spec PyProof.Rows
def jAF (s:Stmt)(j:Nat):Stmt:=match s with
 | .ClassDef _ _ _ body _ _ _ _ _ _ _=>body.getD j (.Pass ⟨0,0,0,0⟩)
 | _=> .Pass ⟨0,0,0,0⟩
def kS (s:Stmt):Arguments:=match s with
 | .FunctionDef _ a _ _ _ _ _ _ _ _=>a
 | _=> { posonlyargs:=[],args:=[],vararg:=none,kwonlyargs:=[],kw_defaults:=[],kwarg:=none,defaults:=[]}
def jG (s:Stmt):List Stmt:=match s with
 | .FunctionDef _ _ b _ _ _ _ _ _ _=>b
 | _=> []
def j9 (s:Stmt):Scope:=match s with
 | .FunctionDef _ _ _ _ _ _ sc _ _ _=>sc
 | _=> { kind:= .function,names:=[],isGenerator:=false,isCoroutine:=false}
end L2
namespace Eo
open PySem L2
noncomputable def top (i:Nat):Stmt:=PySem.Challenge.pw_eachonce_k92_shops_at_their_bounds.main.body.getD i (.Pass ⟨0,0,0,0⟩)
abbrev jB7:Stmt:=top 2
abbrev jAC:Stmt:=top 3
abbrev jC4:Stmt:=top 4
abbrev sIsW:Stmt:=top 9
abbrev yD:Stmt:=top 10
abbrev jAQ:Stmt:=top 33
abbrev sInit:Stmt:=jAF (top 34) 0
abbrev jAD:Stmt:=jAF (top 34) 1
abbrev qX:Stmt:=jAF (top 34) 2
abbrev yZ:Stmt:=jAF (top 34) 3
abbrev yP:Stmt:=jAF (top 34) 4
abbrev yK:Stmt:=jAF (top 34) 5
abbrev qA:Stmt:=jAF (top 34) 6
abbrev qW:Stmt:=jAF (top 34) 7
abbrev qY:Stmt:=jAF (top 34) 8
abbrev sBoxM:Stmt:=jAF (top 34) 9
abbrev sCell:Stmt:=top 36
abbrev sPot:Stmt:=top 37
abbrev sTake:Stmt:=top 38
abbrev sLot:Stmt:=top 39
abbrev jCO:Stmt:=top 40
abbrev sSame:Stmt:=top 41
abbrev sUpto:Stmt:=top 42
abbrev sLotR:Stmt:=top 43
abbrev sDue:Stmt:=top 44
abbrev sWord:Stmt:=top 45
abbrev jBG:Stmt:=top 46
abbrev sOddN:Stmt:=top 47
abbrev xB:Stmt:=top 48
abbrev sLaw:Stmt:=top 49
noncomputable def kC (x:Str)(t:Nat)(l n:Int)(a:Nat)(X Y:Value)(z:Nat)(u:Int)(v:Nat):Obj:=⟨.type "code",none, .fields #[.str x t, .str x (t+1), .str "/claim/cut.py" (t+2), .int l 0, .int n 0, .int 0 0, .int 0 0, .int 3 0, .ref a, .bool true, .int 181 0, .ref (a+1), .none,X,Y, .ref z, .int u 0, .int l 0, .str "/claim/cut.py" v],#[]⟩
noncomputable def kF (x:Str)(s:Stmt)(m:Str)(t c:Nat):Obj:=⟨.type "function",none, .func (PySem.W.fnOf x x (kS s) (jG s) (j9 s) .none .none .none (.str m t) none (.ref c) .none),#[]⟩
def kCm (x q:Str)(t:Nat)(l n:Int)(a:Nat)(X Y:Value)(z:Nat)(u:Int)(v:Nat):Obj:=⟨.type "code",none, .fields #[.str x t, .str q (t+1), .str "/claim/cut.py" (t+2), .int l 0, .int n 0, .int 0 0, .int 0 0, .int 3 0, .ref a, .bool true, .int 181 0, .ref (a+1), .none,X,Y, .ref z, .int u 0, .int l 0, .str "/claim/cut.py" v],#[]⟩
def kFm (x q:Str)(s:Stmt)(m:Str)(t c:Nat):Obj:=⟨.type "function",none, .func (PySem.W.fnOf x q (kS s) (jG s) (j9 s) .none .none .none (.str m t) none (.ref c) .none),#[]⟩
noncomputable def kE (P:Params)(x:Str)(t:Nat)(v:Value):DictEntry:=⟨PyData.keyHash P x, .str x t,v⟩
noncomputable def kM (P:Params):Obj:=
 let e (x:Str) (t:Nat) (v:Value):DictEntry:=⟨PyData.keyHash P x, .str x t,v⟩
 ⟨.type "dict",none, .dict #[e "__name__" 165 (.str "law_eachonce_k92_shops_at_their_bounds" 615),e "__doc__" 166 (.none),e "__package__" 167 (.none),e "__loader__" 168 (.builtin "__main__.__loader__#opaque"),e "__spec__" 169 (.none),e "__annotations__" 170 (.ref 6),e "__builtins__" 171 (.ref 4),e "__file__" 173 (.str "/claim/cut.py" 172),e "__cached__" 174 (.none),e "_wall" 193 (.ref 21),e "is_whole" 202 (.ref 28),e "is_rising" 208 (.ref 33),e "is_lot" 216 (.ref 40),e "mask_of" 222 (.ref 45),e "MOST_THINGS" 226 (.int 16 225),e "MOST_PIECES" 228 (.int 32 227),e "is_weight" 235 (.ref 52),e "picked" 241 (.ref 57),e "OnceError" 261 (.ref 67),e "NoText" 286 (.ref 87),e "NoCovering" 302 (.ref 99),e "TooMany" 318 (.ref 111),e "NoThing" 334 (.ref 123),e "NoPiece" 350 (.ref 135),e "NoWeight" 366 (.ref 147),e "NoOrder" 382 (.ref 159),e "Held" 398 (.ref 171),e "NoDeed" 414 (.ref 183),e "NoRow" 430 (.ref 195),e "choices_of" 438 (.ref 202),e "full_mask" 445 (.ref 209),e "choices_at" 451 (.ref 214),e "masks_met" 464 (.ref 221),e "gathered" 470 (.ref 226),e "ways_of" 477 (.ref 233),e "many" 484 (.ref 240),e "many_coverings" 485 (.ref 240),e "all_but" 493 (.ref 245),e "Shop" 614 (.ref 342),e "_law_cell_at" 624 (.ref 353),e "_law_pot" 634 (.ref 360),e "_law_take" 643 (.ref 367),e "_law_lot" 649 (.ref 372),e "_law_whole" 656 (.ref 379),e "_law_same" 662 (.ref 384),e "_law_upto" 671 (.ref 391),e "_law_lot_right" 677 (.ref 396),e "_law_shop_due" 683 (.ref 401),e "_law_shop_word" 691 (.ref 408),e "_law_shop_told" 703 (.ref 415),e "_law_odd_number" 712 (.ref 422),e "_law_deed" 730 (.ref 429),e "law" 736 (.ref 434)] 53,#[]⟩
noncomputable def kK (P:Params):W.Frag:=(nat_lit 3,kM P)::(nat_lit 4,⟨.type "module",some 0, .plain,#[]⟩)::(nat_lit 27,kC "is_whole" 196 5 1 22 (.ref 24) (.ref 25) 26 200 201)::(nat_lit 28,kF "is_whole" jB7 "eachonce.kinds" 194 27)::(nat_lit 32,kC "is_rising" 203 7 1 29 (.none) (.none) 31 206 207)::(nat_lit 33,kF "is_rising" jAC "eachonce.kinds" 194 32)::(nat_lit 39,kC "is_lot" 209 13 2 34 (.ref 36) (.ref 37) 38 214 215)::(nat_lit 40,kF "is_lot" jC4 "eachonce.kinds" 194 39)::(nat_lit 51,kC "is_weight" 229 22 1 46 (.ref 48) (.ref 49) 50 233 234)::(nat_lit 52,kF "is_weight" sIsW "eachonce.boxes" 223 51)::(nat_lit 56,kC "picked" 236 24 3 53 (.none) (.none) 55 239 240)::(nat_lit 57,kF "picked" yD "eachonce.boxes" 223 56)::(nat_lit 66,⟨.type "dict",none, .dict #[kE P "__module__" 251 (.str "eachonce.errors" 242),kE P "__firstlineno__" 255 (.int 31 254),kE P "__static_attributes__" 256 (.ref 65),kE P "__weakref__" 258 (.ref 68),kE P "__doc__" 259 (.none)] 3,#[]⟩)::(nat_lit 67,⟨.type "type",none, .cls { name:= "OnceError",bases:=[.type "ValueError"],mro:=[.ref 67, .type "ValueError", .type "Exception", .type "BaseException", .type "object"],ns:=66,qualname:= "OnceError",subclasses:=[.ref 87, .ref 99, .ref 111, .ref 123, .ref 135, .ref 147, .ref 159, .ref 171, .ref 183, .ref 195]},#[some (.ref 58),none,some (.str "OnceError" 244),some (.str "OnceError" 252),some (.builtin "ValueError.__new__"),some (.bool true)]⟩)::(nat_lit 87,⟨.type "type",none, .cls { name:= "NoText",bases:=[.ref 67],mro:=[.ref 87, .ref 67, .type "ValueError", .type "Exception", .type "BaseException", .type "object"],ns:=86,qualname:= "NoText",subclasses:=[]},#[some (.ref 71),none,some (.str "NoText" 262),some (.str "NoText" 270),some (.builtin "ValueError.__new__"),some (.bool true)]⟩)::(nat_lit 99,⟨.type "type",none, .cls { name:= "NoCovering",bases:=[.ref 67],mro:=[.ref 99, .ref 67, .type "ValueError", .type "Exception", .type "BaseException", .type "object"],ns:=98,qualname:= "NoCovering",subclasses:=[]},#[some (.ref 90),none,some (.str "NoCovering" 287),some (.str "NoCovering" 295),some (.builtin "ValueError.__new__"),some (.bool true)]⟩)::(nat_lit 110,⟨.type "dict",none, .dict #[kE P "__module__" 310 (.str "eachonce.errors" 242),kE P "__firstlineno__" 314 (.int 40 313),kE P "__static_attributes__" 315 (.ref 109),kE P "__doc__" 316 (.none)] 2,#[]⟩)::(nat_lit 111,⟨.type "type",none, .cls { name:= "TooMany",bases:=[.ref 67],mro:=[.ref 111, .ref 67, .type "ValueError", .type "Exception", .type "BaseException", .type "object"],ns:=110,qualname:= "TooMany",subclasses:=[]},#[some (.ref 102),none,some (.str "TooMany" 303),some (.str "TooMany" 311),some (.builtin "ValueError.__new__"),some (.bool true)]⟩)::(nat_lit 122,⟨.type "dict",none, .dict #[kE P "__module__" 326 (.str "eachonce.errors" 242),kE P "__firstlineno__" 330 (.int 42 329),kE P "__static_attributes__" 331 (.ref 121),kE P "__doc__" 332 (.none)] 2,#[]⟩)::(nat_lit 123,⟨.type "type",none, .cls { name:= "NoThing",bases:=[.ref 67],mro:=[.ref 123, .ref 67, .type "ValueError", .type "Exception", .type "BaseException", .type "object"],ns:=122,qualname:= "NoThing",subclasses:=[]},#[some (.ref 114),none,some (.str "NoThing" 319),some (.str "NoThing" 327),some (.builtin "ValueError.__new__"),some (.bool true)]⟩)::(nat_lit 134,⟨.type "dict",none, .dict #[kE P "__module__" 342 (.str "eachonce.errors" 242),kE P "__firstlineno__" 346 (.int 44 345),kE P "__static_attributes__" 347 (.ref 133),kE P "__doc__" 348 (.none)] 2,#[]⟩)::(nat_lit 135,⟨.type "type",none, .cls { name:= "NoPiece",bases:=[.ref 67],mro:=[.ref 135, .ref 67, .type "ValueError", .type "Exception", .type "BaseException", .type "object"],ns:=134,qualname:= "NoPiece",subclasses:=[]},#[some (.ref 126),none,some (.str "NoPiece" 335),some (.str "NoPiece" 343),some (.builtin "ValueError.__new__"),some (.bool true)]⟩)::(nat_lit 146,⟨.type "dict",none, .dict #[kE P "__module__" 358 (.str "eachonce.errors" 242),kE P "__firstlineno__" 362 (.int 46 361),kE P "__static_attributes__" 363 (.ref 145),kE P "__doc__" 364 (.none)] 2,#[]⟩)::(nat_lit 147,⟨.type "type",none, .cls { name:= "NoWeight",bases:=[.ref 67],mro:=[.ref 147, .ref 67, .type "ValueError", .type "Exception", .type "BaseException", .type "object"],ns:=146,qualname:= "NoWeight",subclasses:=[]},#[some (.ref 138),none,some (.str "NoWeight" 351),some (.str "NoWeight" 359),some (.builtin "ValueError.__new__"),some (.bool true)]⟩)::(nat_lit 159,⟨.type "type",none, .cls { name:= "NoOrder",bases:=[.ref 67],mro:=[.ref 159, .ref 67, .type "ValueError", .type "Exception", .type "BaseException", .type "object"],ns:=158,qualname:= "NoOrder",subclasses:=[]},#[some (.ref 150),none,some (.str "NoOrder" 367),some (.str "NoOrder" 375),some (.builtin "ValueError.__new__"),some (.bool true)]⟩)::(nat_lit 170,⟨.type "dict",none, .dict #[kE P "__module__" 390 (.str "eachonce.errors" 242),kE P "__firstlineno__" 394 (.int 50 393),kE P "__static_attributes__" 395 (.ref 169),kE P "__doc__" 396 (.none)] 2,#[]⟩)::(nat_lit 171,⟨.type "type",none, .cls { name:= "Held",bases:=[.ref 67],mro:=[.ref 171, .ref 67, .type "ValueError", .type "Exception", .type "BaseException", .type "object"],ns:=170,qualname:= "Held",subclasses:=[]},#[some (.ref 162),none,some (.str "Held" 383),some (.str "Held" 391),some (.builtin "ValueError.__new__"),some (.bool true)]⟩)::(nat_lit 182,⟨.type "dict",none, .dict #[kE P "__module__" 406 (.str "eachonce.errors" 242),kE P "__firstlineno__" 410 (.int 52 409),kE P "__static_attributes__" 411 (.ref 181),kE P "__doc__" 412 (.none)] 2,#[]⟩)::(nat_lit 183,⟨.type "type",none, .cls { name:= "NoDeed",bases:=[.ref 67],mro:=[.ref 183, .ref 67, .type "ValueError", .type "Exception", .type "BaseException", .type "object"],ns:=182,qualname:= "NoDeed",subclasses:=[]},#[some (.ref 174),none,some (.str "NoDeed" 399),some (.str "NoDeed" 407),some (.builtin "ValueError.__new__"),some (.bool true)]⟩)::(nat_lit 195,⟨.type "type",none, .cls { name:= "NoRow",bases:=[.ref 67],mro:=[.ref 195, .ref 67, .type "ValueError", .type "Exception", .type "BaseException", .type "object"],ns:=194,qualname:= "NoRow",subclasses:=[]},#[some (.ref 186),none,some (.str "NoRow" 415),some (.str "NoRow" 423),some (.builtin "ValueError.__new__"),some (.bool true)]⟩)::(nat_lit 244,kC "all_but" 488 94 2 241 (.none) (.none) 243 491 492)::(nat_lit 245,kF "all_but" jAQ "eachonce.shop" 486 244)::(nat_lit 258,kCm "__init__" "Shop.__init__" 506 98 1 253 (.ref 255) (.ref 256) 257 510 511)::(nat_lit 259,kFm "__init__" "Shop.__init__" sInit "eachonce.shop" 486 258)::(nat_lit 265,kCm "become" "Shop.become" 513 102 2 260 (.ref 262) (.ref 263) 264 518 519)::(nat_lit 266,kFm "become" "Shop.become" jAD "eachonce.shop" 486 265)::(nat_lit 272,kCm "put_thing" "Shop.put_thing" 521 106 2 267 (.ref 269) (.ref 270) 271 528 529)::(nat_lit 273,kFm "put_thing" "Shop.put_thing" qX "eachonce.shop" 486 272)::(nat_lit 279,kCm "put_piece" "Shop.put_piece" 531 114 3 274 (.ref 276) (.ref 277) 278 538 539)::(nat_lit 280,kFm "put_piece" "Shop.put_piece" yZ "eachonce.shop" 486 279)::(nat_lit 284,kCm "turn_thing" "Shop.turn_thing" 541 125 2 281 (.none) (.none) 283 544 545)::(nat_lit 285,kFm "turn_thing" "Shop.turn_thing" yP "eachonce.shop" 486 284)::(nat_lit 289,kCm "take_thing" "Shop.take_thing" 547 131 2 286 (.none) (.none) 288 550 551)::(nat_lit 290,kFm "take_thing" "Shop.take_thing" yK "eachonce.shop" 486 289)::(nat_lit 296,kCm "take_piece" "Shop.take_piece" 553 137 2 291 (.ref 293) (.ref 294) 295 559 560)::(nat_lit 297,kFm "take_piece" "Shop.take_piece" qA "eachonce.shop" 486 296)::(nat_lit 303,kCm "refuse_no_thing" "Shop.refuse_no_thing" 562 143 2 298 (.ref 300) (.ref 301) 302 567 568)::(nat_lit 304,kFm "refuse_no_thing" "Shop.refuse_no_thing" qW "eachonce.shop" 486 303)::(nat_lit 310,kCm "undo" "Shop.undo" 570 147 1 305 (.ref 307) (.ref 308) 309 574 575)::(nat_lit 311,kFm "undo" "Shop.undo" qY "eachonce.shop" 486 310)::(nat_lit 317,kCm "box" "Shop.box" 577 152 1 312 (.ref 314) (.ref 315) 316 581 582)::(nat_lit 318,kFm "box" "Shop.box" sBoxM "eachonce.shop" 486 317)::(nat_lit 341,⟨.type "dict",none, .dict #[kE P "__module__" 501 (.str "eachonce.shop" 486),kE P "__firstlineno__" 505 (.int 96 504),kE P "__init__" 512 (.ref 259),kE P "become" 520 (.ref 266),kE P "put_thing" 530 (.ref 273),kE P "put_piece" 540 (.ref 280),kE P "turn_thing" 546 (.ref 285),kE P "take_thing" 552 (.ref 290),kE P "take_piece" 561 (.ref 297),kE P "refuse_no_thing" 569 (.ref 304),kE P "undo" 576 (.ref 311),kE P "box" 583 (.ref 318),kE P "many" 590 (.ref 325),kE P "lightest" 597 (.ref 332),kE P "least_bars" 604 (.ref 339),kE P "__static_attributes__" 607 (.ref 340),kE P "__dict__" 609 (.ref 343),kE P "__weakref__" 611 (.ref 344),kE P "__doc__" 612 (.none)] 4,#[]⟩)::(nat_lit 342,⟨.type "type",none, .cls { name:= "Shop",bases:=[.type "object"],mro:=[.ref 342, .type "object"],ns:=341,qualname:= "Shop",subclasses:=[]},#[none,none,some (.str "Shop" 494),some (.str "Shop" 502),some (.builtin "object.__new__"),some (.bool true)]⟩)::(nat_lit 352,kC "_law_cell_at" 617 164 2 347 (.ref 349) (.ref 350) 351 622 623)::(nat_lit 353,kF "_law_cell_at" sCell "law_eachonce_k92_shops_at_their_bounds" 615 352)::(nat_lit 359,kC "_law_pot" 625 168 1 354 (.ref 356) (.ref 357) 358 632 633)::(nat_lit 360,kF "_law_pot" sPot "law_eachonce_k92_shops_at_their_bounds" 615 359)::(nat_lit 366,kC "_law_take" 635 177 2 361 (.ref 363) (.ref 364) 365 641 642)::(nat_lit 367,kF "_law_take" sTake "law_eachonce_k92_shops_at_their_bounds" 615 366)::(nat_lit 371,kC "_law_lot" 644 181 2 368 (.none) (.none) 370 647 648)::(nat_lit 372,kF "_law_lot" sLot "law_eachonce_k92_shops_at_their_bounds" 615 371)::(nat_lit 378,kC "_law_whole" 650 190 1 373 (.ref 375) (.ref 376) 377 654 655)::(nat_lit 379,kF "_law_whole" jCO "law_eachonce_k92_shops_at_their_bounds" 615 378)::(nat_lit 383,kC "_law_same" 657 192 2 380 (.none) (.none) 382 660 661)::(nat_lit 384,kF "_law_same" sSame "law_eachonce_k92_shops_at_their_bounds" 615 383)::(nat_lit 390,kC "_law_upto" 663 204 3 385 (.ref 387) (.ref 388) 389 669 670)::(nat_lit 391,kF "_law_upto" sUpto "law_eachonce_k92_shops_at_their_bounds" 615 390)::(nat_lit 395,kC "_law_lot_right" 672 206 2 392 (.none) (.none) 394 675 676)::(nat_lit 396,kF "_law_lot_right" sLotR "law_eachonce_k92_shops_at_their_bounds" 615 395)::(nat_lit 400,kC "_law_shop_due" 678 210 2 397 (.none) (.none) 399 681 682)::(nat_lit 401,kF "_law_shop_due" sDue "law_eachonce_k92_shops_at_their_bounds" 615 400)::(nat_lit 407,kC "_law_shop_word" 684 238 1 402 (.ref 404) (.ref 405) 406 689 690)::(nat_lit 408,kF "_law_shop_word" sWord "law_eachonce_k92_shops_at_their_bounds" 615 407)::(nat_lit 414,kC "_law_shop_told" 692 246 2 409 (.ref 411) (.ref 412) 413 701 702)::(nat_lit 415,kF "_law_shop_told" jBG "law_eachonce_k92_shops_at_their_bounds" 615 414)::(nat_lit 421,kC "_law_odd_number" 704 262 2 416 (.ref 418) (.ref 419) 420 710 711)::(nat_lit 422,kF "_law_odd_number" sOddN "law_eachonce_k92_shops_at_their_bounds" 615 421)::(nat_lit 428,kC "_law_deed" 713 265 3 423 (.ref 425) (.ref 426) 427 728 729)::(nat_lit 429,kF "_law_deed" xB "law_eachonce_k92_shops_at_their_bounds" 615 428)::(nat_lit 433,kC "law" 731 288 1 430 (.none) (.none) 432 734 735)::(nat_lit 434,kF "law" sLaw "law_eachonce_k92_shops_at_their_bounds" 615 433)::[]
noncomputable def kA:List Addr:=[3,4,27,28,32,33,39,40,51,52,56,57,66,67,87,99,110,111,122,123,134,135,146,147,159,170,171,182,183,195,244,245,258,259,265,266,272,273,279,280,284,285,289,290,296,297,303,304,310,311,317,318,341,342,352,353,359,360,366,367,371,372,378,379,383,384,390,391,395,396,400,401,407,408,414,415,421,422,428,429,433,434]
noncomputable def vw:Program:= { PySem.Challenge.pw_eachonce_k92_shops_at_their_bounds with main:= { PySem.Challenge.pw_eachonce_k92_shops_at_their_bounds.main with body:=[top 0,top 2,top 3,top 4,top 5,top 7,top 8,top 9,top 10,top 12,top 13,top 14,top 15,top 16,top 17,top 18,top 19,top 20,top 21,top 22,top 24,top 25,top 26,top 27,top 28,top 29,top 30,top 31,top 33,top 34,top 36,top 37,top 38,top 39,top 40,top 41,top 42,top 43,top 44,top 45,top 46,top 47,top 48,top 49]}}
theorem kA_eq:∀ P,kA=(kK P).map (·.1):=fun _=>by kernel_rfl
noncomputable abbrev kH:PySem.W.Hook:=PySem.W.kmHook kK kA kA_eq [54]
end Eo
section
namespace L2
open PySem PySem.Spec PyProof.Rows
abbrev Key:=Sum Int Str
def keyIs:Key->Value->Bool
 | .inl k,v=>Value.isInt k v
 | .inr x,v=>Value.isStrOf x v
def keyH (w:World):Key->Int
 | .inl k=>hashInt k
 | .inr x=>hashStr w x
theorem jA1:∀ {k:Key}{v:Value},keyIs k v=true->(∃ i t,k=Sum.inl i/\v=Value.int i t)\/(∃ x t,k=Sum.inr x/\v=Value.str x t)
 | .inl i,v,h=>by
  obtain⟨t,e⟩:=Value.isInt_shape (k:=i) (v:=v) h
  exact .inl ⟨i,t,rfl,e⟩
 | .inr x,v,h=>by
  obtain⟨t,e⟩:=Value.isStrOf_shape (x:=x) (v:=v) h
  exact .inr ⟨x,t,rfl,e⟩
theorem jK7 (i:Int)(t:Tok):keyIs (.inl i) (.int i t)=true:=by simp [keyIs,Value.isInt]
theorem jK6 (x:Str)(t:Tok):keyIs (.inr x) (.str x t)=true:=by simp [keyIs,Value.isStrOf]
theorem jRU (a b:Int):decide ((Sum.inl a:Key)=Sum.inl b)=(a==b):=by
 by_cases e:a=b
 ·subst e; simp
 ·have h:¬ (Sum.inl a:Key)=Sum.inl b:=fun q=>e (ik q)
  rw[aw h]
  exact(bD.mpr e).symm
theorem jRR (a b:Str):decide ((Sum.inr a:Key)=Sum.inr b)=decide (a=b):=by
 by_cases e:a=b
 ·subst e; simp
 ·have h:¬ (Sum.inr a:Key)=Sum.inr b:=fun q=>e (Sum.inr.inj q)
  rw[aw h,aw e]
theorem jRT (a:Int)(b:Str):decide ((Sum.inl a:Key)=Sum.inr b)=false:=aw (fun q=>nomatch q)
theorem jRS (a:Str)(b:Int):decide ((Sum.inr a:Key)=Sum.inl b)=false:=aw (fun q=>nomatch q)
def yX (prog:Program)(w:World):PySem.KeyKind prog w Key where
 is:=keyIs
 hash:=keyH w
 inj:=fun v a b ha hb=>by
  rcases jA1 ha with ⟨i,t,rfl,rfl⟩ | ⟨x,t,rfl,rfl⟩
  ·rcases jA1 hb with ⟨j,u,rfl,e⟩ | ⟨y,u,rfl,e⟩
   ·injection e with e1 _; rw[e1]
   ·exact nomatch e
  ·rcases jA1 hb with ⟨j,u,rfl,e⟩ | ⟨y,u,rfl,e⟩
   ·exact nomatch e
   ·injection e with e1 _; rw[e1]
 byValue:=fun k v h=>by
  rcases jA1 h with ⟨i,t,rfl,rfl⟩ | ⟨x,t,rfl,rfl⟩ <;> rfl
 pyHash:=fun hv h=>by
  rcases jA1 hv with ⟨i,t,rfl,rfl⟩ | ⟨x,t,rfl,rfl⟩
  ·exact wpAny_pyHash_int h
  ·exact wpAny_pyHash_str h
 eqBool:=fun hu hv h=>by
  rcases jA1 hu with ⟨i,t,rfl,rfl⟩ | ⟨x,t,rfl,rfl⟩
  ·rcases jA1 hv with ⟨j,u,rfl,rfl⟩ | ⟨y,u,rfl,rfl⟩
   ·rw[jRU] at h; exact wpAny_eqBool_int h
   ·rw[jRT] at h; exact SeqAt.EqAt.int_str i t y u _ _ _ _ h
  ·rcases jA1 hv with ⟨j,u,rfl,rfl⟩ | ⟨y,u,rfl,rfl⟩
   ·rw[jRS] at h; exact SeqAt.EqAt.str_int x t j u _ _ _ _ h
   ·rw[jRR] at h; exact wpAny_eqBool_str h
 «strs»:=fun k x t v h=>by
  rcases jA1 h with ⟨i,u,rfl,e⟩ | ⟨y,u,rfl,e⟩
  ·exact nomatch e
  ·injection e with e1 _
   subst e1
   cases v <;> rfl
theorem jFO (prog:Program)(w:World)(i:Int)(t:Tok):(yX prog w).is (.inl i) (.int i t)=true:=jK7 i t
theorem jFN (prog:Program)(w:World)(x:Str)(t:Tok):(yX prog w).is (.inr x) (.str x t)=true:=jK6 x t
inductive V where
 | non | bl (b:Bool) | int (i:Int) | str (x:Str) | byt (b:Array UInt8) | flt (b:UInt64) | ref (a:Addr) | ty (n:String)
 deriving DecidableEq
def RelV:V->Value->Prop
 | .non,u=>u=Value.none
 | .bl b,u=>u=Value.bool b
 | .int i,u=>∃ t,u=Value.int i t
 | .str x,u=>∃ t,u=Value.str x t
 | .byt b,u=>∃ t,u=Value.bytes b t
 | .flt b,u=>∃ t,u=Value.float b t
 | .ref a,u=>u=Value.ref a
 | .ty n,u=>u=Value.type n
abbrev Vals:List V->List Value->Prop:=Paired RelV
theorem Vals.length {xs:List V}{us:List Value}(r:Vals xs us):xs.length=us.length:=gb r
theorem Vals.get:∀ {xs:List V}{us:List Value}{i:Nat}{x:V},Vals xs us->xs[i]?=some x->∃ u,us[i]?=some u/\RelV x u
 | _,_,_,_, .nil,e=>by simp at e
 | _,_,0,_, .cons r _,e=>by simp at e; subst e; exact⟨_,rfl,r⟩
 | _,_,i+1,x, .cons _ t,e=>by
  obtain⟨u,h1,h2⟩:=Vals.get (i:=i) (x:=x) t (by simpa using e)
  exact⟨u,by simpa using h1,h2⟩
theorem Vals.set {x:V}{u:Value}(r:RelV x u):∀ {xs:List V}{us:List Value}(i:Nat),Vals xs us->Vals (xs.set i x) (us.set i u)
 | _,_,_, .nil=> .nil
 | _,_,0, .cons _ t=> .cons r t
 | _,_,i+1, .cons q t=> .cons q (Vals.set r i t)
theorem Vals.append:∀ {xs ys:List V}{us ws:List Value},Vals xs us->Vals ys ws->Vals (xs++ys) (us++ws)
 | _,_,_,_, .nil,s=>s
 | _,_,_,_, .cons r t,s=> .cons r (Vals.append t s)
theorem Vals.take:∀ {xs:List V}{us:List Value}(n:Nat),Vals xs us->Vals (xs.take n) (us.take n)
 | _,_,0,_=> .nil
 | _,_,_+1, .nil=> .nil
 | _,_,n+1, .cons r t=> .cons r (Vals.take n t)
theorem Vals.drop:∀ {xs:List V}{us:List Value}(n:Nat),Vals xs us->Vals (xs.drop n) (us.drop n)
 | _,_,0,r=>r
 | _,_,_+1, .nil=> .nil
 | _,_,n+1, .cons _ t=>Vals.drop n t
def RelO:Option V->Option Value->Prop
 | some v,some u=>RelV v u
 | none,none=>True
 | _,_=>False
def KV {κ:Type} :List (κ×V)->List (κ×Value)->Prop:=Paired fun (p:κ×V) (q:κ×Value)=>p.1=q.1/\RelV p.2 q.2
noncomputable def kV:Key->V
 | .inl i=> .int i
 | .inr x=> .str x
def TupO (h:Heap)(a:Addr)(items:Array Value):Prop:=∃ n,h.get? a=some { cls:= .type "tuple",data:= .seq items n}
theorem TupO.isTup {h:Heap}{a:Addr}{items:Array Value}(x:TupO h a items):IsTup h a items:=let ⟨n,e⟩:=x; ⟨_,e,rfl,n,rfl⟩
theorem TupO.new (h:Heap)(items:Array Value):TupO (h.push { cls:= .type "tuple",data:= .seq items}) h.objs.size items:=⟨0,ak _ rfl⟩
inductive HO where
  | lst (xs:List V)
  | tup (xs:List V)
  | dK (iq:List (Key×V)) | dT (iq:List (List Key×V))
  | set (S:Int->Bool) (n:Nat)
  | ins (C dx:Addr) (fs:List (Str×V))
  | own (x:Addr)
  | xd (fs:List (Str×V))
  | met (f x:Addr)
  | rng (lo hi:Int)
  | frz (o:Obj) (u:HO)
  | tbl (ps:Array Value)
  | ext (φ:Heap->Prop)
abbrev Hp:=Addr->Option HO
def upd (H:Hp)(a:Addr)(o:HO):Hp:=fun b=>if b=a then some o else H b
theorem jA {H:Hp}{a:Addr}{o:HO} :upd H a o a=some o:=by unfold upd; rw[aB rfl]
theorem jD {H:Hp}{a b:Addr}{o:HO}(h:b≠a):upd H a o b=H b:=by unfold upd; rw[av h]
theorem ne_of {H:Hp}{a b:Addr}{o u:HO}(h:H a=some o)(h':H b=some u)(d:o≠u):a≠b:=by
 intro e; subst e; rw[h] at h'; exact d (aM h')
theorem jF {H:Hp}{a b:Addr}{o:HO}(h:H a=some o)(h':H b=none):a≠b:=by
 intro e; subst e; rw[h] at h'; cases h'
section
variable (P:Program)(w:World)
def ObjOk (H:Hp)(h:Heap)(a:Addr):HO->Prop
 | .lst xs=>xs.length<=sizeLine/\∃ (its:List Value) (n:Nat),Vals xs its/\h.get? a=some { cls:= .type "list",data:= .seq its.toArray n}
 | .tup xs=>xs.length<=sizeLine/\∃ its:List Value,Vals xs its/\TupO h a its.toArray
 | .dK iq=>iq.length<=sizeLine/\(a==sysModules)=false/\∃ vs,KV iq vs/\h.DictOf (yX P w) a vs
 | .dT iq=>iq.length<=sizeLine/\(a==sysModules)=false/\∃ xs:List (List Key×Addr×Value),
   Paired (fun (p:List Key×V) (q:List Key×Addr×Value)=>p.1=q.1/\H q.2.1=some (.tup (p.1.map kV))/\RelV p.2 q.2.2) iq xs/\
   ∃ o es ep,h.get? a=some o/\o.ExactDict/\o.data= .dict es ep/\es.toList=xs.map (entryOfKey (tupleKind (yX P w)))/\(xs.map (·.1)).Nodup
 | .set S n=>h.SetOf (intKind P w) a S n
 | .ins C dx fs=>H dx=some (.own a)/\fs.length<=1000/\dx≠a/\h.get? a=some (instObj C dx)/\
   ∃ mA,h.Ns1 dx mA/\(∀ f,RelO (fs.lookup f) (mA f))/\PySem.Within mA (fs.map (·.1))
 | .own _=>∃ o,h.get? a=some o
 | .xd fs=>∃ mA,h.Ns1 a mA/\∀ f,RelO (fs.lookup f) (mA f)
 | .rng lo hi=>∃ t u v,h.get? a=some { cls:= .type "range",data:= .fields #[.int lo t, .int hi u, .int 1 v]}
 | .frz o u=>h.get? a=some o/\ObjOk H h a u
 | .tbl ps=>h.get? a=some { cls:= .none,data:= .fields ps}
 | .met f x=>h.get? a=some (methodObj (.ref f) (.ref x))
 | .ext φ=>φ h/\(∃ o,h.get? a=some o)/\∀ h1 h2:Heap,φ h1->(∀ o,h1.get? a=some o->h2.get? a=some o)->φ h2
def HOk (H:Hp)(h:Heap):Prop:=∀ a o,H a=some o->ObjOk P w H h a o
end
variable {P:Program}{w:World}{H H':Hp}{h h':Heap}{a:Addr}
section
variable {o:HO}
theorem ObjOk.lt (x:ObjOk P w H h a o):a<h.objs.size:=by
 cases o with
 | lst xs=>obtain⟨_,_,_,_,e⟩:=x; exact ao e
 | tup xs=>obtain⟨_,_,_,_,e⟩:=x; exact ao e
 | dK iq=>obtain⟨_,_,_,_,o,_,_,e,_⟩:=x; exact ao e
 | dT iq=>obtain⟨_,_,_,_,o,_,_,e,_⟩:=x; exact ao e
 | set S n=>obtain⟨o,_,_,_,e,_⟩:=x; exact ao e
 | ins C dx fs=>obtain⟨_,_,_,e,_⟩:=x; exact ao e
 | own y=>obtain⟨_,e⟩:=x; exact ao e
 | xd fs=>obtain⟨_,⟨_,_,_,e,_⟩,_⟩:=x; exact ao e
 | rng lo hi=>obtain⟨_,_,_,e⟩:=x; exact ao e
 | frz ob u=>obtain⟨e,_⟩:=x; exact ao e
 | tbl ps=>exact ao (show h.get? a=some _ from x)
 | met f y=>exact ao (show h.get? a=some _ from x)
 | ext φ=>obtain⟨_,⟨_,e⟩,_⟩:=x; exact ao e
theorem Paired.mapP {α β:Type}{F G:α->β->Prop} :∀ {l₁:List α}{l₂:List β},Paired F l₁ l₂->(∀ a b,F a b->G a b)->Paired G l₁ l₂
 | _,_, .nil,_=> .nil
 | _,_, .cons r t,f=> .cons (f _ _ r) (Paired.mapP t f)
theorem ObjOk.stay (x:ObjOk P w H h a o)(k:∀ b u,(b=a\/H b=some (.own a))->h.get? b=some u->h'.get? b=some u)
  (ho:∀ b,H b=some (.own a)->H' b=some (.own a)) (ht:∀ b xs,H b=some (.tup xs)->H' b=some (.tup xs)):ObjOk P w H' h' a o:=by
 induction o with
 | lst xs=>obtain⟨z,its,n,r,e⟩:=x; exact⟨z,its,n,r,k _ _ (.inl rfl) e⟩
 | tup xs=>obtain⟨z,its,r,n,e⟩:=x; exact⟨z,its,r,n,k _ _ (.inl rfl) e⟩
 | dK iq=>obtain⟨z,y,vs,r,ob,es,ep,e,c⟩:=x; exact⟨z,y,vs,r,ob,es,ep,k _ _ (.inl rfl) e,c⟩
 | dT iq=>
  obtain⟨z,y,xs,r,ob,es,ep,e,c⟩:=x
  exact⟨z,y,xs,Paired.mapP r fun p q z=>⟨z.1,ht _ _ z.2.1,z.2.2⟩,ob,es,ep,k _ _ (.inl rfl) e,c⟩
 | set S n=>obtain⟨ob,es,ep,t,e,c⟩:=x; exact⟨ob,es,ep,t,k _ _ (.inl rfl) e,c⟩
 | ins C dx fs=>
  obtain⟨d,z,ne,e,mA,⟨od,es,ep,e2,c⟩,r⟩:=x
  exact⟨ho _ d,z,ne,k _ _ (.inl rfl) e,mA,⟨od,es,ep,k _ _ (.inr d) e2,c⟩,r⟩
 | own y=>obtain⟨ob,e⟩:=x; exact⟨ob,k _ _ (.inl rfl) e⟩
 | xd fs=>obtain⟨mA,⟨od,es,ep,e,c⟩,r⟩:=x; exact⟨mA,⟨od,es,ep,k _ _ (.inl rfl) e,c⟩,r⟩
 | rng lo hi=>obtain⟨t,u,v,e⟩:=x; exact⟨t,u,v,k _ _ (.inl rfl) e⟩
 | frz ob u ih=>obtain⟨e,q⟩:=x; exact⟨k _ _ (.inl rfl) e,ih q⟩
 | tbl ps=>
  have e:h.get? a=some { cls:= .none,data:= .fields ps} :=x
  show h'.get? a=some { cls:= .none,data:= .fields ps}
  exact k a _ (.inl rfl) e
 | met f y=>
  have e:h.get? a=some (methodObj (.ref f) (.ref y)):=x
  show h'.get? a=some (methodObj (.ref f) (.ref y))
  exact k a _ (.inl rfl) e
 | ext φ=>obtain⟨p,⟨o,e⟩,st⟩:=x; exact⟨st _ _ p fun o q=>k _ _ (.inl rfl) q,⟨o,k _ _ (.inl rfl) e⟩,st⟩
theorem HOk.lt (x:HOk P w H h)(e:H a=some o):a<h.objs.size:=(x a o e).lt
theorem HOk.fresh (x:HOk P w H h)(e:h.objs.size<=a):H a=none:=by
 cases q:H a with
 | none=>rfl
 | some u=>exact absurd (aN (x.lt q) e) (bG _)
theorem HOk.kept (x:HOk P w H h)(k:∀ b u,h.get? b=some u->h'.get? b=some u):HOk P w H h':=fun a o e=>
 (x a o e).stay (fun b u _ q=>k b u q) (fun _ q=>q) fun _ _ q=>q
theorem HOk.laid (x:HOk P w H h)(k:∀ b u,h.get? b=some u->h'.get? b=some u)(hp:h.objs.size<=a)(new:ObjOk P w (upd H a o) h' a o):HOk P w (upd H a o) h':=fun b u e=>by
 have hn:=x.fresh hp
 by_cases hb:b=a
 ·subst hb; rw[jA] at e; cases e; exact new
 ·rw[jD hb] at e
  exact(x b u e).stay (fun c v _ q=>k c v q) (fun c q=>by rw[jD (jF q hn)]; exact q) fun c xs q=>by rw[jD (jF q hn)]; exact q
end
def Rd (H:Hp)(a:Addr)(u:HO):Prop:=H a=some u\/∃ o,H a=some (.frz o u)
theorem Rd.ok {P:Program}{w:World}{H:Hp}{h:Heap}{a:Addr}{u:HO}(r:Rd H a u)(x:HOk P w H h):ObjOk P w H h a u:=by
 rcases r with r | ⟨o,r⟩
 ·exact x a u r
 ·obtain⟨_,q⟩:=x a _ r
  exact q
def Mut:Option HO->Prop
 | some (.lst _)=>True
 | some (.dK _)=>True
 | some (.dT _)=>True
 | some (.set _ _)=>True
 | some (.ins _ _ _)=>True
 | some (.ext _)=>True
 | _=>False
variable {x:Addr}
section
variable {e:Addr}{o':HO}
theorem HOk.write (ok:HOk P w H h)(mu:Mut (H x))(he:e=x\/H e=some (.own x))(k:∀ b u,b≠e->h.get? b=some u->h'.get? b=some u)(heo:∃ u,h'.get? e=some u)
  (new:ObjOk P w (upd H x o') h' x o'):HOk P w (upd H x o') h':=fun b u q=>by
 have nown:∀ c y,H c=some (.own y)->c≠x:=fun c y r z=>by subst z; rw[r] at mu; exact mu
 have ntup:∀ c xs,H c=some (.tup xs)->c≠x:=fun c xs r z=>by subst z; rw[r] at mu; exact mu
 by_cases hb:b=x
 ·subst hb; rw[jA] at q; cases q; exact new
 ·rw[jD hb] at q
  by_cases hbe:b=e
  ·have q':H b=some (.own x):=by
    rcases he with z | z
    ·exact absurd (hbe.trans z) hb
    ·rw[hbe]; exact z
   rw[q] at q'; cases q'
   obtain⟨v,hv⟩:=heo
   exact⟨v,by rw[hbe]; exact hv⟩
  ·refine(ok b u q).stay (fun c v hc r=>k c v ?_ r) (fun c r=>by rw[jD (nown c b r)]; exact r) fun c xs r=>by rw[jD (ntup c xs r)]; exact r
   rcases hc with rfl | hc
   ·exact hbe
   ·rintro rfl
    rcases he with z | z
    ·exact nown c b hc z
    ·rw[hc] at z; cases z; exact hb rfl
end
structure Un (fs ex:List Addr)(H H':Hp)(h h':Heap):Prop where
 keep:∀ b o,h.get? b=some o->H b=none->b∉fs->b∉ex->h'.get? b=some o
 slot:∀ b o,h.get? b=some o->H b=none->b∈fs->b∉ex->∃ sl,h'.get? b=some { o with slots:=sl}
 free:∀ b o,h.get? b=some o->H b=none->b∉ex->H' b=none
 there:∀ b o,h.get? b=some o->b∉ex->∃ o',h'.get? b=some o'
 tups:∀ b xs,H b=some (.tup xs)->H' b=some (.tup xs)
 frzs:∀ b o u,H b=some (.frz o u)->H' b=some (.frz o u)
 tbls:∀ b ps,H b=some (.tbl ps)->∃ more,H' b=some (.tbl (ps++more))
section
variable {fs fs' ex ex':List Addr}{H1 H2:Hp}{h1 h2:Heap}{e:Addr}{o:HO}
theorem Un.any (u:Un fs ex H H1 h h1){b:Addr}{ob:Obj}(q:h.get? b=some ob)(n:H b=none)(hx:b∉ex):∃ sl,h1.get? b=some { ob with slots:=sl} :=by
 by_cases hb:b∈fs
 ·exact u.slot b ob q n hb hx
 ·exact⟨ob.slots,u.keep b ob q n hb hx⟩
theorem Un.kept (k:∀ b u,h.get? b=some u->h'.get? b=some u):Un fs ex H H h h':=
 ⟨fun b ob q _ _ _=>k b ob q,fun b ob q _ _ _=>⟨ob.slots,k b ob q⟩,fun _ _ _ n _=>n,fun b ob q _=>⟨ob,k b ob q⟩,fun _ _ q=>q,fun _ _ _ q=>q,fun _ ps q=>⟨#[],by rw[q]; simp⟩⟩
theorem Un.refl:Un fs ex H H h h:=Un.kept fun _ _ q=>q
theorem Un.laid (k:∀ b u,h.get? b=some u->h'.get? b=some u)(hp:h.objs.size<=a)(hn:H a=none):Un fs ex H (upd H a o) h h' where
 keep:=fun b u q _ _ _=>k b u q
 slot:=fun b u q _ _ _=>⟨u.slots,k b u q⟩
 free:=fun b u q n _=>by rw[jD (aF (aN (ao q) hp))]; exact n
 there:=fun b u q _=>⟨u,k b u q⟩
 tups:=fun b xs q=>by rw[jD (jF q hn)]; exact q
 frzs:=fun b u xs q=>by rw[jD (jF q hn)]; exact q
 tbls:=fun b ps q=>⟨#[],by rw[jD (jF q hn),q]; simp⟩
theorem Un.write (mu:Mut (H x))(he:e=x\/H e=some (.own x))(k:∀ b u,b≠e->h.get? b=some u->h'.get? b=some u)(heo:∃ u,h'.get? e=some u):Un fs ex H (upd H x o) h h':=by
 have hx:∀ b,H b=none->b≠x:=fun b n z=>by subst z; rw[n] at mu; exact mu
 have hb:∀ b,H b=none->b≠e:=fun b n z=>by
  subst z
  rcases he with r | r
  ·exact hx b n r
  ·rw[n] at r; cases r
 have hm:∀ b u,H b=some u->¬ Mut (some u)->b≠x:=fun b u q nm z=>by subst z; rw[q] at mu; exact nm mu
 refine⟨fun b u q n _ _=>k b u (hb b n) q,fun b u q n _ _=>⟨u.slots,k b u (hb b n) q⟩,fun b u q n _=>by rw[jD (hx b n)]; exact n,fun b u q _=>?_,
  fun b xs q=>by rw[jD (hm b _ q fun z=>z)]; exact q,fun b u xs q=>by rw[jD (hm b _ q fun z=>z)]; exact q,fun b ps q=>⟨#[],by rw[jD (hm b _ q fun z=>z),q]; simp⟩⟩
 by_cases hbe:b=e
 ·subst hbe; exact heo
 ·exact⟨u,k b u hbe q⟩
end
def trk (h:Heap)(H:Hp):List Addr:=(List.range h.objs.size).filter fun a=>(H a).isSome
def hidT (h:Heap)(H:Hp):Heap:=PySem.W.hideAll h (trk h H)
theorem jKH (h:Heap)(H:Hp):(hidT h H).objs.size=h.objs.size:=PySem.W.hideAll_size _ _
theorem jMM {h:Heap}{H:Hp}{b:Addr}{o:Obj}(e:h.get? b=some o)(n:H b=none):(hidT h H).get? b=some o:=
 PySem.W.hideAll_get _ e fun hm=>by
  have q:(H b).isSome=true:=(bz.mp hm).2
  rw[n] at q; simp at q
theorem jPO {h:Heap}{H:Hp}{b:Addr}{o:Obj}(e:(hidT h H).get? b=some o):h.get? b=some o/\H b=none:=by
 have e':h.get? b=some o:=PySem.W.of_hideAll (trk h H) e
 refine⟨e',?_⟩
 cases q:H b with
 | none=>rfl
 | some x=>
  have hm:b∈trk h H:=bz.mpr ⟨bj.mpr (ao e'),by simp [q]⟩
  have z:(hidT h H).get? b=none:=PySem.W.hideAll_none (trk h H) hm
  rw[z] at e; cases e
structure Mod (K:W.Frag)(mg:Str->Option Value)(base:Heap):Prop where
 kin:K.In base
 glob:base.Ns mainGlobals mg
 blt:∃ mb,base.Ns builtinsNs mb/\∀ x:Str,x≠ "__name__" ->mb x=bootBuiltins x
 nolimit:base.NoLimit
structure Cx where
 prog:Program
 w:World
 K:W.Frag
 mg:Str->Option Value
 base:Heap
 A:Around
 N:List Str
 s₀:Shared
 H₀:Hp
 env:Env
 outer:List Env
 stack:List Env
 ex:List Addr
 fn:Str->Bool
 calm:Bool
 pn:List (Addr×Obj)
 xe:Value->Shared->Prop
def frs (l:List Env):List Addr:=l.filterMap (·.frame)
abbrev Cx.fs (X:Cx):List Addr:=frs X.outer
def Vis (sc:Scope)(x:Str):Prop:=sc.names.lookup x=some .local\/sc.names.lookup x=some .cell\/sc.names.lookup x=some .free
def Loc (sc:Scope)(x:Str):Prop:=sc.names.lookup x=some .local\/sc.names.lookup x=some .cell
def Look (env:Env)(h:Heap)(m:Str->Option Value)(x:Str)(u:Value):Prop:=
 (env.kindOf x=some .local/\m x=some u)\/((env.kindOf x=some .cell\/env.kindOf x=some .free)/\∃ c,env.cells.lookup x=some c/\h.IsCell c (some u))
structure Cx.Ok (X:Cx):Prop where
 mod:Mod X.K X.mg X.base
 kind:X.env.scope.kind= .function
 glob:X.env.globals=mainGlobals
 blt:X.env.builtins=builtinsNs
 above:X.s₀.heap.objs.size<=X.env.locals
 inj:∀ x y c,X.env.cells.lookup x=some c->X.env.cells.lookup y=some c->x=y
 has:∀ x,(X.env.kindOf x=some .cell\/X.env.kindOf x=some .free)->∃ c,X.env.cells.lookup x=some c
 cab:∀ x c,X.fn x=true->X.env.cells.lookup x=some c->X.s₀.heap.objs.size<=c
 hd:X.calm=true->X.A.handled=none
 frames:X.A.frames=some X.stack
 stk:X.stack=X.outer\/(X.stack=X.env::X.outer/\X.env.frame=some X.env.locals)
 exf:∀ b∈X.ex,b≠X.env.locals/\∀ x c,X.env.cells.lookup x=some c->c≠b
 bs:∀ b o,X.base.get? b=some o->X.s₀.heap.get? b=some o/\X.H₀ b=none
 bsz:X.base.objs.size<=X.s₀.heap.objs.size
 noex:∀ b o,X.base.get? b=some o->b∉X.ex
 exfs:∀ b∈X.ex,b∉X.fs
 funs:X.s₀.heap.FunFrames X.base X.outer
 frf:∀ b∈X.fs,X.H₀ b=none
structure Inv (X:Cx)(ad:List (Addr×Obj))(σ:List (Option V))(H:Hp)(s:Shared):Prop where
 ok:X.Ok
 os:s.os=X.s₀.os
 bare:AllBare s.gens
 base:Un X.fs X.ex X.H₀ H X.s₀.heap s.heap
 loc:∃ m,s.heap.Ns X.env.locals m/\∀ (i:Nat) (x:Str) (v:V),X.N[i]?=some x->σ[i]?=some (some v)->Vis X.env.scope x->∃ u,RelV v u/\Look X.env s.heap m x u
 cell:∀ x c,X.env.cells.lookup x=some c->∃ v,s.heap.IsCell c v
 free:H X.env.locals=none
 freeC:∀ x c,X.env.cells.lookup x=some c->H c=none
 pin:∀ p∈X.pn++ad,s.heap.get? p.1=some p.2/\H p.1=none/\p.1≠X.env.locals/\p.1∉X.fs/\∀ v,p.2.data≠ .cell v
 hok:HOk X.prog X.w H s.heap
 len:σ.length=X.N.length
variable {X:Cx}{ad:List (Addr×Obj)}{s:Shared}
section
variable {σ:List (Option V)}
theorem Cx.Ok.nofr (ok:X.Ok){b:Addr}{o:Obj}(e:X.base.get? b=some o):b∉X.fs:=fun hb=>by
 have:=(ok.funs.mem hb).1
 rw[e] at this; cases this
theorem Inv.bs (I:Inv X ad σ H s):∀ b o,X.base.get? b=some o->s.heap.get? b=some o/\H b=none:=fun b o e=>
 ⟨I.base.keep b o (I.ok.bs b o e).1 (I.ok.bs b o e).2 (I.ok.nofr e) (I.ok.noex b o e),I.base.free b o (I.ok.bs b o e).1 (I.ok.bs b o e).2 (I.ok.noex b o e)⟩
theorem Inv.bk (I:Inv X ad σ H s):∀ b o,X.base.get? b=some o->s.heap.get? b=some o:=fun b o e=>(I.bs b o e).1
theorem Inv.mod (I:Inv X ad σ H s):Mod X.K X.mg X.base:=I.ok.mod
theorem Inv.kIn (I:Inv X ad σ H s):X.K.In s.heap:=I.ok.mod.kin.keeps I.bk
theorem Inv.lt (I:Inv X ad σ H s):X.env.locals<s.heap.objs.size:=let ⟨_,hn,_⟩:=I.loc; hn.lt
theorem Inv.sz (I:Inv X ad σ H s):X.s₀.heap.objs.size<=s.heap.objs.size:=bF I.ok.above (dD I.lt)
theorem Inv.nofs (I:Inv X ad σ H s){a:Addr}(h:s.heap.objs.size<=a):a∉X.fs:=fun hb=>by
 obtain⟨_,o,ho,_⟩:=I.ok.funs.mem hb
 exact absurd (aN (ao ho) (bF I.sz h)) (bG _)
theorem Inv.cne (I:Inv X ad σ H s):∀ x c,X.env.cells.lookup x=some c->c≠X.env.locals:=fun x c e z=>by
 obtain⟨v,o,ho,hd⟩:=I.cell x c e
 obtain⟨m,⟨o',es,ep,ho',hd',_⟩,_⟩:=I.loc
 rw[z,ho'] at ho; cases ho; rw[hd'] at hd; cases hd
theorem Inv.funs (I:Inv X ad σ H s):s.heap.FunFrames X.base X.outer:=by
 have all:∀ (l:List Env),(∀ b∈frs l,b∈X.fs)->X.s₀.heap.FunFrames X.base l->s.heap.FunFrames X.base l:=by
  intro l
  induction l with
  | nil=>intro _ _; trivial
  | cons env r ih=>
   intro hs hl
   obtain⟨hk,⟨L,o,hf,hn,ho,hd⟩,hr⟩:=hl
   have hL:L∈X.fs:=hs L (by unfold frs; rw[dH,hf]; exact aJ)
   obtain⟨sl,e⟩:=I.base.slot L o ho (I.ok.frf L hL) hL fun z=>I.ok.exfs L z hL
   exact⟨hk,⟨L,_,hf,hn,e,hd⟩,ih (fun b hb=>hs b (by unfold frs; rw[dH,hf]; exact aI _ hb)) hr⟩
 exact all X.outer (fun _ hb=>hb) I.ok.funs
theorem Inv.stack (I:Inv X ad σ H s):s.heap.FunFrames X.base X.stack:=by
 rcases I.ok.stk with e | ⟨e,hf⟩
 ·rw[e]; exact I.funs
 ·rw[e]
  obtain⟨m,hn,_⟩:=I.loc
  refine .cons (by rw[I.ok.kind]; decide) hf hn ?_ I.funs
  exact Heap.get?_none_of_le (bF I.ok.bsz I.ok.above)
theorem Inv.stkSub (I:Inv X ad σ H s):∀ b∈frs X.stack,b∈X.env.locals::X.fs:=fun b hb=>by
 rcases I.ok.stk with e | ⟨e,hf⟩
 ·rw[e] at hb; exact aI _ hb
 ·rw[e] at hb
  unfold frs at hb
  rw[dH,hf] at hb
  exact hb
theorem Inv.stkFree (I:Inv X ad σ H s):∀ b∈frs X.stack,H b=none:=fun b hb=>by
 rcases am.mp (I.stkSub b hb) with e | hb
 ·rw[e]; exact I.free
 ·obtain⟨_,o,ho,_⟩:=I.ok.funs.mem hb
  exact I.base.free b o ho (I.ok.frf b hb) fun z=>I.ok.exfs b z hb
theorem Inv.step {g':Array GenState}{t':Nat}{d':Drawn}{ch:List Addr}(I:Inv X ad σ H s)
  (hch:∀ b∈ch,(b∈X.ex\/X.s₀.heap.objs.size<=b)/\b≠X.env.locals/\(∀ x c,X.env.cells.lookup x=some c->c≠b)/\∀ p∈X.pn++ad,p.1≠b)
  (keep:∀ b o,b≠X.env.locals->b∉X.fs->b∉ch->s.heap.get? b=some o->H b=none->h'.get? b=some o)
  (slot:∀ b o,b≠X.env.locals->b∈X.fs->b∉ch->s.heap.get? b=some o->H b=none->∃ sl,h'.get? b=some { o with slots:=sl}) (free:∀ b o,b∉ch->s.heap.get? b=some o->H b=none->H' b=none)
  (there:∀ b o,b∉ch->s.heap.get? b=some o->∃ o',h'.get? b=some o')
  (tups:∀ b xs,H b=some (.tup xs)->H' b=some (.tup xs)) (frzs:∀ b o u,H b=some (.frz o u)->H' b=some (.frz o u)) (tbls:∀ b ps,H b=some (.tbl ps)->∃ more,H' b=some (.tbl (ps++more)))
  (ns:∀ m,s.heap.Ns X.env.locals m->h'.Ns X.env.locals m) (hok:HOk X.prog X.w H' h') (hg:AllBare g'):
  Inv X ad σ H' { s with heap:=h',gens:=g',drawn:=d',toks:=t'} :=by
 have neL:∀ b o,X.s₀.heap.get? b=some o->b≠X.env.locals:=fun b o e=>aF (aN (ao e) I.ok.above)
 have neC:∀ b o,X.s₀.heap.get? b=some o->b∉X.ex->b∉ch:=fun b o e hx hb=>by
  rcases (hch b hb).1 with z | z
  ·exact hx z
  ·exact absurd (aN (ao e) z) (bG _)
 have cellK:∀ x c,X.env.cells.lookup x=some c->∀ v,s.heap.IsCell c v->h'.IsCell c v:=fun x c e v ⟨o,ho,hd⟩=>by
  have nch:c∉ch:=fun z=>(hch c z).2.2.1 x c e rfl
  by_cases hc:c∈X.fs
  ·obtain⟨sl,q⟩:=slot c o (I.cne x c e) hc nch ho (I.freeC x c e)
   exact⟨_,q,hd⟩
  ·exact⟨o,keep c o (I.cne x c e) hc nch ho (I.freeC x c e),hd⟩
 refine⟨I.ok,I.os,hg,⟨fun b o e n hb hx=>?_,fun b o e n hb hx=>?_,fun b o e n hx=>?_,fun b o e hx=>?_,fun b xs e=>tups b xs (I.base.tups b xs e),fun b o xs e=>frzs b o xs (I.base.frzs b o xs e),fun b ps e=>?_⟩,?_,fun x c e=>?_,?_,fun x c e=>?_,fun p hp=>?_,hok,I.len⟩
 ·exact keep b o (neL b o e) hb (neC b o e hx) (I.base.keep b o e n hb hx) (I.base.free b o e n hx)
 ·obtain⟨sl,e1⟩:=I.base.slot b o e n hb hx
  obtain⟨sl',e2⟩:=slot b _ (neL b o e) hb (neC b o e hx) e1 (I.base.free b o e n hx)
  exact⟨sl',e2⟩
 ·obtain⟨o',e1⟩:=I.base.there b o e hx
  exact free b o' (neC b o e hx) e1 (I.base.free b o e n hx)
 ·obtain⟨o',e1⟩:=I.base.there b o e hx
  exact there b o' (neC b o e hx) e1
 ·obtain⟨m1,e1⟩:=I.base.tbls b ps e
  obtain⟨m2,e2⟩:=tbls b _ e1
  exact⟨m1++m2,by rw[e2,g5]⟩
 ·obtain⟨m,hn,hl⟩:=I.loc
  refine⟨m,ns m hn,fun i x v e1 e2 e3=>?_⟩
  obtain⟨u,r,l⟩:=hl i x v e1 e2 e3
  refine⟨u,r,?_⟩
  rcases l with l | ⟨k,c,e,z⟩
  ·exact .inl l
  ·exact .inr ⟨k,c,e,cellK x c e _ z⟩
 ·obtain⟨v,z⟩:=I.cell x c e
  exact⟨v,cellK x c e v z⟩
 ·obtain⟨m,⟨o,_,_,ho,_⟩,_⟩:=I.loc
  exact free _ o (fun z=>(hch _ z).2.1 rfl) ho I.free
 ·obtain⟨v,o,ho,hd⟩:=I.cell x c e
  exact free c o (fun z=>(hch c z).2.2.1 x c e rfl) ho (I.freeC x c e)
 ·obtain⟨e,n,ne,nf,d⟩:=I.pin p hp
  have nch:p.1∉ch:=fun z=>(hch p.1 z).2.2.2 p hp rfl
  exact⟨keep p.1 p.2 ne nf nch e n,free p.1 p.2 nch e n,ne,nf,d⟩
theorem Inv.un {t':Nat}(I:Inv X ad σ H s)(u:Un X.fs [] H H' s.heap h')(hok:HOk X.prog X.w H' h'):Inv X ad σ H' { s with heap:=h',toks:=t'} :=by
 obtain⟨m,⟨o,es,ep,ho,r⟩,_⟩:=id I.loc
 obtain⟨sl,hL⟩:=u.any ho I.free (by simp)
 exact I.step (g':=s.gens) (d':=s.drawn) (ch:=[]) (fun _ z=>nomatch z) (fun b o _ hb _ e n=>u.keep b o e n hb (by simp)) (fun b o _ hb _ e n=>u.slot b o e n hb (by simp)) (fun b o _ e n=>u.free b o e n (by simp)) (fun b o _ e=>u.there b o e (by simp)) u.tups u.frzs u.tbls (fun m' hm=>by
  obtain⟨o',es',ep',ho',r'⟩:=hm
  rw[ho] at ho'; cases ho'
  exact⟨_,es',ep',hL,r'⟩) hok I.bare
theorem Inv.call {g':Array GenState}{t':Nat}{d':Drawn}{ch:List Addr}(I:Inv X ad σ H s)(u:Un (frs X.stack) ch H H' s.heap h')(hok:HOk X.prog X.w H' h')(hg:AllBare g')
  (hch:∀ b∈ch,(b∈X.ex\/X.s₀.heap.objs.size<=b)/\b≠X.env.locals/\(∀ x c,X.env.cells.lookup x=some c->c≠b)/\∀ p∈X.pn++ad,p.1≠b):
  Inv X ad σ H' { s with heap:=h',gens:=g',drawn:=d',toks:=t'} :=by
 obtain⟨m,⟨o,es,ep,ho,r⟩,_⟩:=id I.loc
 obtain⟨sl,hL⟩:=u.any ho I.free fun z=>(hch _ z).2.1 rfl
 exact I.step (ch:=ch) hch (fun b o hL hb hc e n=>u.keep b o e n (fun z=>(am.mp (I.stkSub b z)).elim hL hb) hc) (fun b o _ _ hc e n=>u.any e n hc) (fun b o hc e n=>u.free b o e n hc) (fun b o hc e=>u.there b o e hc) u.tups u.frzs u.tbls (fun m' hm=>by
  obtain⟨o',es',ep',ho',r'⟩:=hm
  rw[ho] at ho'; cases ho'
  exact⟨_,es',ep',hL,r'⟩) hok hg
theorem Inv.turned {t':Nat}{it:Addr}(I:Inv X ad σ H s)(k:∀ b o,b≠it->s.heap.get? b=some o->h'.get? b=some o)(hn:H it=none)(hL:it≠X.env.locals)
  (h1:it∈X.ex\/X.s₀.heap.objs.size<=it) (h2:∀ x c,X.env.cells.lookup x=some c->c≠it) (h3:∀ p∈X.pn++ad,p.1≠it):Inv X ad σ H { s with heap:=h',toks:=t'} :=by
 have nit:∀ b u,H b=some u->b≠it:=fun b u e z=>by rw[z,hn] at e; cases e
 refine I.step (g':=s.gens) (d':=s.drawn) (ch:=[it]) (fun b hb=>?_) (fun b o _ _ hc e _=>k b o (fun z=>hc (by simp [z])) e) (fun b o _ _ hc e _=>⟨o.slots,k b o (fun z=>hc (by simp [z])) e⟩) (fun _ _ _ _ n=>n)
  (fun b o hc e=>⟨o,k b o (fun z=>hc (by simp [z])) e⟩) (fun _ _ e=>e) (fun _ _ _ e=>e) (fun b ps e=>⟨#[],by rw[e]; simp⟩) (fun m hm=>?_) (fun b u e=>?_) I.bare
 ·have e:b=it:=by simpa using hb
  subst e
  exact⟨h1,hL,h2,h3⟩
 ·obtain⟨o,es,ep,ho,r⟩:=hm
  exact⟨o,es,ep,k _ o (bo hL) ho,r⟩
 ·refine(I.hok b u e).stay (fun c v hc q=>k c v ?_ q) (fun _ q=>q) fun _ _ q=>q
  rcases hc with z | z
  ·rw[z]; exact nit b u e
  ·exact nit c _ z
theorem Inv.tok (I:Inv X ad σ H s)(t:Nat):Inv X ad σ H { s with toks:=t} :=I.un (h':=s.heap) (t':=t) Un.refl I.hok
theorem Inv.kept {t':Nat}(I:Inv X ad σ H s)(k:∀ b u,s.heap.get? b=some u->h'.get? b=some u):Inv X ad σ H { s with heap:=h',toks:=t'} :=I.un (Un.kept k) (I.hok.kept k)
theorem Inv.laid {a:Addr}{o:HO}{t':Nat}(I:Inv X ad σ H s)(k:∀ b u,s.heap.get? b=some u->h'.get? b=some u)(hp:s.heap.objs.size<=a)(new:ObjOk X.prog X.w (upd H a o) h' a o):
  Inv X ad σ (upd H a o) { s with heap:=h',toks:=t'} :=I.un (Un.laid k hp (I.hok.fresh hp)) (I.hok.laid k hp new)
theorem Inv.write {x e:Addr}{o:HO}{t':Nat}(I:Inv X ad σ H s)(mu:Mut (H x))(he:e=x\/H e=some (.own x))(k:∀ b u,b≠e->s.heap.get? b=some u->h'.get? b=some u)(heo:∃ u,h'.get? e=some u)
  (new:ObjOk X.prog X.w (upd H x o) h' x o):Inv X ad σ (upd H x o) { s with heap:=h',toks:=t'} :=I.un (Un.write mu he k heo) (I.hok.write mu he k heo new)
theorem Inv.pins_of {ad':List (Addr×Obj)}(I:Inv X ad σ H s)(h:∀ p∈ad',s.heap.get? p.1=some p.2/\H p.1=none/\p.1≠X.env.locals/\p.1∉X.fs/\∀ v,p.2.data≠ .cell v):Inv X ad' σ H s:=
 ⟨I.ok,I.os,I.bare,I.base,I.loc,I.cell,I.free,I.freeC,fun p hp=>(bq.mp hp).elim (fun z=>I.pin p (eU _ z)) (h p),I.hok,I.len⟩
theorem jGP {N:List Str}(hN:N.Nodup){i j:Nat}{x:Str}(a:N[i]?=some x)(b:N[j]?=some x):i=j:=by
 obtain⟨h1,e1⟩:=ay.mp a
 obtain⟨h2,e2⟩:=ay.mp b
 exact(List.getElem_inj hN).mp (e1.trans e2.symm)
theorem jED {M:Model}{A:Around}{E:Value->Shared->Prop}{i:Nat}{x:Str}{v:V}{u:Value}{Q:Unit->Shared->Prop}(I:Inv X ad σ H s)(hN:X.N.Nodup)(hi:X.N[i]?=some x)(hx:Loc X.env.scope x)(r:RelV v u)
  (h:∀ s',Inv X ad (σ.set i (some v)) H s'->(∃ a,Heap.SameBut a s.heap s'.heap/\(a=X.env.locals\/X.env.cells.lookup x=some a))->Q () s') (hf:X.fn x=true\/X.env.scope.names.lookup x=some .local:=by first | exact .inl rfl | exact .inr rfl | assumption):wpAny M A (storeName X.env x u) Q E s:=by
 obtain⟨m,hn,hl⟩:=id I.loc
 have hcls:(X.env.scope.kind== .class || (X.env.scope.kind== .module&&X.env.locals != X.env.globals))=false:=by rw[I.ok.kind]; rfl
 have hiσ:i<σ.length:=by rw[I.len]; exact(ay.mp hi).1
 have cne:=I.cne
 have tracked:∀ {a:Addr}{h':Heap},(∃ o,s.heap.get? a=some o/\H a=none)->Heap.SameBut a s.heap h'->HOk X.prog X.w H h':=fun {a h'} ha hs b ob e=>by
  obtain⟨_,_,hfree⟩:=ha
  refine(I.hok b ob e).stay (fun c w' hc q=>(hs.2 c ?_).trans q) (fun _ q=>q) fun _ _ q=>q
  rintro rfl
  rcases hc with rfl | hc
  ·rw[hfree] at e; cases e
  ·rw[hfree] at hc; cases hc
 rcases hx with hk | hk
 ·refine wpAny_storeName_local hk hn (fun h' hn' hs=>?_) hcls
  obtain⟨oL,_,_,hoL,_⟩:=id hn
  refine h _ ⟨I.ok,I.os,I.bare,⟨fun b o e n hb hx=>?_,fun b o e n hb hx=>?_,I.base.free,fun b o e hx=>?_,I.base.tups,I.base.frzs,I.base.tbls⟩,⟨_,hn',fun j y v' e1 e2 e3=>?_⟩,fun y c e=>?_,I.free,I.freeC,fun p hp=>?_,tracked ⟨oL,hoL,I.free⟩ hs,by simpa using I.len⟩ ⟨_,hs, .inl rfl⟩
  ·exact(hs.2 b (aF (aN (ao e) I.ok.above))).trans (I.base.keep b o e n hb hx)
  ·obtain⟨sl,e1⟩:=I.base.slot b o e n hb hx
   exact⟨sl,(hs.2 b (aF (aN (ao e) I.ok.above))).trans e1⟩
  ·obtain⟨o',e1⟩:=I.base.there b o e hx
   exact⟨o',(hs.2 b (aF (aN (ao e) I.ok.above))).trans e1⟩
  ·by_cases hj:j=i
   ·subst hj
    rw[hi] at e1; cases e1
    rw[dY hiσ] at e2
    cases e2
    exact⟨u,r, .inl ⟨hk,by simp⟩⟩
   ·rw[eV (bo hj)] at e2
    obtain⟨u',r',q⟩:=hl j y v' e1 e2 e3
    refine⟨u',r',?_⟩
    rcases q with ⟨k,e⟩ | ⟨k,c,e,z⟩
    ·refine .inl ⟨k,?_⟩
     have:y≠x:=fun e=>hj (jGP hN e1 (e ▸ hi))
     simp [this,e]
    ·exact .inr ⟨k,c,e,z.sameBut hs (cne y c e)⟩
  ·obtain⟨w',z⟩:=I.cell y c e
   exact⟨w',z.sameBut hs (cne y c e)⟩
  ·obtain⟨e,n,ne,nf,d⟩:=I.pin p hp
   exact⟨(hs.2 p.1 ne).trans e,n,ne,nf,d⟩
 ·have hfn:X.fn x=true:=by
   rcases hf with z | z
   ·exact z
   ·rw[z] at hk; cases hk
  obtain⟨c,hc⟩:=I.ok.has x (.inl hk)
  obtain⟨w',z⟩:=I.cell x c hc
  refine wpAny_storeName_cell I.ok.kind hk hc z (fun h' hc' hs=>?_)
  obtain⟨oc,hoc,hocd⟩:=id z
  refine h { s with heap:=h'} ⟨I.ok,I.os,I.bare,⟨fun b o e n hb hx=>?_,fun b o e n hb hx=>?_,I.base.free,fun b o e hx=>?_,I.base.tups,I.base.frzs,I.base.tbls⟩,⟨m,hn.sameBut hs (bo (cne x c hc)),fun j y v' e1 e2 e3=>?_⟩,fun y c' e=>?_,I.free,I.freeC,fun p hp=>?_,tracked ⟨oc,hoc,I.freeC x c hc⟩ hs,by simpa using I.len⟩ ⟨c,hs, .inr hc⟩
  ·exact(hs.2 b (aF (aN (ao e) (I.ok.cab x c hfn hc)))).trans (I.base.keep b o e n hb hx)
  ·obtain⟨sl,e1⟩:=I.base.slot b o e n hb hx
   exact⟨sl,(hs.2 b (aF (aN (ao e) (I.ok.cab x c hfn hc)))).trans e1⟩
  ·obtain⟨o',e1⟩:=I.base.there b o e hx
   exact⟨o',(hs.2 b (aF (aN (ao e) (I.ok.cab x c hfn hc)))).trans e1⟩
  ·by_cases hj:j=i
   ·subst hj
    rw[hi] at e1; cases e1
    rw[dY hiσ] at e2
    cases e2
    exact⟨u,r, .inr ⟨.inl hk,c,hc,hc'⟩⟩
   ·rw[eV (bo hj)] at e2
    obtain⟨u',r',q⟩:=hl j y v' e1 e2 e3
    refine⟨u',r',?_⟩
    rcases q with q | ⟨k,c',e,z'⟩
    ·exact .inl q
    ·refine .inr ⟨k,c',e,z'.sameBut hs ?_⟩
     rintro rfl
     exact hj (jGP hN e1 (I.ok.inj _ _ _ e hc ▸ hi))
  ·by_cases hcc:c'=c
   ·subst hcc; exact⟨_,hc'⟩
   ·obtain⟨w2,z2⟩:=I.cell y c' e
    exact⟨w2,z2.sameBut hs hcc⟩
  ·obtain⟨e,n,ne,nf,d⟩:=I.pin p hp
   refine⟨(hs.2 p.1 ?_).trans e,n,ne,nf,d⟩
   intro q
   rw[q,hoc] at e
   have q':oc=p.2:=aM e
   exact d w' (by rw[<- q']; exact hocd)
theorem jBD {M:Model}{A:Around}{E:Value->Shared->Prop}{i:Nat}{x:Str}{v:V}{u:Value}{Q:Unit->Shared->Prop}(I:Inv X ad σ H s)(hN:X.N.Nodup)(hi:X.N[i]?=some x)(hx:Loc X.env.scope x)(r:RelV v u)
  (h:∀ s',Inv X ad (σ.set i (some v)) H s'->Q () s') (hf:X.fn x=true\/X.env.scope.names.lookup x=some .local:=by first | exact .inl rfl | exact .inr rfl | assumption):wpAny M A (storeName X.env x u) Q E s:=
 jED I hN hi hx r (fun s' I' _=>h s' I') hf
theorem Inv.call' {s':Shared}{ch:List Addr}(I:Inv X ad σ H s)(ho:s'.os=s.os)(u:Un (frs X.stack) ch H H' s.heap s'.heap)(hok:HOk X.prog X.w H' s'.heap)(hg:AllBare s'.gens)
  (hch:∀ b∈ch,(b∈X.ex\/X.s₀.heap.objs.size<=b)/\b≠X.env.locals/\(∀ x c,X.env.cells.lookup x=some c->c≠b)/\∀ p∈X.pn++ad,p.1≠b):Inv X ad σ H' s':=by
 obtain⟨h',g',d',t',o'⟩:=s'
 have e:o'=s.os:=ho
 subst e
 exact I.call (g':=g') (t':=t') (d':=d') u hok hg hch
end
abbrev XK:=Value->Option Addr->Hp->Prop
abbrev St:=List (Option V)
abbrev VK:=V->Hp->Prop
abbrev TE:=St->Hp->VK->Prop
abbrev TT:=St->Hp->(Bool->Hp->Prop)->Prop
abbrev TA:=St->Hp->(List V->Hp->Prop)->Prop
structure Ends where
 nx:St->Hp->Prop
 rt:VK
 bk:St->Hp->Prop:=fun _ _=>False
 ct:St->Hp->Prop:=fun _ _=>False
abbrev TS:=Ends->St->Hp->Prop
def EP (X:Cx)(ad:List (Addr×Obj))(σ:St)(Q:VK)(u:Value)(s':Shared):Prop:=∃ v H',Inv X ad σ H' s'/\RelV v u/\Q v H'
def TP (X:Cx)(ad:List (Addr×Obj))(σ:St)(Q:Bool->Hp->Prop)(b:Bool)(s':Shared):Prop:=∃ H',Inv X ad σ H' s'/\Q b H'
def AP (X:Cx)(ad:List (Addr×Obj))(σ:St)(Q:List V->Hp->Prop)(us:List Value)(s':Shared):Prop:=∃ vs H',Inv X ad σ H' s'/\Vals vs us/\Q vs H'
def SP (X:Cx)(ad:List (Addr×Obj))(D:Ends)(f:Flow)(s':Shared):Prop:=
 match f with
 | .next=>∃ σ' H',Inv X ad σ' H' s'/\D.nx σ' H'
 | .brk=>∃ σ' H',Inv X ad σ' H' s'/\D.bk σ' H'
 | .cont=>∃ σ' H',Inv X ad σ' H' s'/\D.ct σ' H'
 | .ret u=>∃ v σ' H',Inv X ad σ' H' s'/\RelV v u/\D.rt v H'
def PE (X:Cx)(e:Expr)(t:TE):Prop:=
 ∀ (ad:List (Addr×Obj)) (s:Shared) (σ:St) (H:Hp) (Q:VK),Inv X ad σ H s->t σ H Q->wpAny (model X.prog X.w) X.A (eval e X.env) (EP X ad σ Q) X.xe s
def PT (X:Cx)(e:Expr)(t:TT):Prop:=
 ∀ (ad:List (Addr×Obj)) (s:Shared) (σ:St) (H:Hp) (Q:Bool->Hp->Prop),Inv X ad σ H s->t σ H Q->wpAny (model X.prog X.w) X.A (isTrue e X.env (eval e X.env)) (TP X ad σ Q) X.xe s
def PW (X:Cx)(e:Expr)(t:TT):Prop:=
 ∀ (whole:Sem Value) (ad:List (Addr×Obj)) (s:Shared) (σ:St) (H:Hp) (Q:Bool->Hp->Prop),Inv X ad σ H s->t σ H Q->wpAny (model X.prog X.w) X.A (isTrue e X.env whole) (TP X ad σ Q) X.xe s
theorem PW.pt {X:Cx}{e:Expr}{t:TT}(h:PW X e t):PT X e t:=h _
def PA (X:Cx)(es:List Expr)(t:TA):Prop:=
 ∀ (pos:Pos) (ad:List (Addr×Obj)) (s:Shared) (σ:St) (H:Hp) (Q:List V->Hp->Prop),Inv X ad σ H s->t σ H Q->wpAny (model X.prog X.w) X.A (spliced (backTo pos (starEach es X.env))) (AP X ad σ Q) X.xe s
def PS (X:Cx)(st:Stmt)(t:TS):Prop:=
 ∀ (ad:List (Addr×Obj)) (s:Shared) (σ:St) (H:Hp) (D:Ends),Inv X ad σ H s->t D σ H->wpAny (model X.prog X.w) X.A (exec st X.env) (SP X ad D) X.xe s
def PSs (X:Cx)(st:List Stmt)(t:TS):Prop:=
 ∀ (ad:List (Addr×Obj)) (s:Shared) (σ:St) (H:Hp) (D:Ends),Inv X ad σ H s->t D σ H->wpAny (model X.prog X.w) X.A (execs st X.env) (SP X ad D) X.xe s
theorem ir {α:Type}{t:Sem α}{Q Q':α->Shared->Prop}{M:Model}{A:Around}{E:Value->Shared->Prop}{s:Shared}(h:wpAny M A t Q E s)(hQ:∀ a s,Q a s->Q' a s):wpAny M A t Q' E s:=aZ h hQ fun _ _ x=>x
variable {b:Expr}{ta tb:TE}{pos:Pos}
section
def tVar (i:Nat):TE:=fun σ H Q=>∃ v,σ[i]?=some (some v)/\Q v H
def tC (v:V):TE:=fun _ H Q=>Q v H
theorem jGL {i:Nat}{x:Str}{pos:Pos}(hN:X.N[i]?=some x)(hv:Vis X.env.scope x)(hd:(x==("__debug__" :Str))=false:=by decide)(hcd:(x==("__classdict__" :Str))=false:=by decide):PE X (.Name x pos) (tVar i):=by
 intro ad s σ H Q I h
 obtain⟨v,e,h⟩:=h
 obtain⟨m,hn,hl⟩:=I.loc
 obtain⟨u,r,l⟩:=hl i x v hN e hv
 have fin:EP X ad σ Q u s:=⟨v,H,I,r,h⟩
 rcases l with ⟨hk,hm⟩ | ⟨hk,c,hc,hcell⟩
 ·exact wpAny_Name (wpAny_loadName_local I.ok.kind hk hn hm fin) hd
 ·rcases hk with hk | hk
  ·exact wpAny_Name (wpAny_loadName_cell I.ok.kind hk hc hcell fin) hd
  ·exact wpAny_Name (wpAny_loadName_free I.ok.kind hk hc hcell fin hcd) hd
theorem jY {i j pos} :PE X (.Constant (.int i) j pos) (tC (.int i)):=fun _ _ _ H _ I h=>wpAny_Constant_int ⟨.int i,H,I.tok _,⟨_,rfl⟩,h⟩
theorem pe_bl {b j pos} :PE X (.Constant (.bool b) j pos) (tC (.bl b)):=fun _ _ _ H _ I h=>Constant_bool ⟨.bl b,H,I,rfl,h⟩
theorem jR8 {j pos} :PE X (.Constant .none j pos) (tC .non):=fun _ _ _ H _ I h=>Constant_none ⟨.non,H,I,rfl,h⟩
theorem jR5 {x j pos} :PE X (.Constant (.str x) j pos) (tC (.str x)):=fun _ _ _ H _ I h=>Calls.Constant_str ⟨.str x,H,I.tok _,⟨_,rfl⟩,h⟩
def Gl (X:Cx)(x:Str):Prop:=X.env.kindOf x=some .globalImplicit
theorem jBV {E:Value->Shared->Prop}{ad:List (Addr×Obj)}{s:Shared}{σ:St}{H:Hp}{x:Str}{u:Value}{pos:Pos}{Q:Value->Shared->Prop}(I:Inv X ad σ H s)(hg:Gl X x)(hm:X.mg x=some u)(h:Q u s)
  (hd:(x==("__debug__" :Str))=false:=by decide):wpAny (model X.prog X.w) X.A (eval (.Name x pos) X.env) Q E s:=
 ft I.ok.kind hg (Calls.loadGlobal_global (by rw[I.ok.glob]; exact I.mod.glob.keeps I.bk) hm h) hd
theorem jCX {E:Value->Shared->Prop}{ad:List (Addr×Obj)}{s:Shared}{σ:St}{H:Hp}{x:Str}{u:Value}{pos:Pos}{Q:Value->Shared->Prop}(I:Inv X ad σ H s)(hg:Gl X x)(hm:X.mg x=none)(hv:bootBuiltins x=some u)(h:Q u s)
  (hn:x≠ "__name__" :=by decide) (hd:(x==("__debug__" :Str))=false:=by decide):wpAny (model X.prog X.w) X.A (eval (.Name x pos) X.env) Q E s:=by
 obtain⟨mb,h1,h2⟩:=I.mod.blt
 exact ft I.ok.kind hg (Calls.loadGlobal_builtin (by rw[I.ok.glob]; exact I.mod.glob.keeps I.bk) hm (by rw[I.ok.blt]; exact h1.keeps I.bk) ((h2 x hn).trans hv) h) hd
theorem jP3 {x:Str}{v:V}{u:Value}{pos:Pos}(hg:Gl X x)(hm:X.mg x=some u)(r:RelV v u)(hd:(x==("__debug__" :Str))=false:=by decide):PE X (.Name x pos) (tC v):=
 fun _ _ _ H _ I h=>jBV I hg hm ⟨v,H,I,r,h⟩ hd
theorem jP7 {x:Str}{v:V}{u:Value}{pos:Pos}(hg:Gl X x)(hm:X.mg x=none)(hv:bootBuiltins x=some u)(r:RelV v u)(hn:x≠ "__name__" :=by decide)(hd:(x==("__debug__" :Str))=false:=by decide):PE X (.Name x pos) (tC v):=
 fun _ _ _ H _ I h=>jCX I hg hm hv ⟨v,H,I,r,h⟩ hn hd
variable {a:Expr}
def PC (X:Cx)(op:CmpOp)(a b:Expr)(t:TE):Prop:=
 ∀ (ad:List (Addr×Obj)) (s:Shared) (σ:St) (H:Hp) (Q:VK),Inv X ad σ H s->t σ H Q->
  wpAny (model X.prog X.w) X.A (eval a X.env) (fun v s₁=>wpAny (model X.prog X.w) X.A (eval b X.env) (fun u s₂=>wpAny (model X.prog X.w) X.A (compareOp op v u) (EP X ad σ Q) X.xe s₂) X.xe s₁) X.xe s
def tB (t:TE):TT:=fun σ H Q=>t σ H fun x H1=>∃ c,x= .bl c/\Q c H1
theorem jQX {op:CmpOp}{t:TE}(h:PC X op a b t)(h1:behindInMarks op b=false:=by first | exact nobehind _ (by decide) (by decide) | rfl):PT X (.Compare a [op] [b] pos) (tB t):=by
 intro ad s σ H Q I hw
 refine wpAny_isTrue_Compare1 (ir (h ad s σ H _ I hw) fun v s1 h1=>ir h1 fun u s2 h2=>ir h2 fun c s3 ⟨x,H1,I1,r1,q1⟩=>?_) h1
 obtain⟨d,rfl,q⟩:=q1
 cases r1
 exact cf ⟨H1,I1,q⟩
theorem jQV {e:Expr}{t:TE}(h:PE X e t)(he:∀ whole,isTrue e X.env whole=(do let v <- whole; standAt e.pos; holding [v] (truthy v)):=by intro _; rfl):PT X e (tB t):=by
 intro ad s σ H Q I hw
 refine isTrue_plain (ir (h ad s σ H _ I hw) fun v s1 ⟨x,H1,I1,r1,q1⟩=>?_) (he _)
 obtain⟨d,rfl,q⟩:=q1
 cases r1
 exact cf ⟨H1,I1,q⟩
variable {tA tB':TT}{rest:List Expr}
def tAnd (t u:TT):TT:=fun σ H Q=>t σ H fun c H1=>if c=true then u σ H1 Q else Q false H1
def tOr (t u:TT):TT:=fun σ H Q=>t σ H fun c H1=>if c=true then Q true H1 else u σ H1 Q
def tNot (t:TT):TT:=fun σ H Q=>t σ H fun c H1=>Q (!c) H1
theorem jOP (ha:PT X a tA):PW X (.BoolOp .And [a] pos) tA:=by
 intro wh ad s σ H Q I h
 refine isTrue_and (ir (ha ad s σ H Q I h) fun c s1 e=>?_)
 cases c with
 | true=>exact isTrue_and_nil e
 | false=>exact e
theorem jQS (ha:PT X a tA):PW X (.BoolOp .Or [a] pos) tA:=by
 intro wh ad s σ H Q I h
 refine isTrue_or (ir (ha ad s σ H Q I h) fun c s1 e=>?_)
 cases c with
 | false=>exact isTrue_or_nil e
 | true=>exact e
theorem jQT (ha:PT X a tA)(hb:PW X (.BoolOp .And (b::rest) pos) tB'):PW X (.BoolOp .And (a::b::rest) pos) (tAnd tA tB'):=by
 intro wh ad s σ H Q I h
 refine isTrue_and (ir (ha ad s σ H _ I h) fun c s1 ⟨H1,I1,q1⟩=>?_)
 cases c with
 | true=>exact hb wh ad s1 σ H1 Q I1 q1
 | false=>exact⟨H1,I1,q1⟩
theorem pw_or (ha:PT X a tA)(hb:PW X (.BoolOp .Or (b::rest) pos) tB'):PW X (.BoolOp .Or (a::b::rest) pos) (tOr tA tB'):=by
 intro wh ad s σ H Q I h
 refine isTrue_or (ir (ha ad s σ H _ I h) fun c s1 ⟨H1,I1,q1⟩=>?_)
 cases c with
 | true=>exact⟨H1,I1,q1⟩
 | false=>exact hb wh ad s1 σ H1 Q I1 q1
theorem jQW (ha:PT X a tA):PT X (.UnaryOp .Not a pos) (tNot tA):=by
 intro ad s σ H Q I h
 exact isTrue_not (ha ad s σ H (fun c H1=>Q (!c) H1) I h)
def tAndV (ta tb:TE):TE:=fun σ H Q=>ta σ H fun x H1=>∃ c,x= .bl c/\if c=true then tb σ H1 Q else Q (.bl false) H1
def tOrV (ta tb:TE):TE:=fun σ H Q=>ta σ H fun x H1=>∃ c,x= .bl c/\if c=true then Q (.bl true) H1 else tb σ H1 Q
def tNotV (ta:TE):TE:=fun σ H Q=>ta σ H fun x H1=>∃ c,x= .bl c/\Q (.bl (!c)) H1
theorem jR6 {op}{t:TE}(h:PE X a t):PE X (.BoolOp op [a] pos) t:=fun ad s σ H Q I hw=>BoolOp_one (h ad s σ H Q I hw)
theorem jRB (ha:PE X a ta)(hb:PE X (.BoolOp .And (b::rest) pos) tb):PE X (.BoolOp .And (a::b::rest) pos) (tAndV ta tb):=by
 intro ad s σ H Q I h
 refine BoolOp_and (ir (ha ad s σ H _ I h) fun v s1 ⟨x,H1,I1,r1,q1⟩=>?_)
 obtain⟨c,rfl,q1⟩:=q1
 cases r1
 refine cf ?_
 cases c with
 | true=>exact hb ad s1 σ H1 Q I1 q1
 | false=>exact⟨.bl false,H1,I1,rfl,q1⟩
theorem pe_or (ha:PE X a ta)(hb:PE X (.BoolOp .Or (b::rest) pos) tb):PE X (.BoolOp .Or (a::b::rest) pos) (tOrV ta tb):=by
 intro ad s σ H Q I h
 refine BoolOp_or (ir (ha ad s σ H _ I h) fun v s1 ⟨x,H1,I1,r1,q1⟩=>?_)
 obtain⟨c,rfl,q1⟩:=q1
 cases r1
 refine cf ?_
 cases c with
 | false=>exact hb ad s1 σ H1 Q I1 q1
 | true=>exact⟨.bl true,H1,I1,rfl,q1⟩
theorem jR7 (ha:PE X a ta):PE X (.UnaryOp .Not a pos) (tNotV ta):=by
 intro ad s σ H Q I h
 refine UnaryOp_ (ir (ha ad s σ H _ I h) fun v s1 ⟨x,H1,I1,r1,q1⟩=>?_)
 obtain⟨c,rfl,q1⟩:=q1
 cases r1
 exact not_of (cf ⟨.bl (!c),H1,I1,rfl,q1⟩)
def tIf (t:TT)(ta tb:TE):TE:=fun σ H Q=>t σ H fun c H1=>if c=true then ta σ H1 Q else tb σ H1 Q
theorem jLU {c:Expr}(hc:PT X c tA)(ha:PE X a ta)(hb:PE X b tb):PE X (.IfExp c a b pos) (tIf tA ta tb):=by
 intro ad s σ H Q I h
 refine wpAny_IfExp (ir (hc ad s σ H _ I h) fun d s1 ⟨H1,I1,q1⟩=>?_)
 cases d with
 | true=>exact ha ad s1 σ H1 Q I1 q1
 | false=>exact hb ad s1 σ H1 Q I1 q1
end
def SqL (K:W.Frag)(H:Hp)(a:Addr)(xs:List V):Prop:=
 Rd H a (.lst xs)\/
  ∃ (o:Obj) (its:Array Value) (n:Nat),K.lookup a=some o/\o.cls= .type "list" /\o.dict=none/\o.data= .seq its n/\its.size<=sizeLine/\Vals xs its.toList
def SqT (K:W.Frag)(H:Hp)(a:Addr)(xs:List V):Prop:=
 Rd H a (.tup xs)\/
  ∃ (o:Obj) (its:Array Value) (n:Nat),K.lookup a=some o/\o.cls= .type "tuple" /\o.data= .seq its n/\its.size<=sizeLine/\Vals xs its.toList
noncomputable def absV:Value->Option V
 | .none=>some .non
 | .bool b=>some (.bl b)
 | .int i _=>some (.int i)
 | .str x _=>some (.str x)
 | .bytes b _=>some (.byt b)
 | .float b _=>some (.flt b)
 | .ref a=>some (.ref a)
 | .type n=>some (.ty n)
 | _=>none
theorem RelV.abs {x:V}{u:Value}(r:RelV x u):absV u=some x:=by
 cases x with
 | non=>cases r; rfl
 | bl _=>cases r; rfl
 | int _=>obtain⟨t,rfl⟩:=r; rfl
 | str _=>obtain⟨t,rfl⟩:=r; rfl
 | byt _=>obtain⟨t,rfl⟩:=r; rfl
 | flt _=>obtain⟨t,rfl⟩:=r; rfl
 | ref _=>cases r; rfl
 | ty _=>cases r; rfl
theorem RelV.inj {x y:V}{u:Value}(r:RelV x u)(q:RelV y u):x=y:=aM (r.abs.symm.trans q.abs)
theorem Vals.inj:∀ {xs ys:List V}{us:List Value},Vals xs us->Vals ys us->xs=ys
 | _,_,_, .nil, .nil=>rfl
 | _,_,_, .cons r t, .cons r' t'=>by rw[r.inj r',Vals.inj t t']
section
variable {σ:St}{xs ys:List V}
theorem SqL.of {K:W.Frag}(h:H a=some (.lst xs)):SqL K H a xs:= .inl (.inl h)
theorem SqT.of {K:W.Frag}(h:H a=some (.tup xs)):SqT K H a xs:= .inl (.inl h)
theorem Inv.list (I:Inv X ad σ H s)(h:SqL X.K H a xs):∃ its:List Value,Vals xs its/\PlainL s.heap a its.toArray/\xs.length<=sizeLine:=by
 rcases h with h | ⟨o,its,n,hk,hc,hd,hs,hz,r⟩
 ·obtain⟨z,its,n,r,e⟩:=h.ok I.hok
  exact⟨its,r,⟨_,n,e,rfl,rfl,rfl⟩,z⟩
 ·refine⟨its.toList,r,⟨o,n,I.kIn a o hk,hc,hd,by simpa using hs⟩,?_⟩
  have e:=r.length
  simp only [bp] at e
  omega
theorem Inv.tuple (I:Inv X ad σ H s)(h:SqT X.K H a xs):∃ its:List Value,Vals xs its/\IsTup s.heap a its.toArray/\xs.length<=sizeLine:=by
 rcases h with h | ⟨o,its,n,hk,hc,hs,hz,r⟩
 ·obtain⟨z,its,r,p⟩:=h.ok I.hok
  exact⟨its,r,p.isTup,z⟩
 ·refine⟨its.toList,r,⟨o,I.kIn a o hk,hc,n,by simpa using hs⟩,?_⟩
  have e:=r.length
  simp only [bp] at e
  omega
theorem Inv.list_inj (I:Inv X ad σ H s)(h:SqL X.K H a xs)(h':SqL X.K H a ys):xs=ys:=by
 obtain⟨its,r,⟨o,n,e,_,_,d⟩,_⟩:=I.list h
 obtain⟨its',r',⟨o',n',e',_,_,d'⟩,_⟩:=I.list h'
 rw[e] at e'; cases e'
 rw[d] at d'
 injection d' with d1 _
 have:its=its':=by simpa using bO Array.toList d1
 subst this
 exact r.inj r'
theorem Inv.tuple_inj (I:Inv X ad σ H s)(h:SqT X.K H a xs)(h':SqT X.K H a ys):xs=ys:=by
 obtain⟨its,r,⟨o,e,_,n,d⟩,_⟩:=I.tuple h
 obtain⟨its',r',⟨o',e',_,n',d'⟩,_⟩:=I.tuple h'
 rw[e] at e'; cases e'
 rw[d] at d'
 injection d' with d1 _
 have:its=its':=by simpa using bO Array.toList d1
 subst this
 exact r.inj r'
end
abbrev Cx.wish (X:Cx)(E:Value->Shared->Prop):Cx:= { X with xe:=E}
abbrev Cx.nox (X:Cx):Cx:=X.wish fun _ _=>False
theorem Cx.Ok.wish {X:Cx}(ok:X.Ok)(E:Value->Shared->Prop):(X.wish E).Ok:=
 ⟨ok.mod,ok.kind,ok.glob,ok.blt,ok.above,ok.inj,ok.has,ok.cab,ok.hd,ok.frames,ok.stk,ok.exf,ok.bs,ok.bsz,ok.noex,ok.exfs,ok.funs,ok.frf⟩
theorem Cx.Ok.unwish {X:Cx}{E:Value->Shared->Prop}(ok:(X.wish E).Ok):X.Ok:=
 ⟨ok.mod,ok.kind,ok.glob,ok.blt,ok.above,ok.inj,ok.has,ok.cab,ok.hd,ok.frames,ok.stk,ok.exf,ok.bs,ok.bsz,ok.noex,ok.exfs,ok.funs,ok.frf⟩
variable {E:Value->Shared->Prop}
section
variable {σ:St}
theorem Inv.wish (I:Inv X ad σ H s)(E:Value->Shared->Prop):Inv (X.wish E) ad σ H s:=⟨I.ok.wish E,I.os,I.bare,I.base,I.loc,I.cell,I.free,I.freeC,I.pin,I.hok,I.len⟩
theorem Inv.unwish (I:Inv (X.wish E) ad σ H s):Inv X ad σ H s:=⟨I.ok.unwish,I.os,I.bare,I.base,I.loc,I.cell,I.free,I.freeC,I.pin,I.hok,I.len⟩
theorem SP.unwish {D:Ends}{f:Flow}{s':Shared}(h:SP (X.wish E) ad D f s'):SP X ad D f s':=by
 cases f with
 | next=>obtain⟨σ',H',I,q⟩:=h; exact⟨σ',H',I.unwish,q⟩
 | brk=>obtain⟨σ',H',I,q⟩:=h; exact⟨σ',H',I.unwish,q⟩
 | cont=>obtain⟨σ',H',I,q⟩:=h; exact⟨σ',H',I.unwish,q⟩
 | ret u=>obtain⟨v,σ',H',I,r,q⟩:=h; exact⟨v,σ',H',I.unwish,r,q⟩
theorem PT.nox {e:Expr}{t:TT}(h:PT X.nox e t):PT X e t:=fun ad s σ H Q I hw=>
 aZ (h ad s σ H Q (I.wish _) hw) (fun _ _ ⟨H',I',q⟩=>⟨H',I'.unwish,q⟩) fun _ _ z=>False.elim z
theorem PSs.nox {st:List Stmt}{t:TS}(h:PSs X.nox st t):PSs X st t:=fun ad s σ H D I hw=>
 aZ (h ad s σ H D (I.wish _) hw) (fun _ _ q=>q.unwish) fun _ _ z=>False.elim z
end
variable {e:Expr}{te:TE}
section
variable {st:Stmt}{rest:List Stmt}{t u:TS}
def tNext:TS:=fun D σ H=>D.nx σ H
def tSeq (t u:TS):TS:=fun D σ H=>t { D with nx:=u D} σ H
theorem jDT:PSs X [] tNext:=fun _ _ σ H _ I h=>cZ ⟨σ,H,I,h⟩
theorem y8 (h1:PS X st t)(h2:PSs X rest u):PSs X (st::rest) (tSeq t u):=by
 intro ad s σ H D I h
 refine eL (ir (h1 ad s σ H { D with nx:=u D} I h) fun f s1 q=>?_)
 cases f with
 | next=>
  obtain⟨σ',H',I',q⟩:=q
  exact h2 ad s1 σ' H' D I' q
 | ret v=>exact q
 | brk=>exact q
 | cont=>exact q
theorem jAM (h1:PS X st t):PSs X [st] t:=by
 intro ad s σ H D I h
 refine eL (ir (h1 ad s σ H D I h) fun f s1 q=>?_)
 cases f with
 | next=>exact cZ q
 | ret v=>exact q
 | brk=>exact q
 | cont=>exact q
theorem Inv.quiet {ad:List (Addr×Obj)}{σ:St}{H:Hp}{s:Shared}(I:Inv X ad σ H s):interactive X.env=false:=by simp [interactive,I.ok.kind]
def tDrop (te:TE):TS:=fun D σ H=>te σ H fun _ H1=>D.nx σ H1
theorem jOV (he:PE X e te)(hs:swapsWith e none pos.line X.env=pure false:=by rfl):PS X (.Expr e pos) (tDrop te):=by
 intro ad s σ H D I h
 exact wpAny_Expr_any (ir (he ad s σ H _ I h) fun v s1 ⟨x,H1,I1,r1,q1⟩=>⟨σ,H1,I1,q1⟩) I.quiet hs
def tRet (te:TE):TS:=fun D σ H=>te σ H D.rt
theorem jC5 (he:PE X e te):PS X (.Return (some e) pos) (tRet te):=by
 intro ad s σ H D I h
 exact wpAny_Return_some (ir (he ad s σ H _ I h) fun v s1 ⟨x,H1,I1,r1,q1⟩=>⟨x,σ,H1,I1,r1,q1⟩)
def tIfS (c:TT)(t u:TS):TS:=fun D σ H=>c σ H fun b H1=>if b=true then t D σ H1 else u D σ H1
theorem ps_if {c:Expr}{a b:List Stmt}{tc:TT}(hc:PT X c tc)(ha:PSs X a t)(hb:PSs X b u):PS X (.If c a b pos) (tIfS tc t u):=by
 intro ad s σ H D I h
 refine wpAny_If (ir (hc ad s σ H _ I h) fun d s1 ⟨H1,I1,q1⟩=>?_)
 cases d with
 | true=>exact ha ad s1 σ H1 D I1 q1
 | false=>exact hb ad s1 σ H1 D I1 q1
end
abbrev TG:=V->St->Hp->(St->Hp->Prop)->Prop
abbrev TGs:=List V->St->Hp->(St->Hp->Prop)->Prop
def PG (X:Cx)(target:Expr)(t:TG):Prop:=
 ∀ (ad:List (Addr×Obj)) (s:Shared) (σ:St) (H:Hp) (v:V) (u:Value) (Q:St->Hp->Prop),Inv X ad σ H s->RelV v u->t v σ H Q->
  wpAny (model X.prog X.w) X.A (assign target X.env u) (fun _ s'=>∃ σ' H',Inv X ad σ' H' s'/\Q σ' H') X.xe s
def PGs (X:Cx)(ts:List Expr)(t:TGs):Prop:=
 ∀ (ad:List (Addr×Obj)) (s:Shared) (σ:St) (H:Hp) (vs:List V) (us:List Value) (Q:St->Hp->Prop),Inv X ad σ H s->Vals vs us->t vs σ H Q->
  wpAny (model X.prog X.w) X.A (assignInOrder ((assignEach ts X.env).map (·.2)) us) (fun _ s'=>∃ σ' H',Inv X ad σ' H' s'/\Q σ' H') X.xe s
abbrev TSet:=V->V->V->Hp->(Hp->Prop)->Prop
def PSet (X:Cx)(t:TSet):Prop:=
 ∀ (ad:List (Addr×Obj)) (s:Shared) (σ:St) (H:Hp) (o i v:V) (ov iv u:Value) (Q:Hp->Prop),Inv X ad σ H s->RelV o ov->RelV i iv->RelV v u->t o i v H Q->
  wpAny (model X.prog X.w) X.A (setItem ov iv u) (fun _ s'=>∃ H',Inv X ad σ H' s'/\Q H') X.xe s
def kX (i:Nat):TG:=fun v σ H Q=>Q (σ.set i (some v)) H
theorem jDU {i:Nat}{x:Str}(hN:X.N.Nodup)(hi:X.N[i]?=some x)(hx:Loc X.env.scope x)(hf:X.fn x=true\/X.env.scope.names.lookup x=some .local:=by first | exact .inl rfl | exact .inr rfl | assumption):PG X (.Name x pos) (kX i):=by
 intro ad s σ H v u Q I r h
 exact wpAny_assign_Name (jBD I hN hi hx r (fun s' I'=>⟨_,H,I',h⟩) hf)
def gNil:TGs:=fun vs σ H Q=>vs=[]/\Q σ H
def qP (t:TG)(u:TGs):TGs:=fun vs σ H Q=>∃ v r,vs=v::r/\t v σ H fun σ' H'=>u r σ' H' Q
theorem jP2:PGs X [] gNil:=by
 intro ad s σ H vs us Q I r h
 obtain⟨e,h⟩:=h
 subst e
 cases r
 exact assignInOrder_nil ⟨σ,H,I,h⟩
theorem jLQ {e:Expr}{es:List Expr}{t:TG}{u:TGs}(h1:PG X e t)(h2:PGs X es u)
  (hs:(assignEach (e::es) X.env).map (·.2)=assign e X.env::(assignEach es X.env).map (·.2):=by rfl):PGs X (e::es) (qP t u):=by
 intro ad s σ H vs us Q I r h
 obtain⟨v,vr,e1,h⟩:=h
 subst e1
 cases r with
 | cons r rr=>
  rw[hs]
  refine assignInOrder_cons (ir (h1 ad s σ H _ _ _ I r h) fun _ s1 ⟨σ1,H1,I1,q1⟩=>?_)
  exact h2 ad s1 σ1 H1 _ _ Q I1 rr q1
def gTup (K:W.Frag)(n:Nat)(t:TGs):TG:=fun v σ H Q=>∃ a xs,v= .ref a/\SqT K H a xs/\xs.length=n/\t xs σ H Q
theorem jR2 {es:List Expr}{k:Nat}{t:TGs}{n:Nat}(hc:X.calm=true)(h:PGs X es t)
  (hn:(assignEach es X.env).length=n:=by rfl) (hst:(assignEach es X.env).findIdx? (·.1)=none:=by rfl):PG X (.Tuple es k pos) (gTup X.K n t):=by
 intro ad s σ H v u Q I r hw
 obtain⟨a,xs,e1,hq,hl,hw⟩:=hw
 subst e1
 cases r
 obtain⟨its,rv,ht,hz⟩:=I.tuple hq
 refine assign_Tuple_tuple (I.ok.hd hc) ht (by simp [hn,<- hl,rv.length]) hst fun h' hx=>?_
 have I1:Inv X ad σ H { s with heap:=h'} :=I.kept (t':=s.toks) fun b o e=>hx b o (aF (ao e)) e
 exact h ad _ σ H xs _ Q I1 (by simpa using rv) hw
def gSub (to ti:TE)(t:TSet):TG:=fun v σ H Q=>to σ H fun o H1=>ti σ H1 fun i H2=>t o i v H2 fun H3=>Q σ H3
theorem jR3 {o i:Expr}{to ti:TE}{t:TSet}(ho:PE X o to)(hi:PE X i ti)(hs:PSet X t)
  (ha:∀ v,assign (.Subscript o i pos) X.env v=(do
   let ov <- holding [v] (eval o X.env)
   let iv <- holding [v,ov] (eval i X.env)
   standAt pos
   holding [v,ov,iv] (setItem ov iv v)
   release [v,ov,iv] []):=by intro _; rfl):PG X (.Subscript o i pos) (gSub to ti t):=by
 intro ad s σ H v u Q I r h
 rw[ha]
 refine ac (aO (ir (ho ad s σ H _ I h) fun ov s1 ⟨x,H1,I1,r1,q1⟩=>?_))
 refine ac (aO (ir (hi ad s1 σ H1 _ I1 q1) fun iv s2 ⟨y,H2,I2,r2,q2⟩=>?_))
 refine ac (df (ac (aO (ir (hs ad s2 σ H2 x y v ov iv u _ I2 r1 r2 r q2) fun _ s3 ⟨H3,I3,q3⟩=>?_))))
 exact wpAny_release ⟨σ,H3,I3,q3⟩
def tAsg (te:TE)(g:TG):TS:=fun D σ H=>te σ H fun x H1=>g x σ H1 D.nx
theorem jNQ {tg e:Expr}{te:TE}{g:TG}(he:PE X e te)(hg:PG X tg g)(hs:swapsWithSole [tg] e pos.line X.env=pure false:=by rfl)(hw:swappedStores [tg] e X.env=pure none:=by rfl)
  (h1:(assignEach [tg] X.env).map (·.2)=[assign tg X.env]:=by rfl):PS X (.Assign [tg] e pos) (tAsg te g):=by
 intro ad s σ H D I h
 refine wpAny_Assign_stores (ir (he ad s σ H _ I h) fun v s1 ⟨x,H1,I1,r1,q1⟩=>?_) hs hw
 rw[h1]
 exact ir (hg ad s1 σ H1 x v _ I1 r1 q1) fun _ s2 q=>q
theorem qL {i:Nat}{x:Str}{e:Expr}{te:TE}{pos':Pos}(hN:X.N.Nodup)(hi:X.N[i]?=some x)(hx:Loc X.env.scope x)(he:PE X e te)(hs:swapsWith e (some (.Name x pos')) pos.line X.env=pure false:=by rfl)(hf:X.fn x=true\/X.env.scope.names.lookup x=some .local:=by first | exact .inl rfl | exact .inr rfl | assumption):
  PS X (.Assign [.Name x pos'] e pos) (tAsg te (kX i)):=by
 intro ad s σ H D I h
 refine wpAny_Assign_Name (ir (he ad s σ H _ I h) fun v s1 ⟨y,H1,I1,r1,q1⟩=>?_) hs
 exact jBD I1 hN hi hx r1 (fun s2 I2=>⟨_,H1,I2,q1⟩) hf
def jNB (c:TT)(tb:TS):TS:=fun D σ H=>∃ W:Nat->St->Hp->Prop,(∃ m,W m σ H)/\∀ m σ H,W m σ H->
 c σ H fun b H1=>if b=true then ∃ N:St->Hp->Prop,(∀ σ' H',N σ' H'->∃ m',m'<m/\W m' σ' H')/\tb { D with nx:=N,ct:=N,bk:=D.nx} σ H1 else D.nx σ H1
theorem jLK {c:Expr}{body:List Stmt}{tc:TT}{tb:TS}(hp:PassesOwn (model X.prog X.w) X.A X.env X.xe)(hc:PT X c tc)(hb:PSs X body tb):PS X (.While c body [] pos) (jNB tc tb):=by
 intro ad s σ H D I h
 obtain⟨W,⟨m0,w0⟩,turn⟩:=h
 refine wpAny_While (codeAny_whileLoop (fun n s'=>∃ σ' H',Inv X ad σ' H' s'/\W n σ' H') ?_ m0 ⟨σ,H,I,w0⟩)
 rintro n s1 ⟨σ1,H1,I1,w1⟩
 refine cy hp (ir (hc ad s1 σ1 H1 _ I1 (turn n σ1 H1 w1)) fun b s2 ⟨H2,I2,q2⟩=>?_)
 cases b with
 | true=>
  obtain⟨N,hN,q2⟩:=q2
  rw[aB rfl]
  refine cy hp (ir (hb ad s2 σ1 H2 _ I2 q2) fun f s3 q3=>?_)
  cases f with
  | next=>
   obtain⟨σ3,H3,I3,n3⟩:=q3
   obtain⟨m',hm,w3⟩:=hN σ3 H3 n3
   exact⟨m',hm,σ3,H3,I3,w3⟩
  | cont=>
   obtain⟨σ3,H3,I3,n3⟩:=q3
   obtain⟨m',hm,w3⟩:=hN σ3 H3 n3
   exact⟨m',hm,σ3,H3,I3,w3⟩
  | brk=>exact q3
  | ret v=>exact q3
 | false=>
  rw[av au]
  exact cZ ⟨σ1,H2,I2,q2⟩
structure It where
 go:Nat->Hp->Prop
 yld:Nat->Hp->V->Hp->Prop
 stop:Nat->Hp->Prop
def FpOk (X:Cx)(ad:List (Addr×Obj))(H:Hp)(b:Addr):Prop:=
 H b=none/\b≠X.env.locals/\b∉X.fs/\(b∈X.ex\/X.s₀.heap.objs.size<=b)/\(∀ x c,X.env.cells.lookup x=some c->c≠b)/\∀ p∈X.pn++ad,p.1≠b
theorem Inv.fpOk {X:Cx}{ad:List (Addr×Obj)}{σ:St}{H H':Hp}{s:Shared}{b:Addr}(I:Inv X ad σ H s)(hb:s.heap.objs.size<=b)(hn:H' b=none):FpOk X ad H' b:=by
 refine⟨hn,b8 (aN I.lt hb),I.nofs hb, .inr (bF I.sz hb),fun x c e z=>?_,fun p hp z=>?_⟩
 ·obtain⟨v,q⟩:=I.cell x c e
  exact absurd (aN q.lt (by rw[z]; exact hb)) (bG _)
 ·exact absurd (aN (ao (I.pin p hp).1) (by rw[z]; exact hb)) (bG _)
structure Turn (P:Program)(w:World)(K:W.Frag)(tg:Expr)(J:It)(fp:List Addr)(it:Addr)(tn:Nat->Heap->Prop):Prop where
 mem:it∈fp
 obj:∀ i h,tn i h->∀ b∈fp,∃ o,h.get? b=some o/\∀ v,o.data≠ .cell v
 keep:∀ i h h',tn i h->(∀ b∈fp,∀ o,h.get? b=some o->h'.get? b=some o)->tn i h'
 item:∀ (X:Cx),X.prog=P->X.w=w->X.K=K->X.calm=true->∀ (i:Nat) (ad:List (Addr×Obj)) (s:Shared) (σ:St) (H:Hp) (E:Value->Shared->Prop),Inv X ad σ H s->(∀ b∈fp,FpOk X ad H b)->tn i s.heap->J.go i H->
  wpAny (model P w) X.A (pyNext (.ref it)) (fun r s1=>∃ u,r=some u/\
   wpAny (model P w) X.A (letOwnedTupleGo tg (.ref it) u) (fun _ s2=>∃ x H',Inv X ad σ H' s2/\RelV x u/\J.yld i H x H'/\tn (i+1) s2.heap/\∀ b∈fp,H' b=none) E s1) E s
 done:∀ (X:Cx),X.prog=P->X.w=w->X.K=K->X.calm=true->∀ (i:Nat) (ad:List (Addr×Obj)) (s:Shared) (σ:St) (H:Hp) (E:Value->Shared->Prop),Inv X ad σ H s->(∀ b∈fp,FpOk X ad H b)->tn i s.heap->J.stop i H->
  wpAny (model P w) X.A (pyNext (.ref it)) (fun r s1=>r=none/\Inv X ad σ H s1) E s
 self:∀ (A:Around) (i:Nat) (s:Shared) (Q:Value->Shared->Prop) (E:Value->Shared->Prop),tn i s.heap->Q (.ref it) s->wpAny (model P w) A (pyIter (.ref it)) Q E s
abbrev TI:=St->Hp->(It->Hp->Prop)->Prop
def PIE (X:Cx)(ad:List (Addr×Obj))(σ:St)(tg:Expr)(R:It->Hp->Prop)(itv:Value)(s2:Shared):Prop:=
 ∃ (it:Addr) (fp:List Addr) (tn:Nat->Heap->Prop) (J:It) (H':Hp),itv= .ref it/\Inv X ad σ H' s2/\Turn X.prog X.w X.K tg J fp it tn/\tn 0 s2.heap/\(∀ b∈fp,FpOk X ad H' b)/\R J H'
def PI (X:Cx)(tg iter:Expr)(wi:TI):Prop:=
 ∀ (ad:List (Addr×Obj)) (s:Shared) (σ:St) (H:Hp) (R:It->Hp->Prop),Inv X ad σ H s->wi σ H R->
  wpAny (model X.prog X.w) X.A (eval iter X.env) (fun v s1=>wpAny (model X.prog X.w) X.A (pyIter v) (PIE X ad σ tg R) X.xe s1) X.xe s
theorem go_of {M:Model}{A:Around}{E:Value->Shared->Prop}{s:Shared}{tg:Expr}{it:Addr}{u:Value}{o:Obj}{n:String}{vs:Array Value}{Q:Unit->Shared->Prop}(ho:s.heap.get? it=some o)(hc:o.cls= .type n)(hd:o.data= .fields vs)
  (hn: ["enumerate","zip","dict_itemiterator","dict_reverseitemiterator","odict_iterator","itertools.zip_longest","itertools.pairwise"].contains n=false) (hQ:Q () s):wpAny M A (letOwnedTupleGo tg (.ref it) u) Q E s:=by
 unfold letOwnedTupleGo
 cases tg <;> first
  | exact af hQ
  | (cases u <;> first
    | exact af hQ
    | (refine ac (gu ho ?_)
       rw [hc, hd]
       show wpAny M A (if (["enumerate", "zip", "dict_itemiterator", "dict_reverseitemiterator", "odict_iterator", "itertools.zip_longest", "itertools.pairwise"].contains n && vs[0]? == some (rawInt _)) = true then _ else _) Q E s
       rw [av (by intro h; rw [hn, cN] at h; cases h)]
       exact af hQ))
def Itl (K:W.Frag)(a:Addr):It:=
 ⟨fun i H=>∃ xs x,SqL K H a xs/\xs[i]?=some x,fun i H x H'=>H'=H/\∀ xs,SqL K H a xs->xs[i]?=some x,fun i H=>∃ xs,SqL K H a xs/\xs.length<=i⟩
def Itt (K:W.Frag)(a:Addr):It:=
 ⟨fun i H=>∃ xs x,SqT K H a xs/\xs[i]?=some x,fun i H x H'=>H'=H/\∀ xs,SqT K H a xs->xs[i]?=some x,fun i H=>∃ xs,SqT K H a xs/\xs.length<=i⟩
def Itr (lo:Int)(n:Nat):It:=⟨fun i _=>i<n,fun i H x H'=>H'=H/\x= .int (lo+i),fun i _=>n<=i⟩
theorem jIF {P:Program}{w:World}{K:W.Frag}{tg:Expr}(a it:Addr):Turn P w K tg (Itl K a) [it] it (fun i h=>h.IsListIter it a i) where
 mem:=by simp
 obj:=fun i h st b hb=>by
  have e:b=it:=by simpa using hb
  subst e
  obtain⟨o,e,c,d⟩:=st
  exact⟨o,e,fun v z=>by rw[d] at z; cases z⟩
 keep:=fun i h h' st k=>st.at fun o e=>k it (by simp) o e
 item:=by
  intro X hP hw hK hc i ad s σ H E I hf st hg
  subst hP hw hK
  obtain⟨xs,x,hq,hx⟩:=hg
  obtain⟨its,rv,p,hz⟩:=I.list hq
  obtain⟨u,hu,ru⟩:=rv.get hx
  obtain⟨f0,f1,f2,f3,f4,f5⟩:=hf it (by simp)
  refine wpAny_pyNext_list_item st p.isList (x:=u) (by simpa using hu) fun h' st' sb=>?_
  have I1:Inv X ad σ H { s with heap:=h'} :=I.turned (t':=s.toks) (fun b o hb e=>(sb.2 b hb).trans e) f0 f1 f3 f4 f5
  obtain⟨o,e,c,d⟩:=id st'
  exact⟨u,rfl,go_of (s:= { s with heap:=h'}) e c d (by decide) ⟨x,H,I1,ru,⟨rfl,fun ys hy=>by rw[I.list_inj hy hq]; exact hx⟩,st',fun b hb=>(hf b hb).1⟩⟩
 done:=by
  intro X hP hw hK hc i ad s σ H E I hf st hg
  subst hP hw hK
  obtain⟨xs,hq,hx⟩:=hg
  obtain⟨its,rv,p,hz⟩:=I.list hq
  obtain⟨f0,f1,f2,f3,f4,f5⟩:=hf it (by simp)
  have hl:=rv.length
  exact wpAny_pyNext_list_end (I.ok.hd hc) st p.isList (by simp; omega) fun h' eb=>⟨rfl,I.turned (t':=s.toks) (fun b o hb e=>eb b o hb e) f0 f1 f3 f4 f5⟩
 self:=fun _ _ _ _ _ st h=>wpAny_pyIter_listiter st h
theorem jHI {P:Program}{w:World}{K:W.Frag}{tg:Expr}(a it:Addr):Turn P w K tg (Itt K a) [it] it (fun i h=>h.IsTupleIter it a i) where
 mem:=by simp
 obj:=fun i h st b hb=>by
  have e:b=it:=by simpa using hb
  subst e
  obtain⟨o,e,c,d⟩:=st
  exact⟨o,e,fun v z=>by rw[d] at z; cases z⟩
 keep:=fun i h h' st k=>st.at fun o e=>k it (by simp) o e
 item:=by
  intro X hP hw hK hc i ad s σ H E I hf st hg
  subst hP hw hK
  obtain⟨xs,x,hq,hx⟩:=hg
  obtain⟨its,rv,p,hz⟩:=I.tuple hq
  obtain⟨u,hu,ru⟩:=rv.get hx
  obtain⟨f0,f1,f2,f3,f4,f5⟩:=hf it (by simp)
  refine wpAny_pyNext_tuple_item st (show s.heap.IsTuple a its.toArray from p) (x:=u) (by simpa using hu) fun h' st' sb=>?_
  have I1:Inv X ad σ H { s with heap:=h'} :=I.turned (t':=s.toks) (fun b o hb e=>(sb.2 b hb).trans e) f0 f1 f3 f4 f5
  obtain⟨o,e,c,d⟩:=id st'
  exact⟨u,rfl,go_of (s:= { s with heap:=h'}) e c d (by decide) ⟨x,H,I1,ru,⟨rfl,fun ys hy=>by rw[I.tuple_inj hy hq]; exact hx⟩,st',fun b hb=>(hf b hb).1⟩⟩
 done:=by
  intro X hP hw hK hc i ad s σ H E I hf st hg
  subst hP hw hK
  obtain⟨xs,hq,hx⟩:=hg
  obtain⟨its,rv,p,hz⟩:=I.tuple hq
  obtain⟨f0,f1,f2,f3,f4,f5⟩:=hf it (by simp)
  have hl:=rv.length
  exact wpAny_pyNext_tuple_end (I.ok.hd hc) st (show s.heap.IsTuple a its.toArray from p) (by simp; omega) fun h' eb=>⟨rfl,I.turned (t':=s.toks) (fun b o hb e=>eb b o hb e) f0 f1 f3 f4 f5⟩
 self:=fun _ _ _ _ _ st h=>wpAny_pyIter_tupleiter st h
theorem jHJ {P:Program}{w:World}{K:W.Frag}{tg:Expr}(it:Addr)(lo:Int)(n:Nat):Turn P w K tg (Itr lo n) [it] it (fun i h=>IsRangeIter h it (lo+(i:Nat)*1) ((n:Int) - (i:Nat)) 1) where
 mem:=by simp
 obj:=fun i h st b hb=>by
  have e:b=it:=by simpa using hb
  subst e
  exact⟨_,st,fun v z=>by
   have z':Data.fields _=Data.cell v:=z
   cases z'⟩
 keep:=fun i h h' st k=>k it (by simp) _ st
 item:=by
  intro X hP hw hK hc i ad s σ H E I hf st hg
  subst hP hw hK
  obtain⟨f0,f1,f2,f3,f4,f5⟩:=hf it (by simp)
  have W:=Walks.range (prog:=X.prog) (w:=X.w) (I.ok.hd hc) it lo 1 n
  refine W.item i s _ _ hg st fun v h' tk hv st' kk=>?_
  obtain⟨t,rfl⟩:=hv
  have I1:Inv X ad σ H { s with heap:=h',toks:=tk} :=I.turned (fun b o hb e=>kk b o (by simpa using hb) e) f0 f1 f3 f4 f5
  refine⟨_,rfl,go_of (s:= { s with heap:=h',toks:=tk}) (n:= "range_iterator") st' rfl rfl (by decide) ⟨.int (lo+i),H,I1,⟨t,?_⟩,⟨rfl,rfl⟩,st',fun b hb=>(hf b hb).1⟩⟩
  rw[Int.mul_one]
 done:=by
  intro X hP hw hK hc i ad s σ H E I hf st hg
  subst hP hw hK
  obtain⟨f0,f1,f2,f3,f4,f5⟩:=hf it (by simp)
  exact wpAny_pyNext_range_end (I.ok.hd hc) st (by have:n<=i:=hg; omega) fun h' eb=>⟨rfl,I.turned (t':=s.toks) (fun b o hb e=>eb b o hb e) f0 f1 f3 f4 f5⟩
 self:=fun _ _ _ _ _ st h=>wpAny_pyIter_rangeiter st h
section
variable {tg:Expr}
def iList (K:W.Frag)(tl:TE):TI:=fun σ H R=>tl σ H fun x H1=>∃ a,x= .ref a/\(∃ xs,SqL K H1 a xs)/\R (Itl K a) H1
def iTup (K:W.Frag)(tl:TE):TI:=fun σ H R=>tl σ H fun x H1=>∃ a,x= .ref a/\(∃ xs,SqT K H1 a xs)/\R (Itt K a) H1
theorem jP0 {l:Expr}{tl:TE}(hl:PE X l tl):PI X tg l (iList X.K tl):=by
 intro ad s σ H R I h
 refine ir (hl ad s σ H _ I h) fun v s1 ⟨x,H1,I1,r1,q1⟩=>?_
 obtain⟨a,e,⟨xs,hq⟩,q⟩:=q1
 subst e
 cases r1
 obtain⟨its,rv,p,hz⟩:=I1.list hq
 refine cg p.isList ?_
 refine⟨s1.heap.objs.size,[s1.heap.objs.size],_,_,H1,rfl,I1.kept (t':=s1.toks) fun b o e=>ae _ e,jIF a _,⟨_,ak _ rfl,rfl,rfl⟩,fun b hb=>?_,q⟩
 have e:b=s1.heap.objs.size:=by simpa using hb
 subst e
 exact I1.fpOk (aq _) (I1.hok.fresh (aq _))
theorem jR1 {l:Expr}{tl:TE}(hl:PE X l tl):PI X tg l (iTup X.K tl):=by
 intro ad s σ H R I h
 refine ir (hl ad s σ H _ I h) fun v s1 ⟨x,H1,I1,r1,q1⟩=>?_
 obtain⟨a,e,⟨xs,hq⟩,q⟩:=q1
 subst e
 cases r1
 obtain⟨its,rv,p,hz⟩:=I1.tuple hq
 refine wpAny_pyIter_tuple (show s1.heap.IsTuple a its.toArray from p) ?_
 refine⟨s1.heap.objs.size,[s1.heap.objs.size],_,_,H1,rfl,I1.kept (t':=s1.toks) fun b o e=>ae _ e,jHI a _,⟨_,ak _ rfl,rfl,rfl⟩,fun b hb=>?_,q⟩
 have e:b=s1.heap.objs.size:=by simpa using hb
 subst e
 exact I1.fpOk (aq _) (I1.hok.fresh (aq _))
theorem jGH {ad:List (Addr×Obj)}{σ:St}{H:Hp}{s:Shared}{R:It->Hp->Prop}{E:Value->Shared->Prop}{lo hi:Int}{t u v:Tok}{tk:Nat}(I:Inv X ad σ H s)(h1: -(2 ^ 62)<=lo)(h2:lo<2 ^ 62)(h3: -(2 ^ 62)<=hi)(h4:hi<2 ^ 62)
  (q:R (Itr lo (hi - lo).toNat) H):wpAny (model X.prog X.w) X.A (pyIter (.ref s.heap.objs.size)) (PIE X ad σ tg R) E { s with heap:=s.heap.push { cls:= .type "range",data:= .fields #[.int lo t, .int hi u, .int 1 v]},toks:=tk} :=by
 refine wpAny_pyIter_range (IsRange.new ..) (small_one h1 h2 h3 h4) ?_
 have I1:Inv X ad σ H { s with heap:=s.heap.push { cls:= .type "range",data:= .fields #[.int lo t, .int hi u, .int 1 v]},toks:=tk} :=I.kept fun b o e=>ae _ e
 refine⟨(s.heap.push { cls:= .type "range",data:= .fields #[.int lo t, .int hi u, .int 1 v]}).objs.size,[(s.heap.push { cls:= .type "range",data:= .fields #[.int lo t, .int hi u, .int 1 v]}).objs.size],_,_,H,rfl,
  I1.kept (t':=tk) fun b o e=>ae _ e,jHJ _ lo (hi - lo).toNat,?_,fun b hb=>?_,q⟩
 ·have e1:lo+((0:Nat):Int)*1=lo:=by simp
  have e2:(((hi - lo).toNat:Nat):Int) - ((0:Nat):Int)=Builtin.Range.rangeSize lo hi 1:=by rw[rangeSize_one]; split <;> omega
  show IsRangeIter _ _ (lo+((0:Nat):Int)*1) ((((hi - lo).toNat:Nat):Int) - ((0:Nat):Int)) 1
  rw[e1,e2]
  exact ak _ rfl
 ·have e:b=(s.heap.push { cls:= .type "range",data:= .fields #[.int lo t, .int hi u, .int 1 v]}).objs.size:=by simpa using hb
  subst e
  exact I1.fpOk (aq _) (I1.hok.fresh (aq _))
def iRng1 (ta:TA):TI:=fun σ H R=>ta σ H fun vs H1=>∃ j:Int,vs=[.int j]/\ -(2 ^ 62)<=j/\j<2 ^ 62/\R (Itr 0 j.toNat) H1
def iRng2 (ta:TA):TI:=fun σ H R=>ta σ H fun vs H1=>∃ i j:Int,vs=[.int i, .int j]/\(-(2 ^ 62)<=i/\i<2 ^ 62/\ -(2 ^ 62)<=j/\j<2 ^ 62)/\R (Itr i (j - i).toNat) H1
theorem jBH {a:Expr}{ta:TA}{p pos:Pos}(hg:Gl X "range")(hm:X.mg "range" =none)(ha:PA X [a] ta)(hs:starEach [a] X.env=[(false,eval a X.env)]:=by rfl):PI X tg (.Call (.Name "range" p) [a] [] pos) (iRng1 ta):=by
 intro ad s σ H R I h
 refine Call_ (jCX I hg hm boot_range (bN (ir (ha pos ad s σ H _ I h) fun us s1 ⟨vs,H1,I1,r1,q1⟩=>?_) hs rfl))
 obtain⟨j,e,q1,q2,q⟩:=q1
 subst e
 cases r1 with
 | cons r rr=>
  cases rr
  obtain⟨t,rfl⟩:=r
  exact call_range_1 (jGH I1 (by omega) (by omega) q1 q2 (by simpa using q))
theorem jJC {a b:Expr}{ta:TA}{p pos:Pos}(hg:Gl X "range")(hm:X.mg "range" =none)(ha:PA X [a,b] ta)(hs:starEach [a,b] X.env=[(false,eval a X.env),(false,eval b X.env)]:=by rfl)(hs2:starEach [b] X.env=[(false,eval b X.env)]:=by rfl):
  PI X tg (.Call (.Name "range" p) [a,b] [] pos) (iRng2 ta):=by
 intro ad s σ H R I h
 refine Call_ (jCX I hg hm boot_range (bN (ir (ha pos ad s σ H _ I h) fun us s1 ⟨vs,H1,I1,r1,q1⟩=>?_) (by rw[hs,hs2]) (by rw[hs2]; rfl)))
 obtain⟨i,j,e,⟨q1,q2,q3,q4⟩,q⟩:=q1
 subst e
 cases r1 with
 | cons r rr=>
  cases rr with
  | cons r' rr=>
   cases rr
   obtain⟨t,rfl⟩:=r
   obtain⟨t',rfl⟩:=r'
   exact call_range_2 (jGH I1 q1 q2 q3 q4 q)
def tFor (wi:TI)(g:TG)(tb:TS):TS:=fun D σ H=>wi σ H fun J H1=>∃ W:Nat->Nat->St->Hp->Prop,(∃ m,W 0 m σ H1)/\∀ i m σ H,W i m σ H->
 (J.stop i H/\D.nx σ H)\/(J.go i H/\∃ N:St->Hp->Prop,(∀ σ' H',N σ' H'->∃ m',m'<m/\W (i+1) m' σ' H')/\∀ x H',J.yld i H x H'->g x σ H' fun σ2 H2=>tb { D with nx:=N,ct:=N,bk:=D.nx} σ2 H2)
def jEI (fp:List Addr)(h:Heap):List (Addr×Obj):=fp.filterMap fun b=>(h.get? b).map fun o=>(b,o)
theorem jAZ {fp:List Addr}{h:Heap}{b:Addr}{o:Obj}(hb:b∈fp)(e:h.get? b=some o):(b,o)∈jEI fp h:=g6.mpr ⟨b,hb,by rw[e]; rfl⟩
theorem jJR {fp:List Addr}{h:Heap}{p:Addr×Obj}(hp:p∈jEI fp h):p.1∈fp/\h.get? p.1=some p.2:=by
 obtain⟨b,hb,e⟩:=g6.mp hp
 cases q:h.get? b with
 | none=>rw[q] at e; cases e
 | some o=>
  rw[q] at e
  have e':(b,o)=p:=aM e
  subst e'
  exact⟨hb,q⟩
theorem Inv.pinned {ad:List (Addr×Obj)}{σ:St}{H:Hp}{s:Shared}{fp:List Addr}(I:Inv X ad σ H s)(hf:∀ b∈fp,FpOk X ad H b)(ho:∀ b∈fp,∃ o,s.heap.get? b=some o/\∀ v,o.data≠ .cell v):Inv X (ad++jEI fp s.heap) σ H s:=
 I.pins_of fun p hp=>(bq.mp hp).elim (fun z=>I.pin p (bh _ z)) fun z=>by
  obtain⟨hb,e⟩:=jJR z
  obtain⟨f0,f1,f2,_⟩:=hf p.1 hb
  obtain⟨o,e',d⟩:=ho p.1 hb
  rw[e] at e'; cases e'
  exact⟨e,f0,f1,f2,d⟩
theorem Inv.unpinned {ad pl:List (Addr×Obj)}{σ:St}{H:Hp}{s:Shared}(I:Inv X (ad++pl) σ H s):Inv X ad σ H s:=I.pins_of fun p hp=>I.pin p (bh _ (eU _ hp))
theorem jNP {iter:Expr}{body:List Stmt}{wi:TI}{g:TG}{tb:TS}{pos:Pos}(hp:PassesOwn (model X.prog X.w) X.A X.env X.xe)(hc:X.calm=true)(hi:PI X tg iter wi)(hg:PG X tg g)(hb:PSs X body tb)
  (hs:∀ x,foldedSetIterable iter X.env x=pure x:=by intro _; rfl):PS X (.For tg iter body [] pos) (tFor wi g tb):=by
 intro ad s σ H D I h
 refine wpAny_For (ir (hi ad s σ H _ I h) fun v s1 h1=>ir h1 fun itv s2 h2=>?_) hs
 obtain⟨it,fp,tn,J,H2,e,I2,T,st2,f2,W,⟨m0,w0⟩,turn⟩:=h2
 subst e
 have stat:∀ {H':Hp},(∀ b∈fp,H' b=none)->∀ b∈fp,FpOk X ad H' b:=fun hn b hb=>⟨hn b hb,(f2 b hb).2⟩
 refine codeAny_forLoop_any (fun n s'=>∃ i σ' H',Inv X ad σ' H' s'/\tn i s'.heap/\(∀ b∈fp,H' b=none)/\W i n σ' H') ?_ m0 ⟨0,σ,H2,I2,st2,fun b hb=>(f2 b hb).1,w0⟩
 rintro n s3 ⟨i,σ3,H3,I3,st3,fr3,w3⟩
 rcases turn i n σ3 H3 w3 with ⟨stop,qn⟩ | ⟨go,N,hN,step⟩
 ·refine cy hp (ir (T.done X rfl rfl rfl hc i ad s3 σ3 H3 X.xe I3 (stat fr3) st3 stop) fun r s4 ⟨hr,I4⟩=>?_)
  subst hr
  exact cZ ⟨σ3,H3,I4,qn⟩
 ·refine cy hp (ir (T.item X rfl rfl rfl hc i ad s3 σ3 H3 X.xe I3 (stat fr3) st3 go) fun r s4 ⟨u,hr,h4⟩=>?_)
  subst hr
  refine cy hp (ir h4 fun _ s5 ⟨x,H5,I5,r5,y5,st5,fr5⟩=>?_)
  have I5':=I5.pinned (stat fr5) (T.obj _ _ st5)
  refine cy hp (ir (hg _ s5 σ3 H5 x u _ I5' r5 (step x H5 y5)) fun _ s6 ⟨σ6,H6,I6,q6⟩=>?_)
  refine cy hp (ir (hb _ s6 σ6 H6 _ I6 q6) fun f s7 q7=>?_)
  have again:∀ {σ7:St}{H7:Hp},Inv X (ad++jEI fp s5.heap) σ7 H7 s7->N σ7 H7->∃ m,m<n/\∃ i σ' H',Inv X ad σ' H' s7/\tn i s7.heap/\(∀ b∈fp,H' b=none)/\W i m σ' H':=fun {σ7 H7} I7 n7=>by
   obtain⟨m',hm,w7⟩:=hN σ7 H7 n7
   refine⟨m',hm,i+1,σ7,H7,I7.unpinned,T.keep _ _ _ st5 fun b hb o e=>(I7.pin (b,o) (bh _ (bh _ (jAZ hb e)))).1,fun b hb=>?_,w7⟩
   obtain⟨o,e,d⟩:=T.obj _ _ st5 b hb
   exact(I7.pin (b,o) (bh _ (bh _ (jAZ hb e)))).2.1
  cases f with
  | next=>obtain⟨σ7,H7,I7,n7⟩:=q7; exact again I7 n7
  | cont=>obtain⟨σ7,H7,I7,n7⟩:=q7; exact again I7 n7
  | brk=>obtain⟨σ7,H7,I7,q7⟩:=q7; exact⟨σ7,H7,I7.unpinned,q7⟩
  | ret v=>obtain⟨x7,σ7,H7,I7,r7,q7⟩:=q7; exact⟨x7,σ7,H7,I7.unpinned,r7,q7⟩
end
theorem jD4 {lo:Int}{n:Nat}{g:TG}{tb:TS}{D:Ends}{σ:St}{H:Hp}(Pv:Nat->St->Hp->Prop)(h0:Pv 0 σ H)
  (hs:∀ i σ H,i<n->Pv i σ H->g (.int (lo+i)) σ H fun σ2 H2=>tb { D with nx:=Pv (i+1),ct:=Pv (i+1),bk:=D.nx} σ2 H2) (hd:∀ σ H,Pv n σ H->D.nx σ H):
  ∃ W:Nat->Nat->St->Hp->Prop,(∃ m,W 0 m σ H)/\∀ i m σ H,W i m σ H->
   ((Itr lo n).stop i H/\D.nx σ H)\/((Itr lo n).go i H/\∃ N:St->Hp->Prop,(∀ σ' H',N σ' H'->∃ m',m'<m/\W (i+1) m' σ' H')/\∀ x H',(Itr lo n).yld i H x H'->g x σ H' fun σ2 H2=>tb { D with nx:=N,ct:=N,bk:=D.nx} σ2 H2):=by
 refine⟨fun i m σ H=>m=n - i/\i<=n/\Pv i σ H,⟨n,by simp,bi _,h0⟩,?_⟩
 rintro i m σ H ⟨rfl,hi,p⟩
 by_cases hlt:i<n
 ·refine .inr ⟨hlt,Pv (i+1),fun σ' H' p'=>⟨n - (i+1),by omega,rfl,hlt,p'⟩,fun x H' y=>?_⟩
  obtain⟨e,y⟩:=y
  subst e y
  exact hs i σ _ hlt p
 ·have e:i=n:=by omega
  subst e
  exact .inl ⟨aq _,hd σ H p⟩
abbrev R2:=V->V->Hp->VK->Prop
def OpR (X:Cx)(f:Value->Value->Sem Value)(r:R2):Prop:=
 ∀ (ad:List (Addr×Obj)) (s:Shared) (σ:St) (H:Hp) (x y:V) (v u:Value) (Q:VK),Inv X ad σ H s->RelV x v->RelV y u->r x y H Q->
  wpAny (model X.prog X.w) X.A (f v u) (EP X ad σ Q) X.xe s
def UnR (X:Cx)(f:Value->Sem Value)(r:V->Hp->VK->Prop):Prop:=
 ∀ (ad:List (Addr×Obj)) (s:Shared) (σ:St) (H:Hp) (x:V) (v:Value) (Q:VK),Inv X ad σ H s->RelV x v->r x H Q->
  wpAny (model X.prog X.w) X.A (f v) (EP X ad σ Q) X.xe s
def yR (X:Cx)(f:Value)(r:List V->Hp->VK->Prop):Prop:=
 ∀ (ad:List (Addr×Obj)) (s:Shared) (σ:St) (H:Hp) (xs:List V) (us:List Value) (Q:VK),Inv X ad σ H s->Vals xs us->r xs H Q->
  wpAny (model X.prog X.w) X.A (call f us) (EP X ad σ Q) X.xe s
def tOp (r:R2)(ta tb:TE):TE:=fun σ H Q=>ta σ H fun x H1=>tb σ H1 fun y H2=>r x y H2 Q
def tUn (r:V->Hp->VK->Prop)(ta:TE):TE:=fun σ H Q=>ta σ H fun x H1=>r x H1 Q
def rI (C:Int->Int->Prop)(g:Int->Int->V):R2:=fun x y H Q=>∃ i j,x= .int i/\y= .int j/\C i j/\Q (g i j) H
def rI0 (g:Int->Int->V):R2:=fun x y H Q=>∃ i j,x= .int i/\y= .int j/\Q (g i j) H
def rU (g:Int->V):V->Hp->VK->Prop:=fun x H Q=>∃ i,x= .int i/\Q (g i) H
variable {c:Expr}{tc:TE}
section
variable {a:Expr}
theorem binT (ha:PE X a ta)(hb:PE X b tb){ad:List (Addr×Obj)}{s:Shared}{σ:St}{H:Hp}{R:V->V->Hp->Prop}(I:Inv X ad σ H s)
  (h:ta σ H fun x H1=>tb σ H1 fun y H2=>R x y H2) {Q:Value->Shared->Prop}{f:Value->Value->Sem Value}
  (hf:∀ v u s2 x y H2,Inv X ad σ H2 s2->RelV x v->RelV y u->R x y H2->wpAny (model X.prog X.w) X.A (f v u) Q X.xe s2):
  wpAny (model X.prog X.w) X.A (eval a X.env) (fun v s₁=>wpAny (model X.prog X.w) X.A (eval b X.env) (fun u s₂=>wpAny (model X.prog X.w) X.A (f v u) Q X.xe s₂) X.xe s₁) X.xe s:=by
 refine ir (ha ad s σ H _ I h) fun v s1 ⟨x,H1,I1,r1,q1⟩=>?_
 refine ir (hb ad s1 σ H1 _ I1 q1) fun u s2 ⟨y,H2,I2,r2,q2⟩=>?_
 exact hf v u s2 x y H2 I2 r1 r2 q2
theorem y9 {op:Operator}{r:R2}(ho:OpR X (binaryOp op) r)(ha:PE X a ta)(hb:PE X b tb):PE X (.BinOp a op b pos) (tOp r ta tb):=by
 intro ad s σ H Q I h
 exact wpAny_BinOp (binT ha hb I h fun v u s2 x y H2 I2 rx ry q=>ho ad s2 σ H2 x y v u Q I2 rx ry q)
theorem pe_un {op:UnaryOp}{r:V->Hp->VK->Prop}(ho:UnR X (unaryOp op) r)(ha:PE X a ta):PE X (.UnaryOp op a pos) (tUn r ta):=by
 intro ad s σ H Q I h
 exact UnaryOp_ (ir (ha ad s σ H _ I h) fun v s1 ⟨x,H1,I1,r1,q1⟩=>ho ad s1 σ H1 x v Q I1 r1 q1)
theorem opI {f:Value->Value->Sem Value}{C:Int->Int->Prop}{g:Int->Int->Int}
  (rule:∀ (i j:Int) (t u:Tok) (s:Shared) (Q:Value->Shared->Prop) (E:Value->Shared->Prop),C i j->Q (.int (g i j) s.toks) { s with toks:=s.toks+1} ->wpAny (model X.prog X.w) X.A (f (.int i t) (.int j u)) Q E s):
  OpR X f (rI C fun i j=> .int (g i j)):=by
 intro ad s σ H x y v u Q I rx ry h
 obtain⟨i,j,rfl,rfl,hc,q⟩:=h
 obtain⟨t,rfl⟩:=rx
 obtain⟨t',rfl⟩:=ry
 exact rule i j t t' s _ _ hc ⟨.int (g i j),H,I.tok _,⟨_,rfl⟩,q⟩
theorem opI0 {f:Value->Value->Sem Value}{g:Int->Int->Int}
  (rule:∀ (i j:Int) (t u:Tok) (s:Shared) (Q:Value->Shared->Prop) (E:Value->Shared->Prop),Q (.int (g i j) s.toks) { s with toks:=s.toks+1} ->wpAny (model X.prog X.w) X.A (f (.int i t) (.int j u)) Q E s):
  OpR X f (rI0 fun i j=> .int (g i j)):=by
 intro ad s σ H x y v u Q I rx ry h
 obtain⟨i,j,rfl,rfl,q⟩:=h
 obtain⟨t,rfl⟩:=rx
 obtain⟨t',rfl⟩:=ry
 exact rule i j t t' s _ _ ⟨.int (g i j),H,I.tok _,⟨_,rfl⟩,q⟩
theorem opB0 {f:Value->Value->Sem Value}{g:Int->Int->Bool}
  (rule:∀ (i j:Int) (t u:Tok) (s:Shared) (Q:Value->Shared->Prop) (E:Value->Shared->Prop),Q (.bool (g i j)) s->wpAny (model X.prog X.w) X.A (f (.int i t) (.int j u)) Q E s):
  OpR X f (rI0 fun i j=> .bl (g i j)):=by
 intro ad s σ H x y v u Q I rx ry h
 obtain⟨i,j,rfl,rfl,q⟩:=h
 obtain⟨t,rfl⟩:=rx
 obtain⟨t',rfl⟩:=ry
 exact rule i j t t' s _ _ ⟨.bl (g i j),H,I,rfl,q⟩
def CPow (i j:Int):Prop:=0<=j/\j<=1000000/\i.natAbs<2 ^ 64
def CMul (i j:Int):Prop:=(-(2 ^ 64)<i/\i<2 ^ 64)\/(-(2 ^ 64)<j/\j<2 ^ 64)
theorem CMul.ok {i j:Int}(h:CMul i j):IntMulOk i j:=by
 rcases h with ⟨h1,h2⟩ | ⟨h1,h2⟩
 ·exact .of_left (intBits_le_64 h1 h2)
 ·exact .of_right (intBits_le_64 h1 h2)
theorem jHH (k:Nat):(0:Int)<=2 ^ k:=by
 rw[two_pow_cast]
 exact g7 _
theorem yW:OpR X (binaryOp .Add) (rI0 fun i j=> .int (i+j)):=opI0 fun _ _ _ _ _ _ _ q=>add_int q
theorem qG:OpR X (binaryOp .Sub) (rI0 fun i j=> .int (i - j)):=opI0 fun _ _ _ _ _ _ _ q=>sub_int q
theorem jDI:OpR X (binaryOp .Mult) (rI CMul fun i j=> .int (i*j)):=opI fun _ _ _ _ _ _ _ hc q=>mul_int q hc.ok
theorem jEK:OpR X (binaryOp .Mod) (rI (fun _ j=>0<j) fun i j=> .int (i % j)):=opI fun i j _ _ _ _ _ hc q=>by
 have h1:(0:Int)<j:=hc
 exact mod_int' (by omega) (by rw[Int.fmod_eq_emod_of_nonneg i (by omega)]; exact q)
theorem jJF:OpR X (binaryOp .Pow) (rI CPow fun i j=> .int (i ^ j.toNat)):=opI fun _ _ _ _ _ _ _ hc q=>pow_int_small hc.1 hc.2.1 hc.2.2 q
theorem jRF:OpR X (binaryOp .LShift) (rI CPow fun i j=> .int (i*2 ^ j.toNat)):=opI fun _ _ _ _ _ _ _ hc q=>lshift_int_small hc.1 hc.2.1 hc.2.2 q
theorem jRE:OpR X (binaryOp .RShift) (rI (fun _ j=>0<=j) fun i j=> .int (i / 2 ^ j.toNat)):=opI fun i j _ _ _ _ _ hc q=>
 rshift_int hc (by rw[fu i (jHH _)]; exact q)
theorem jRI:OpR X (binaryOp .BitAnd) (rI0 fun i j=> .int (Builtin.bitAnd i j)):=opI0 fun _ _ _ _ _ _ _ q=>and_int q
theorem unI {f:Value->Sem Value}{g:Int->Int}
  (rule:∀ (i:Int) (t:Tok) (s:Shared) (Q:Value->Shared->Prop) (E:Value->Shared->Prop),Q (.int (g i) s.toks) { s with toks:=s.toks+1} ->wpAny (model X.prog X.w) X.A (f (.int i t)) Q E s):
  UnR X f (rU fun i=> .int (g i)):=by
 intro ad s σ H x v Q I rx h
 obtain⟨i,rfl,q⟩:=h
 obtain⟨t,rfl⟩:=rx
 exact rule i t s _ _ ⟨.int (g i),H,I.tok _,⟨_,rfl⟩,q⟩
theorem qK:UnR X (unaryOp .USub) (rU fun i=> .int (-i)):=unI fun _ _ _ _ _ q=>neg_int q
end
noncomputable def scal:V->V->Bool
 | .non, .non=>true | .non, .int _=>true | .int _, .non=>true | .non, .bl _=>true | .bl _, .non=>true | .non, .str _=>true | .str _, .non=>true
 | .int _, .int _=>true | .bl _, .bl _=>true | .str _, .str _=>true | .byt _, .byt _=>true
 | .int _, .str _=>true | .str _, .int _=>true | .bl _, .str _=>true | .str _, .bl _=>true
 | _,_=>false
def rEq:R2:=fun x y H Q=>scal x y=true/\Q (.bl (decide (x=y))) H
def rNe:R2:=fun x y H Q=>scal x y=true/\Q (.bl (!decide (x=y))) H
theorem jKP {i j:Int} :decide (V.int i=V.int j)=(i==j):=by
 rw[ck]
 simp
theorem jO2 {i j:Bool} :decide (V.bl i=V.bl j)=(i==j):=by
 rw[ck]
 simp
theorem jKO {i j:Str} :decide (V.str i=V.str j)=(i==j):=by
 rw[ck]
 simp
theorem jKQ {i j:Array UInt8} :decide (V.byt i=V.byt j)=(i.toList==j.toList):=by
 rw[ck]
 cases i
 cases j
 simp
section
variable {a:Expr}
theorem kL {ad:List (Addr×Obj)}{σ:St}{H:Hp}{s:Shared}{Q:VK}{k k':Bool}(I:Inv X ad σ H s)(q:Q (.bl k) H)(e:k=k'):EP X ad σ Q (.bool k') s:=by
 subst e
 exact⟨.bl k,H,I,rfl,q⟩
theorem yA:OpR X (compareOp .Eq) rEq:=by
 intro ad s σ H x y v u Q I rx ry h
 obtain⟨hs,q⟩:=h
 cases x with
 | non=>
  cases rx
  cases y with
  | non=>cases ry; exact PySem.EqNone.eq_none_none (kL I q (by simp))
  | bl j=>cases ry; exact PySem.EqNone.eq_none_bool (kL I q (by simp))
  | int j=>obtain⟨t',rfl⟩:=ry; exact PySem.EqNone.eq_none_int (kL I q (by simp))
  | str j=>obtain⟨t',rfl⟩:=ry; exact PySem.EqNone.eq_none_str (kL I q (by simp))
  | _=>exact absurd (show false=true from hs) au
 | bl i=>
  cases rx
  cases y with
  | non=>cases ry; exact PySem.EqNone.eq_bool_none (kL I q (by simp))
  | bl j=>cases ry; exact eq_bool (kL I q jO2)
  | str j=>obtain⟨t',rfl⟩:=ry; exact PySem.EqMixed.eq_bool_str (kL I q (by simp))
  | _=>exact absurd (show false=true from hs) au
 | int i=>
  obtain⟨t,rfl⟩:=rx
  cases y with
  | non=>cases ry; exact PySem.EqNone.eq_int_none (kL I q (by simp))
  | int j=>obtain⟨t',rfl⟩:=ry; exact eq_int (kL I q jKP)
  | str j=>obtain⟨t',rfl⟩:=ry; exact PySem.EqMixed.eq_int_str (kL I q (by simp))
  | _=>exact absurd (show false=true from hs) au
 | str i=>
  obtain⟨t,rfl⟩:=rx
  cases y with
  | non=>cases ry; exact PySem.EqNone.eq_str_none (kL I q (by simp))
  | bl j=>cases ry; exact PySem.EqMixed.eq_str_bool (kL I q (by simp))
  | int j=>obtain⟨t',rfl⟩:=ry; exact PySem.EqMixed.eq_str_int (kL I q (by simp))
  | str j=>obtain⟨t',rfl⟩:=ry; exact eq_str (kL I q jKO)
  | _=>exact absurd (show false=true from hs) au
 | byt i=>
  obtain⟨t,rfl⟩:=rx
  cases y with
  | byt j=>obtain⟨t',rfl⟩:=ry; exact PySem.W.eq_bytes (kL I q jKQ)
  | _=>exact absurd (show false=true from hs) au
 | _=>cases y <;> exact absurd (show false=true from hs) au
theorem op_ne:OpR X (compareOp .NotEq) rNe:=by
 intro ad s σ H x y v u Q I rx ry h
 obtain⟨hs,q⟩:=h
 cases x with
 | non=>
  cases rx
  cases y with
  | non=>cases ry; exact PySem.EqNone.ne_none_none (kL I q (by simp))
  | bl j=>cases ry; exact PySem.EqNone.ne_none_bool (kL I q (by simp))
  | int j=>obtain⟨t',rfl⟩:=ry; exact PySem.EqNone.ne_none_int (kL I q (by simp))
  | str j=>obtain⟨t',rfl⟩:=ry; exact PySem.EqNone.ne_none_str (kL I q (by simp))
  | _=>exact absurd (show false=true from hs) au
 | bl i=>
  cases rx
  cases y with
  | non=>cases ry; exact PySem.EqNone.ne_bool_none (kL I q (by simp))
  | bl j=>cases ry; exact ne_bool (kL I q (bO not jO2))
  | str j=>obtain⟨t',rfl⟩:=ry; exact PySem.EqMixed.ne_bool_str (kL I q (by simp))
  | _=>exact absurd (show false=true from hs) au
 | int i=>
  obtain⟨t,rfl⟩:=rx
  cases y with
  | non=>cases ry; exact PySem.EqNone.ne_int_none (kL I q (by simp))
  | int j=>obtain⟨t',rfl⟩:=ry; exact ne_int (kL I q (bO not jKP))
  | str j=>obtain⟨t',rfl⟩:=ry; exact PySem.EqMixed.ne_int_str (kL I q (by simp))
  | _=>exact absurd (show false=true from hs) au
 | str i=>
  obtain⟨t,rfl⟩:=rx
  cases y with
  | non=>cases ry; exact PySem.EqNone.ne_str_none (kL I q (by simp))
  | bl j=>cases ry; exact PySem.EqMixed.ne_str_bool (kL I q (by simp))
  | int j=>obtain⟨t',rfl⟩:=ry; exact PySem.EqMixed.ne_str_int (kL I q (by simp))
  | str j=>obtain⟨t',rfl⟩:=ry; exact ne_str (kL I q (bO not jKO))
  | _=>exact absurd (show false=true from hs) au
 | byt i=>
  obtain⟨t,rfl⟩:=rx
  cases y with
  | byt j=>obtain⟨t',rfl⟩:=ry; exact PySem.W.ne_bytes (kL I q (bO not jKQ))
  | _=>exact absurd (show false=true from hs) au
 | _=>cases y <;> exact absurd (show false=true from hs) au
theorem op_lt:OpR X (compareOp .Lt) (rI0 fun i j=> .bl (decide (i<j))):=opB0 fun _ _ _ _ _ _ _ q=>lt_int q
theorem op_le:OpR X (compareOp .LtE) (rI0 fun i j=> .bl (decide (i<=j))):=opB0 fun _ _ _ _ _ _ _ q=>le_int q
theorem op_gt:OpR X (compareOp .Gt) (rI0 fun i j=> .bl (decide (j<i))):=opB0 fun _ _ _ _ _ _ _ q=>gt_int q
theorem op_ge:OpR X (compareOp .GtE) (rI0 fun i j=> .bl (decide (j<=i))):=opB0 fun _ _ _ _ _ _ _ q=>ge_int q
theorem jJG:OpR X (compareOp .Is) (fun x y H Q=>y= .non/\Q (.bl (decide (x= .non))) H):=by
 intro ad s σ H x y v u Q I rx ry h
 obtain⟨rfl,q⟩:=h
 cases ry
 refine is_none_gen (kL I q ?_)
 cases x <;> first
  | (cases rx; rfl)
  | (obtain⟨t,rfl⟩:=rx; rfl)
theorem jP9:OpR X (compareOp .IsNot) (fun x y H Q=>y= .non/\Q (.bl (!decide (x= .non))) H):=by
 intro ad s σ H x y v u Q I rx ry h
 obtain⟨rfl,q⟩:=h
 cases ry
 refine isnot_none_gen (kL I q ?_)
 cases x <;> first
  | (cases rx; rfl)
  | (obtain⟨t,rfl⟩:=rx; rfl)
theorem jL (b:Expr){op:CmpOp}(h:op≠ .In:=by decide)(h2:op≠ .NotIn:=by decide):behindInMarks op b=false:=by
 have e1:(op==CmpOp.In)=false:=by cases op <;> first | rfl | exact absurd rfl h
 have e2:(op==CmpOp.NotIn)=false:=by cases op <;> first | rfl | exact absurd rfl h2
 cases b <;> simp [behindInMarks,e1,e2]
theorem jP5 {op:CmpOp}{r:R2}(ho:OpR X (compareOp op) r)(ha:PE X a ta)(hb:PE X b tb)(hm:behindInMarks op b=false):PE X (.Compare a [op] [b] pos) (tOp r ta tb):=by
 intro ad s σ H Q I h
 exact wpAny_Compare1 (binT ha hb I h fun v u s2 x y H2 I2 rx ry q=>ho ad s2 σ H2 x y v u Q I2 rx ry q) hm
def tTest (t:TE):TT:=fun σ H Q=>t σ H fun x H'=>∃ k,x= .bl k/\Q k H'
theorem jCP {op:CmpOp}{r:R2}(ho:OpR X (compareOp op) r)(ha:PE X a ta)(hb:PE X b tb)(hm:behindInMarks op b=false):PT X (.Compare a [op] [b] pos) (tTest (tOp r ta tb)):=by
 intro ad s σ H Q I h
 refine wpAny_isTrue_Compare1 (ir (ha ad s σ H _ I h) fun v s1 ⟨x,H1,I1,r1,q1⟩=>ir (hb ad s1 σ H1 _ I1 q1) fun u s2 ⟨y,H2,I2,r2,q2⟩=>
  ir (ho ad s2 σ H2 x y v u _ I2 r1 r2 q2) fun c s3 ⟨z,H3,I3,r3,k,e,q3⟩=>?_) hm
 subst e
 cases r3
 exact cf ⟨H3,I3,q3⟩
def jNE (r r':R2)(ta tb tc:TE):TE:=fun σ H Q=>ta σ H fun x H1=>tb σ H1 fun y H2=>r x y H2 fun z H3=>∃ k,z= .bl k/\
 (if k=true then tc σ H3 fun w' H4=>r' y w' H4 Q else Q (.bl false) H3)
theorem jLW {op op':CmpOp}{r r':R2}(ho:OpR X (compareOp op) r)(ho':OpR X (compareOp op') r')(ha:PE X a ta)(hb:PE X b tb)(hc:PE X c tc)
  (hm:lastMarks [op,op'] [b,c]=false:=by with_unfolding_all rfl):PE X (.Compare a [op,op'] [b,c] pos) (jNE r r' ta tb tc):=by
 intro ad s σ H Q I h
 refine Compare_chain (ir (ha ad s σ H _ I h) fun v s1 ⟨x,H1,I1,r1,q1⟩=>chain_link (ir (hb ad s1 σ H1 _ I1 q1) fun u s2 ⟨y,H2,I2,r2,q2⟩=>
  ir (ho ad s2 σ H2 x y v u _ I2 r1 r2 q2) fun d s3 ⟨z,H3,I3,r3,k,e,q3⟩=>?_)) hm
 subst e
 cases r3
 refine cf ?_
 cases k with
 | false=>exact ite_ff ⟨.bl false,H3,I3,rfl,q3⟩
 | true=>exact ite_tt (chain_last (ir (hc ad s3 σ H3 _ I3 q3) fun w' s4 ⟨z',H4,I4,r4,q4⟩=>ho' ad s4 σ H4 y z' u w' Q I4 r2 r4 q4))
theorem jGU:(sizeLine:Nat)<2 ^ 63:=by rw[cA]; decide
theorem vals1 {x:V}{us:List Value}(r:Vals [x] us):∃ u,us=[u]/\RelV x u:=by
 cases r with
 | cons r1 r2=>cases r2; exact⟨_,rfl,r1⟩
theorem vals2 {x y:V}{us:List Value}(r:Vals [x,y] us):∃ u w',us=[u,w']/\RelV x u/\RelV y w':=by
 cases r with
 | cons r1 r2=>
  cases r2 with
  | cons r3 r4=>cases r4; exact⟨_,_,rfl,r1,r3⟩
theorem jKY (hc:X.calm=true):yR X (.builtin "max") (fun xs H Q=>∃ i j,xs=[.int i, .int j]/\Q (.int (if j>i then j else i)) H):=by
 intro ad s σ H xs us Q I r h
 obtain⟨i,j,rfl,q⟩:=h
 obtain⟨u,w',rfl,⟨t,rfl⟩,⟨t',rfl⟩⟩:=vals2 r
 refine max_two_ints (I.ok.hd hc) fun h' tk k=>⟨_,H,I.kept k,?_,q⟩
 by_cases hj:j>i
 ·rw[aB hj,aB hj]; exact⟨_,rfl⟩
 ·rw[av hj,av hj]; exact⟨_,rfl⟩
theorem jKX (hc:X.calm=true):yR X (.builtin "min") (fun xs H Q=>∃ i j,xs=[.int i, .int j]/\Q (.int (if j<i then j else i)) H):=by
 intro ad s σ H xs us Q I r h
 obtain⟨i,j,rfl,q⟩:=h
 obtain⟨u,w',rfl,⟨t,rfl⟩,⟨t',rfl⟩⟩:=vals2 r
 refine min_two_ints (I.ok.hd hc) fun h' tk k=>⟨_,H,I.kept k,?_,q⟩
 by_cases hj:j<i
 ·rw[aB hj,aB hj]; exact⟨_,rfl⟩
 ·rw[av hj,av hj]; exact⟨_,rfl⟩
theorem jF2:yR X (.type "int") (fun xs H Q=>(∃ i,xs=[.int i]/\Q (.int i) H)\/∃ k,xs=[.bl k]/\Q (.int (if k then 1 else 0)) H):=by
 intro ad s σ H xs us Q I r h
 rcases h with ⟨i,rfl,q⟩ | ⟨k,rfl,q⟩
 ·obtain⟨u,rfl,t,rfl⟩:=vals1 r
  exact call_int_int ⟨.int i,H,I,⟨_,rfl⟩,q⟩
 ·obtain⟨u,rfl,r1⟩:=vals1 r
  cases r1
  exact call_int_bool ⟨.int (if k then 1 else 0),H,I.tok _,⟨_,rfl⟩,q⟩
end
structure ObjM (h:Heap)(x dx C:Addr)(mA:Str->Option Value):Prop where
 obj:h.get? x=some (instObj C dx)
 ns:h.Ns1 dx mA
 ne:dx≠x
theorem jK1 {h:Heap}{dx:Addr}{mA:Str->Option Value}(n:h.Ns1 dx mA):∃ od,h.get? dx=some od/\∀ name,lookIn name od=some (mA name):=by
 obtain⟨o,es,ep,ho,hd,hk,_,hm⟩:=n
 refine⟨o,ho,fun name=>?_⟩
 have e:=hm name
 unfold nsFind findBy at e
 rw[<- Array.find?_toList] at e
 unfold lookIn
 rw[hd]
 dsimp only
 split
 ·rename_i y q
  rw[q] at e
  exact bO some e
 ·rename_i q
  rw[q] at e
  have a:es.toList.any (·.refKey)=false:=by
   rw[List.any_eq_false]
   intro y hy
   obtain⟨z,t,hkey⟩:=hk y (Array.mem_toList_iff.mp hy)
   simp [DictEntry.refKey,hkey]
  have a':¬ es.toList.any (·.refKey)=true:=by rw[a]; exact au
  rw[av a']
  exact bO some e
theorem ObjM.look {h:Heap}{x dx C:Addr}{mA:Str->Option Value}(I:ObjM h x dx C mA):∃ od,PySem.W.InstAt h x (instObj C dx) C (some od)/\∀ name,lookIn name od=some (mA name):=
 let ⟨od,ho,hl⟩:=jK1 I.ns
 ⟨od,⟨I.obj,rfl,rfl,ho⟩,hl⟩
variable {A:Around}{dx C f:Addr}
section
variable {prog:Program}{K:W.Frag}{mA:Str->Option Value}{name:Str}{v:Value}
theorem jPZ {expr:Bool}{Q:Value->Shared->Prop}(X:K.In s.heap)(I:ObjM s.heap x dx C mA)(hg:plainGet K C name=true)(hh:hasDictIn K C=true)
  (ha:findIn K (.ref C) name=some none) (hv:mA name=some v) (hv':handedIn v=true) (h:Q v { s with toks:=s.toks+1}):
  wpAny (model prog w) A (getAttr (.ref x) name expr) Q E s:=by
 obtain⟨od,J,hl⟩:=I.look
 exact PySem.W.get_value X J (fh hg).1 (PySem.W.findObj_own hh ha rfl (by rw[hl,hv])) hv' h
theorem jMO {pl:Sem Bool}{Q:Value×List Value->Shared->Prop}(X:K.In s.heap)(I:ObjM s.heap x dx C mA)(hg:plainGet K C name=true)
  (hf:findIn K (.ref C) name=some (some (.ref f))) (ht:isFn K (.ref f)=true) (hv:mA name=none) (h:Q (.ref f,[.ref x]) s):
  wpAny (model prog w) A (getMethod (.ref x) name pl) Q E s:=by
 obtain⟨od,J,hl⟩:=I.look
 exact PySem.W.method_fn X J (fh hg).1 (fh hg).2 hf (fw.mp ht) (by show (lookIn name od).map (·.isSome)=some false; rw[hl,hv]; rfl) h
theorem jOI {ns:List Str}{Q:Unit->Shared->Prop}(X:K.In s.heap)(I:ObjM s.heap x dx C mA)
  (hs:findIn K (.ref C) "__setattr__" =some (some (.builtin "object.__setattr__"))) (hp:plainOver K C=true) (ht:takerIn K C name=some none) (hh:hasDictIn K C=true)
  (hw:PySem.Within mA ns) (hsz:ns.length<=sizeLine)
  (h:∀ h',ObjM h' x dx C (fun y=>if y=name then some v else mA y)->Heap.SameBut dx s.heap h'->Q () { s with heap:=h',toks:=s.toks+2}):
  wpAny (model prog w) A (setAttr (.ref x) name v) Q E s:=by
 obtain⟨od,J,hl⟩:=I.look
 refine PySem.W.set_plain X J hs (PySem.W.osa_open (s:= { s with toks:=s.toks+1}) (r:=none) X J hp ht fun b=>?_)
 obtain⟨cd,hc,hd'⟩:=PySem.W.any_some hh
 have hx:s.heap.get? x=some ⟨.ref C,some dx, .plain,#[]⟩:=I.obj
 refine ac (af (ac (ac (wpAny_loadPart hx (ac (PySem.W.Looks.here (s:= { s with toks:=s.toks+1}) (PySem.W.looks_clsIn X hc) ?_))))))
 rw[hd']
 refine af (a:=some dx) (ac (af (ac ?_)))
 refine wpAny_nsSet1 (s:= { s with toks:=s.toks+1}) I.ns fun h' hn2 hs2=>?_
 obtain⟨oD,esD,epD,hoD,hdD,hcD⟩:=hn2.count (PySem.Within.cons name v hw)
 refine ac (wpAny_lookBehind hoD (by rw[hdD]; exact pastItsLine_dict (bF hcD (by rw[bB]; omega))) ?_)
 exact af (h _ ⟨(hs2.2 _ (bo I.ne)).trans I.obj,hn2,I.ne⟩ hs2)
theorem jMC {R:Result->Shared->Prop}{vs:List Value}{kw:List (Str×Value)}(X:K.In s.heap)(hm:makesIn K C=true)
  (hi:findIn K (.ref C) "__init__" =some (some (.ref f))) (hf:PySem.W.typeIn K (.ref f)=some (.type "function"))
  (h:codeAny (model prog w) (A.under (.builtin "type.__call__" ⟨.ref C::vs,kw⟩)) (.call (.ref f) ⟨.ref (s.heap.objs.size+1)::vs,kw⟩) (PySem.W.InitBack (s.heap.objs.size+1) R)
   { s with heap:=(s.heap.push emptyDict).push (instObj C s.heap.objs.size)}):
  codeAny (model prog w) A (.call (.ref C) ⟨vs,kw⟩) R s:=by
 obtain⟨hh,g,d,t,os⟩:=s
 exact PySem.W.make_core (PySem.W.makes_of X hm) (eX X hi) (fun self=>PySem.W.bind_fn X self hf) (.inl rfl) h
end
def putF (f:Str)(v:V):List (Str×V)->List (Str×V)
 | []=> [(f,v)]
 | (g,x)::r=>if g=f then (g,v)::r else (g,x)::putF f v r
theorem jCU (f g:Str)(v:V):∀ fs:List (Str×V),(putF f v fs).lookup g=if g=f then some v else fs.lookup g
 | []=>by
  show List.lookup g [(f,v)]=_
  by_cases h:g=f
  ·have hb:(g==f)=true:=fw.mpr h
   simp only [List.lookup,hb,aB h]
  ·have hb:(g==f)=false:=bD.mpr h
   simp only [List.lookup,hb,av h]
 | (k,x)::r=>by
  have ih:=jCU f g v r
  rw[show putF f v ((k,x)::r)=(if k=f then (k,v)::r else (k,x)::putF f v r) from rfl]
  by_cases hk:k=f
  ·rw[aB hk]
   by_cases h:g=k
   ·have hb:(g==k)=true:=fw.mpr h
    simp only [List.lookup,hb,aB (h.trans hk)]
   ·have hb:(g==k)=false:=bD.mpr h
    simp only [List.lookup,hb,av (fun e:g=f=>h (e.trans hk.symm))]
  ·rw[av hk]
   by_cases h:g=k
   ·have hb:(g==k)=true:=fw.mpr h
    simp only [List.lookup,hb,av (fun e:g=f=>hk (h.symm.trans e))]
   ·have hb:(g==k)=false:=bD.mpr h
    simp only [List.lookup,hb]
    exact ih
theorem jCY (f:Str)(v:V):∀ fs:List (Str×V),f∈(putF f v fs).map (·.1)/\∀ g,g∈fs.map (·.1)->g∈(putF f v fs).map (·.1)
 | []=>⟨by simp [putF],fun g h=>by simp at h⟩
 | (k,x)::r=>by
  obtain⟨i1,i2⟩:=jCY f v r
  rw[show putF f v ((k,x)::r)=(if k=f then (k,v)::r else (k,x)::putF f v r) from rfl]
  by_cases hk:k=f
  ·rw[aB hk]
   subst hk
   exact⟨by simp,fun g h=>by simpa using h⟩
  ·rw[av hk]
   refine⟨?_,fun g h=>?_⟩
   ·rw[be]
    exact aI _ i1
   ·rw[be] at h ⊢
    rcases am.mp h with e | e
    ·exact am.mpr (.inl e)
    ·exact aI _ (i2 g e)
theorem jCW (f:Str)(v:V):∀ fs:List (Str×V),(putF f v fs).length<=fs.length+1
 | []=>by simp [putF]
 | (k,x)::r=>by
  have ih:=jCW f v r
  rw[show putF f v ((k,x)::r)=(if k=f then (k,v)::r else (k,x)::putF f v r) from rfl]
  by_cases hk:k=f
  ·rw[aB hk,bB,bB]; omega
  ·rw[av hk,bB,bB]; omega
theorem RelO.some_of {v:V}{o:Option Value}(r:RelO (some v) o):∃ u,o=some u/\RelV v u:=by
 cases o with
 | none=>exact(show False from r).elim
 | some u=>exact⟨u,rfl,r⟩
theorem RelO.none_of {o:Option Value}(r:RelO none o):o=none:=by
 cases o with
 | none=>rfl
 | some u=>exact(show False from r).elim
theorem jKI {v:V}{u:Value}(r:RelV v u):handedIn u=true:=by
 cases v with
 | non=>cases (show u=Value.none from r); rfl
 | bl b=>cases (show u=Value.bool b from r); rfl
 | int i=>obtain⟨t,e⟩:=(show ∃ t,u=Value.int i t from r); cases e; rfl
 | str x=>obtain⟨t,e⟩:=(show ∃ t,u=Value.str x t from r); cases e; rfl
 | byt b=>obtain⟨t,e⟩:=(show ∃ t,u=Value.bytes b t from r); cases e; rfl
 | flt b=>obtain⟨t,e⟩:=(show ∃ t,u=Value.float b t from r); cases e; rfl
 | ref a=>cases (show u=Value.ref a from r); rfl
 | ty n=>cases (show u=Value.type n from r); rfl
section
variable {fs fs':List (Str×V)}
theorem jE0 (hok:HOk P w H h)(e:H a=some (.ins C dx fs)):∃ mA,ObjM h a dx C mA/\(∀ f,RelO (fs.lookup f) (mA f))/\PySem.Within mA (fs.map (·.1))/\fs.length<=1000/\H dx=some (.own a):=by
 obtain⟨d,z,ne,ob,mA,n,r,q⟩:=(show ObjOk P w H h a (.ins C dx fs) from hok a _ e)
 exact⟨mA,⟨ob,n,ne⟩,r,q,z,d⟩
end
structure Cls (K:W.Frag)(C:Addr):Prop where
 pg:plainGet K C Str.empty=true
 hd:hasDictIn K C=true
 po:plainOver K C=true
 sa:findIn K (.ref C) "__setattr__" =some (some (.builtin "object.__setattr__"))
theorem Cls.get {K:W.Frag}{C:Addr}(c:Cls K C)(f:Str):plainGet K C f=true:=c.pg
def NoAttr (K:W.Frag)(C:Addr)(f:Str):Prop:=findIn K (.ref C) f=some none
theorem NoAttr.taker {K:W.Frag}{C:Addr}{f:Str}(n:NoAttr K C f):takerIn K C f=some none:=by
 unfold takerIn
 rw[show findIn K (.ref C) f=some none from n]
 rfl
structure Meth (K:W.Frag)(C:Addr)(m:Str)(f:Addr):Prop where
 at_:findIn K (.ref C) m=some (some (.ref f))
 fn:isFn K (.ref f)=true
 kp:keepIn K (.ref f)=true
section
variable {σ:St}{fs:List (Str×V)}{f:Str}{v:V}
theorem jI5 {b:Bool}{Q:Value->Shared->Prop}(I:Inv X ad σ H s)(e:H a=some (.ins C dx fs))(c:Cls X.K C)(n:NoAttr X.K C f)(l:fs.lookup f=some v)
  (h:∀ u s',Inv X ad σ H s'->RelV v u->Q u s'):wpAny (model X.prog X.w) A (getAttr (.ref a) f b) Q E s:=by
 obtain⟨mA,O,r,_,_,_⟩:=jE0 I.hok e
 obtain⟨u,hu,ru⟩:=RelO.some_of (v:=v) (o:=mA f) (by rw[<- l]; exact r f)
 exact jPZ I.kIn O (c.get f) c.hd n hu (jKI ru) (h u _ (I.tok _) ru)
theorem jB1 {m:Str}{g:Addr}{pl:Sem Bool}{Q:Value×List Value->Shared->Prop}(I:Inv X ad σ H s)(e:H a=some (.ins C dx fs))(c:Cls X.K C)(k:Meth X.K C m g)(l:fs.lookup m=none)
  (h:Q (.ref g,[.ref a]) s):wpAny (model X.prog X.w) A (getMethod (.ref a) m pl) Q E s:=by
 obtain⟨mA,O,r,_,_,_⟩:=jE0 I.hok e
 have hn:mA m=none:=RelO.none_of (by rw[<- l]; exact r m)
 exact jMO I.kIn O (c.get m) k.at_ k.fn hn h
theorem jHM {y:V}{u:Value}{Q:Unit->Shared->Prop}(I:Inv X ad σ H s)(e:H a=some (.ins C dx fs))(c:Cls X.K C)(n:NoAttr X.K C f)(hl:fs.length<1000)(ry:RelV y u)
  (h:∀ s',Inv X ad σ (upd H a (.ins C dx (putF f y fs))) s'->Q () s'):wpAny (model X.prog X.w) A (setAttr (.ref a) f u) Q E s:=by
 obtain⟨mA,O,r,wi,_,ho⟩:=jE0 I.hok e
 have hz:(fs.map (·.1)).length<=sizeLine:=by rw[ag,cA]; omega
 refine jOI I.kIn O c.sa c.po n.taker c.hd wi hz fun h' O' sb=>h _ ?_
 have hd:∃ o,h'.get? dx=some o:=let ⟨o,_,_,e',_⟩:=O'.ns; ⟨o,e'⟩
 refine I.write (x:=a) (e:=dx) (by rw[e]; exact True.intro) (.inr ho) (fun b q hb z=>(sb.2 b hb).trans z) hd ?_
 refine⟨by rw[jD O.ne]; exact ho,?_,O.ne,O'.obj,_,O'.ns,fun g=>?_,fun g hg=>?_⟩
 ·have:=jCW f y fs; omega
 ·show RelO ((putF f y fs).lookup g) (if g=f then some u else mA g)
  rw[jCU]
  by_cases q:g=f
  ·rw[aB q,aB q]; exact ry
  ·rw[av q,av q]; exact r g
 ·by_cases q:g=f
  ·rw[q]; exact(jCY f y fs).1
  ·refine(jCY f y fs).2 g (wi g fun z=>hg ?_)
   show (if g=f then some u else mA g)=none
   rw[av q]; exact z
theorem Inv.made (I:Inv X ad σ H s):Inv X ad σ (upd (upd H s.heap.objs.size (.own (s.heap.objs.size+1))) (s.heap.objs.size+1) (.ins C s.heap.objs.size []))
  { s with heap:=(s.heap.push emptyDict).push (instObj C s.heap.objs.size)} :=by
 have e1:(s.heap.push emptyDict).get? s.heap.objs.size=some emptyDict:=ak s.heap rfl
 have e2:((s.heap.push emptyDict).push (instObj C s.heap.objs.size)).get? (s.heap.objs.size+1)=some (instObj C s.heap.objs.size):=by
  have:=ak (s.heap.push emptyDict) (o:=instObj C s.heap.objs.size) rfl
  rwa [br] at this
 have e3:(s.heap.push emptyDict).Ns s.heap.objs.size (fun _=>none):=⟨emptyDict,#[],_,e1,rfl,(fun e he=>absurd he (by simp)),fun _=>rfl⟩
 have I1:=I.laid (a:=s.heap.objs.size) (o:= .own (s.heap.objs.size+1)) (h':=s.heap.push emptyDict) (t':=s.toks) (fun b u q=>ae _ q) (aq _) ⟨_,e1⟩
 refine I1.laid (a:=s.heap.objs.size+1) (o:= .ins C s.heap.objs.size []) (t':=s.toks) (fun b u q=>ae _ q) (Nat.le_of_eq (br _ _)) ?_
 have ne:s.heap.objs.size≠s.heap.objs.size+1:=aF (gg _)
 refine⟨by rw[jD ne,jA],bi _,ne,e2,fun _=>none,(Heap.Ns1.of_empty e3).at fun o q=>ae _ q,fun _=>True.intro,fun y hy=>absurd rfl hy⟩
theorem jQ5 {prog:Program}{w:World}{env:Env}{e:Expr}{f:Str}{pos:Pos}{s:Shared}{Q:Value->Shared->Prop}(hb:attributeBase e f env (eval e env)=eval e env)
  (h:wpAny (model prog w) A (eval e env) (fun o s₁=>wpAny (model prog w) A (getAttr o f true) Q E s₁) E s):wpAny (model prog w) A (eval (.Attribute e f pos) env) Q E s:=
 Attribute_any_ h (by rw[arm_eval_Attribute,hb])
end
def tFld (K:W.Frag)(ta:TE)(f:Str):TE:=fun σ H Q=>ta σ H fun x H1=>∃ a C dx fs v,x= .ref a/\H1 a=some (.ins C dx fs)/\Cls K C/\NoAttr K C f/\fs.lookup f=some v/\Q v H1
def sFld (K:W.Frag)(ta tv:TE)(f:Str):TS:=fun D σ H=>tv σ H fun y H1=>ta σ H1 fun x H2=>∃ a C dx fs,x= .ref a/\H2 a=some (.ins C dx fs)/\Cls K C/\NoAttr K C f/\fs.length<1000/\
 D.nx σ (upd H2 a (.ins C dx (putF f y fs)))
variable {o:Expr}
section
variable {value:Expr}{f:Str}{pos' tpos:Pos}{tv:TE}
theorem jR9 (he:PE X e ta)(hb:attributeBase e f X.env (eval e X.env)=eval e X.env):PE X (.Attribute e f pos) (tFld X.K ta f):=by
 intro ad s σ H Q I h
 refine jQ5 hb (ir (he ad s σ H _ I h) fun u s1 ⟨x,H1,I1,rx,a,C,dx,fs,v,ex,ea,c,n,l,q⟩=>?_)
 subst ex
 obtain rfl:u=Value.ref a:=rx
 exact jI5 I1 ea c n l fun u' s2 I2 ru=>⟨v,H1,I2,ru,q⟩
theorem jQY (ha:PE X o ta)(hv:PE X value tv)(hs:swapsWith value (some (.Attribute o f pos')) pos.line X.env=pure false):PS X (.Assign [.Attribute o f pos'] value pos) (sFld X.K ta tv f):=by
 intro ad s σ H D I h
 refine plainObj_wpAny_Assign_Attribute (ir (hv ad s σ H _ I h) fun u s1 ⟨y,H1,I1,ry,q⟩=>ir (ha ad s1 σ H1 _ I1 q) fun ov s2 ⟨x,H2,I2,rx,a,C,dx,fs,ex,ea,c,n,l,q2⟩=>?_) hs
 subst ex
 obtain rfl:ov=Value.ref a:=rx
 exact jHM I2 ea c n l ry fun s3 I3=>⟨σ,_,I3,q2⟩
end
section
variable {σ:St}{Q:Value->Shared->Prop}{c:Value}{b:Bool}
inductive TyOf (K:W.Frag) (H:Hp):V->Value->Prop where
 | non:TyOf K H .non (.type "NoneType")
 | bl (x:Bool):TyOf K H (.bl x) (.type "bool")
 | int (i:Int):TyOf K H (.int i) (.type "int")
 | str (x:Str):TyOf K H (.str x) (.type "str")
 | flt (x:UInt64):TyOf K H (.flt x) (.type "float")
 | lst {a:Addr}{xs:List V}(e:H a=some (.lst xs)):TyOf K H (.ref a) (.type "list")
 | frz {a:Addr}{o:Obj}{xs:List V}(e:H a=some (.frz o (.lst xs))):TyOf K H (.ref a) (.type "list")
 | tup {a:Addr}{xs:List V}(e:H a=some (.tup xs)):TyOf K H (.ref a) (.type "tuple")
 | dK {a:Addr}{iq:List (Key×V)}(e:H a=some (.dK iq)):TyOf K H (.ref a) (.type "dict")
 | dT {a:Addr}{iq:List (List Key×V)}(e:H a=some (.dT iq)):TyOf K H (.ref a) (.type "dict")
 | ins {a C dx:Addr}{fs:List (Str×V)}(e:H a=some (.ins C dx fs)) (cl:Cls K C) (ha:findIn K (.ref C) "__class__" =some (some (.builtin "object.__class__")))
   (hn:specialIn K (.builtin "object.__class__") "__get__" =some (some (.builtin "getset_descriptor.__get__"))) (htk:takesIn K (.builtin "object.__class__")=some true)
   (hm:mroIn K C (.type "object")=some true):TyOf K H (.ref a) (.ref C)
theorem jKE {x:V}{u t:Value}(I:Inv X ad σ H s)(rx:RelV x u)(ty:TyOf X.K H x t)(e:kitOne X.K t c=some b)(h:∀ tk,Q (.bool b) { s with toks:=tk}):
  wpAny (model X.prog X.w) A (call (.builtin "isinstance") [u,c]) Q E s:=by
 cases ty with
 | non=>cases (show u=Value.none from rx); exact bA PySem.W.kitx_none I.kIn True.intro e (fun z=>nomatch z) h
 | bl y=>cases (show u=Value.bool y from rx); exact bA PySem.W.kitx_bool I.kIn True.intro e (fun z=>nomatch z) h
 | int i=>obtain⟨t,q⟩:=(show ∃ t,u=Value.int i t from rx); cases q; exact bA PySem.W.kitx_int I.kIn True.intro e (fun z=>nomatch z) h
 | str y=>obtain⟨t,q⟩:=(show ∃ t,u=Value.str y t from rx); cases q; exact bA PySem.W.kitx_str I.kIn True.intro e (fun z=>nomatch z) h
 | flt y=>obtain⟨t,q⟩:=(show ∃ t,u=Value.float y t from rx); cases q; exact bA PySem.W.kitx_float I.kIn True.intro e (fun z=>nomatch z) h
 | @lst a xs ea=>
  cases (show u=Value.ref a from rx)
  obtain⟨_,_,n,_,h1⟩:=(show ObjOk X.prog X.w H s.heap a (.lst xs) from I.hok a _ ea)
  exact bA kitx_list I.kIn ⟨_,h1,rfl⟩ e (fun z=>nomatch z) h
 | @frz a ob xs ea=>
  cases (show u=Value.ref a from rx)
  obtain⟨_,_,_,n,_,h1⟩:=(show ObjOk X.prog X.w H s.heap a (.frz ob (.lst xs)) from I.hok a _ ea)
  exact bA kitx_list I.kIn ⟨_,h1,rfl⟩ e (fun z=>nomatch z) h
 | @tup a xs ea=>
  cases (show u=Value.ref a from rx)
  obtain⟨_,_,_,p⟩:=(show ObjOk X.prog X.w H s.heap a (.tup xs) from I.hok a _ ea)
  obtain⟨o,h1,h2,_⟩:=p.isTup
  exact bA PySem.W.kitx_tuple I.kIn ⟨o,h1,h2⟩ e (fun z=>nomatch z) h
 | @dK a iq ea=>
  cases (show u=Value.ref a from rx)
  obtain⟨_,_,vs,_,p⟩:=(show ObjOk X.prog X.w H s.heap a (.dK iq) from I.hok a _ ea)
  obtain⟨o,es,ep,h1,h2,_⟩:=p
  exact bA kitx_dict I.kIn ⟨o,h1,h2.1⟩ e (fun z=>nomatch z) h
 | @dT a iq ea=>
  cases (show u=Value.ref a from rx)
  obtain⟨_,_,xs,_,o,es,ep,h1,h2,_⟩:=(show ObjOk X.prog X.w H s.heap a (.dT iq) from I.hok a _ ea)
  exact bA kitx_dict I.kIn ⟨o,h1,h2.1⟩ e (fun z=>nomatch z) h
 | @ins a C dx fs ea cl ha hn htk hm=>
  cases (show u=Value.ref a from rx)
  obtain⟨mA,O,_⟩:=jE0 I.hok ea
  obtain⟨od,J,_⟩:=O.look
  exact bA (PySem.W.kitx_own (cl.get _) cl.hd ha hn htk hm) I.kIn J e (fun z=>nomatch z) h
end
structure Room (k:Nat)(A:Around):Prop where
 hd:A.handled=none
 dp:A.depth+3*k+5<recursionLimit
 un:A.units+16*k+200<cLine
theorem Room.mono {j k:Nat}{A:Around}(r:Room k A)(h:j<=k):Room j A:=⟨r.hd,by have:=r.dp; omega,by have:=r.un; omega⟩
theorem Room.deeper {k:Nat}{A:Around}(r:Room (k+1) A)(env:Env):Room k (A.deeper env):=
 ⟨r.hd,by have:=r.dp; show A.depth+1+3*k+5<_; omega,by have:=r.un; show A.units+3+16*k+200<_; omega⟩
theorem jI1 {A:Around}{C:Addr}{us:List Value}{kw:List (Str×Value)} :(A.under (.builtin "type.__call__" ⟨.ref C::us,kw⟩)).depth=A.depth+1:=by
 first | rfl | simp [Around.under,Code.weight,Code.isCreation,Code.isGuard,Code.isCaller,Code.frames,Code.isFrame,guardIds]
theorem jI0 {A:Around}{C:Addr}{us:List Value}{kw:List (Str×Value)} :(A.under (.builtin "type.__call__" ⟨.ref C::us,kw⟩)).units=A.units+1:=by
 first | rfl | simp [Around.under,Code.cUnits,Code.frames,Code.isFrame]
theorem Room.make {k:Nat}{A:Around}(r:Room (k+1) A)(C:Addr)(us:List Value)(kw:List (Str×Value)):Room k (A.under (.builtin "type.__call__" ⟨.ref C::us,kw⟩)):=
 ⟨r.hd,by have:=r.dp; rw[jI1]; omega,by have:=r.un; rw[jI0]; omega⟩
theorem Room.depth {k:Nat}{A:Around}(r:Room k A):A.depth<recursionLimit:=by have:=r.dp; omega
theorem Room.units {k:Nat}{A:Around}(r:Room k A):A.units+64<cLine:=by have:=r.un; omega
theorem Room.units0 {k:Nat}{A:Around}(r:Room k A):A.units<cLine:=by have:=r.un; omega
def tNil:TA:=fun _ H Q=>Q [] H
def tCons (ta:TE)(tr:TA):TA:=fun σ H Q=>ta σ H fun x H1=>tr σ H1 fun xs H2=>Q (x::xs) H2
variable {es:List Expr}{t:TA}
theorem yM:PA X [] tNil:=fun _ _ _ _ H Q I h=>Calls.spliced_nil ⟨[],H,I, .nil,h⟩
theorem kJ (ha:PE X e te)(hr:PA X es t)(hs:starEach (e::es) X.env=(false,eval e X.env)::starEach es X.env:=by rfl):PA X (e::es) (tCons te t):=by
 intro pos ad s σ H Q I h
 rw[hs]
 show wpAny _ _ (spliced ((false,eval e X.env)::backTo pos (starEach es X.env))) _ _ s
 refine Calls.spliced_cons (ir (ha ad s σ H _ I h) fun u s1 ⟨x,H1,I1,r1,q1⟩=>?_)
 exact ir (hr pos ad s1 σ H1 _ I1 q1) fun us s2 ⟨xs,H2,I2,r2,q2⟩=>⟨x::xs,H2,I2, .cons r1 r2,q2⟩
def tLst (t:TA):TE:=fun σ H Q=>t σ H fun xs H1=>xs.length<=sizeLine/\∀ p,H1 p=none->Q (.ref p) (upd H1 p (.lst xs))
theorem jJD (h:PA X es t):PE X (.List es pos) (tLst t):=by
 intro ad s σ H Q I hq
 refine wpAny_List_spliced (ir (h pos ad s σ H _ I hq) fun us s1 ⟨xs,H1,I1,r,z,q⟩=>⟨by rw[<- r.length]; exact z,?_⟩)
 have hf:H1 s1.heap.objs.size=none:=I1.hok.fresh (aq _)
 refine⟨.ref s1.heap.objs.size,upd H1 s1.heap.objs.size (.lst xs),I1.laid (t':=s1.toks) (fun b u e=>ae _ e) (aq _) ?_,rfl,q _ hf⟩
 exact⟨z,us,0,r,ak _ rfl⟩
abbrev Sp:=List V->Hp->VK->XK->Prop
abbrev CXT:=List Env->Hp->Shared->XK->Value->Shared->Prop
structure Env0 (P:Program)(w:World)(K:W.Frag)(mg:Str->Option Value)(base:Heap)(A:Around)(outer:List Env)(s:Shared)(H:Hp):Prop where
 frames:A.frames=some outer
 mod:Mod K mg base
 bs:∀ b o,base.get? b=some o->s.heap.get? b=some o/\H b=none
 bsz:base.objs.size<=s.heap.objs.size
 funs:s.heap.FunFrames base outer
 frf:∀ b∈frs outer,H b=none
 hok:HOk P w H s.heap
 bare:AllBare s.gens
def CE (outer:List Env)(P:Program)(w:World)(H:Hp)(s:Shared)(Q:VK)(u:Value)(s':Shared):Prop:=
 ∃ v H',s'.os=s.os/\AllBare s'.gens/\Un (frs outer) [] H H' s.heap s'.heap/\HOk P w H' s'.heap/\RelV v u/\Q v H'
def CR (CX:CXT)(outer:List Env)(P:Program)(w:World)(H:Hp)(s:Shared)(Q:VK)(E:XK)(r:Result)(s':Shared):Prop:=
 match r with
 | .ok (.ret u)=>CE outer P w H s Q u s'
 | .ok _=>False
 | .error e=>CX outer H s E e s'
structure FnOk (P:Program)(w:World)(K:W.Frag)(mg:Str->Option Value)(base:Heap)(CX:CXT)(k:Nat)(f:Addr)(fd:FuncData)(ps:List Str)(sp:Sp):Prop where
 len:∀ vs H Q E,sp vs H Q E->vs.length=ps.length
 run:∀ (A:Around) (outer:List Env) (s:Shared) (H:Hp) (args:Args) (us:List Value) (vs:List V) (Q:VK) (E:XK),Room k A->Env0 P w K mg base A outer s H->BindsTo s fd args (ps.zip us)->Vals vs us->sp vs H Q E->
  codeAny (model P w) A (.call (.ref f) args) (CR CX outer P w H s Q E) s
theorem FnOk.mono {P:Program}{w:World}{K:W.Frag}{mg:Str->Option Value}{base:Heap}{CX:CXT}{j k:Nat}{f:Addr}{fd:FuncData}{ps:List Str}{sp:Sp}(F:FnOk P w K mg base CX j f fd ps sp)(h:j<=k):
  FnOk P w K mg base CX k f fd ps sp:=⟨F.len,fun A outer s H args us vs Q E hr=>F.run A outer s H args us vs Q E (hr.mono h)⟩
theorem FnOk.imp {P:Program}{w:World}{K:W.Frag}{mg:Str->Option Value}{base:Heap}{CX:CXT}{k:Nat}{f:Addr}{fd:FuncData}{ps:List Str}{sp sp':Sp}(F:FnOk P w K mg base CX k f fd ps sp)
  (h:∀ vs H Q E,sp' vs H Q E->sp vs H Q E):FnOk P w K mg base CX k f fd ps sp':=
 ⟨fun vs H Q E q=>F.len vs H Q E (h _ _ _ _ q),fun A outer s H args us vs Q E hr he hb hv hs=>F.run A outer s H args us vs Q E hr he hb hv (h _ _ _ _ hs)⟩
theorem Env0.make {P:Program}{w:World}{K:W.Frag}{mg:Str->Option Value}{base:Heap}{A:Around}{outer:List Env}{s:Shared}{H:Hp}(e:Env0 P w K mg base A outer s H)(C:Addr)(us:List Value)(kw:List (Str×Value)):
  Env0 P w K mg base (A.under (.builtin "type.__call__" ⟨.ref C::us,kw⟩)) outer s H:=⟨by first | exact e.frames | (simpa [Around.under,Code.envs,Code.isFrame,pushEnvs] using e.frames),e.mod,e.bs,e.bsz,e.funs,e.frf,e.hok,e.bare⟩
section
variable {σ:St}{s':Shared}
theorem Inv.env0 (I:Inv X ad σ H s):Env0 X.prog X.w X.K X.mg X.base X.A X.stack s H:=
 ⟨I.ok.frames,I.ok.mod,I.bs,bF I.ok.bsz I.sz,I.stack,I.stkFree,I.hok,I.bare⟩
theorem Inv.after {Q:VK}{u:Value}(I:Inv X ad σ H s)(h:CE X.stack X.prog X.w H s Q u s'):EP X ad σ Q u s':=by
 obtain⟨v,H',os,bare,un,hok,r,q⟩:=h
 obtain⟨hh,g,d,t,os'⟩:=s'
 obtain rfl:os'=s.os:=os
 exact⟨v,H',I.call (h':=hh) (g':=g) (d':=d) (t':=t) (ch:=[]) un hok bare (fun b z=>absurd z (by simp)),r,q⟩
end
def tCall (sp:Sp)(dvs:List V)(E:XK)(t:TA):TE:=fun σ H Q=>t σ H fun vs H1=>sp (vs++dvs) H1 Q E
def tMeth (C:Addr)(m:Str)(sp:Sp)(dvs:List V)(E:XK)(ta:TE)(t:TA):TE:=fun σ H Q=>ta σ H fun x H1=>∃ a dx fs,x= .ref a/\H1 a=some (.ins C dx fs)/\fs.lookup m=none/\
 t σ H1 fun vs H2=>sp (x::(vs++dvs)) H2 Q E
def tMake (C:Addr)(sp:Sp)(dvs:List V)(E:XK)(t:TA):TE:=fun σ H Q=>t σ H fun vs H1=>∀ x dx,H1 x=none->H1 dx=none->dx≠x->
 sp (.ref x::(vs++dvs)) (upd (upd H1 dx (.own x)) x (.ins C dx [])) (fun v H2=>v= .non/\Q (.ref x) H2) E
def Binds (K:W.Frag)(fd:FuncData)(ps:List Str)(ds:List Value):Prop:=
 ∀ (s:Shared) (us:List Value),K.In s.heap->(us++ds).length=ps.length->BindsTo s fd ⟨us,[]⟩ (ps.zip (us++ds))
theorem Binds.all {K:W.Frag}{fd:FuncData}{ps:List Str}(h:∀ us:List Value,us.length=ps.length->bindArgs fd ⟨us,[]⟩=pure (ps.zip us)):Binds K fd ps []:=fun s us _ hl=>by
 rw[bH] at hl ⊢
 exact .of_eq (h us hl)
def jCB (CX:CXT)(X:Cx)(E:XK):Prop:=∀ (ad:List (Addr×Obj)) (σ:St) (H:Hp) (s:Shared) (e:Value) (s':Shared),Inv X ad σ H s->CX X.stack H s E e s'->X.xe e s'
variable {CX:CXT}{fd:FuncData}{ps:List Str}{sp:Sp}{m:Str}{p apos:Pos}
section
variable {k:Nat}{dvs:List V}{ds:List Value}{E:XK}{x:Str}
theorem jJ2 {ad:List (Addr×Obj)}{σ:St}{H:Hp}{s:Shared}{Q:VK}{us:List Value}{vs:List V}(F:FnOk X.prog X.w X.K X.mg X.base CX k f fd ps sp)(hr:Room k X.A)(hb:Binds X.K fd ps ds)(hd:Vals dvs ds)(hx:jCB CX X E)
  (I:Inv X ad σ H s) (r:Vals vs us) (h:sp (vs++dvs) H Q E):wpAny (model X.prog X.w) X.A (call (.ref f) us) (EP X ad σ Q) X.xe s:=by
 have r2:Vals (vs++dvs) (us++ds):=r.append hd
 have hl:(us++ds).length=ps.length:=by rw[<- r2.length]; exact F.len _ _ _ _ h
 refine dP (b9 (F.run X.A X.stack s H ⟨us,[]⟩ (us++ds) (vs++dvs) Q E hr I.env0 (hb s us I.kIn hl) r2 h) fun r s' hq=>?_)
 cases r with
 | error e=>exact hx ad σ H s e s' I hq
 | ok fl=>
  cases fl with
  | ret u=>exact I.after hq
  | next=>exact False.elim hq
  | brk=>exact False.elim hq
  | cont=>exact False.elim hq
theorem jP6 (F:FnOk X.prog X.w X.K X.mg X.base CX k f fd ps sp)(hr:Room k X.A)(hg:Gl X x)(hm:X.mg x=some (.ref f))(hk:keepIn X.K (.ref f)=true)(hb:Binds X.K fd ps ds)(hd:Vals dvs ds)(hx:jCB CX X E)
  (ha:PA X (e::es) t) (hdb:(x==("__debug__" :Str))=false:=by decide) (he:starEach (e::es) X.env=(false,eval e X.env)::starEach es X.env:=by rfl) (hpl:(backTo pos (starEach es X.env)).any (·.1)=false:=by rfl):
  PE X (.Call (.Name x p) (e::es) [] pos) (tCall sp dvs E t):=by
 intro ad s σ H Q I h
 refine bY (jBV I hg hm ?_ hdb)
 refine dQ (h₀:=X.base) I.ok.mod.kin hk (ir (ha pos ad s σ H _ I h) fun us s1 ⟨vs,H1,I1,r,q⟩=>⟨I1.kIn,?_⟩) he hpl
 exact jJ2 F hr hb hd hx I1 r q
theorem jFF {pl:Sem Bool}(he:PE X o ta)(c:Cls X.K C)(hm:Meth X.K C m f)(F:FnOk X.prog X.w X.K X.mg X.base CX k f fd ps sp)(hr:Room k X.A)(hb:Binds X.K fd ps ds)(hd:Vals dvs ds)(hx:jCB CX X E)(ha:PA X (e::es) t)
  (hst:starEach (e::es) X.env=(false,eval e X.env)::starEach es X.env:=by rfl) (hpl:(backTo pos (starEach es X.env)).any (·.1)=false:=by rfl)
  (ht:eval (.Call (.Attribute o m apos) (e::es) [] pos) X.env=(do
   let ov <- eval o X.env
   standAt apos.atName
   let (f,first) <- holding [ov] (getMethod ov m pl)
   callWith pos f first (backTo pos (starEach (e::es) X.env)) (backToKw pos (keywordEach [] X.env))):=by rfl):
  PE X (.Call (.Attribute o m apos) (e::es) [] pos) (tMeth C m sp dvs E ta t):=by
 intro ad s σ H Q I h
 refine dg (pl:=pl) (ir (he ad s σ H _ I h) fun u s1 ⟨x,H1,I1,rx,a,dx,fs,ex,ea,l,q⟩=>?_) ht
 subst ex
 obtain rfl:u=Value.ref a:=rx
 refine jB1 I1 ea c hm l ?_
 refine dQ (first:=[.ref a]) (h₀:=X.base) I.ok.mod.kin hm.kp (ir (ha pos ad s1 σ H1 _ I1 q) fun us s2 ⟨vs,H2,I2,r,q2⟩=>⟨I2.kIn,?_⟩) hst hpl
 exact jJ2 (us:= .ref a::us) (vs:= .ref a::vs) F hr hb hd hx I2 (.cons rfl r) q2
theorem jLS {pl:Sem Bool}(he:PE X o ta)(c:Cls X.K C)(hm:Meth X.K C m f)(F:FnOk X.prog X.w X.K X.mg X.base CX k f fd ps sp)(hr:Room k X.A)(hb:Binds X.K fd ps ds)(hd:Vals dvs ds)(hx:jCB CX X E)
  (ht:eval (.Call (.Attribute o m apos) [] [] pos) X.env=(do
   let ov <- eval o X.env
   standAt apos.atName
   let (f,first) <- holding [ov] (getMethod ov m pl)
   callWith pos f first (backTo pos (starEach [] X.env)) (backToKw pos (keywordEach [] X.env))):=by rfl):
  PE X (.Call (.Attribute o m apos) [] [] pos) (tMeth C m sp dvs E ta tNil):=by
 intro ad s σ H Q I h
 refine dg (pl:=pl) (ir (he ad s σ H _ I h) fun u s1 ⟨x,H1,I1,rx,a,dx,fs,ex,ea,l,q⟩=>?_) ht
 subst ex
 obtain rfl:u=Value.ref a:=rx
 refine jB1 I1 ea c hm l ?_
 exact fi (first:=[.ref a]) I1.kIn hm.kp (jJ2 (us:=[.ref a]) (vs:=[.ref a]) F hr hb hd hx I1 (.cons rfl .nil) q)
structure Mk (K:W.Frag)(C f:Addr):Prop where
 makes:makesIn K C=true
 init:findIn K (.ref C) "__init__" =some (some (.ref f))
 fn:isFn K (.ref f)=true
 kp:keepIn K (.ref C)=true
theorem jLI {ad:List (Addr×Obj)}{σ:St}{H:Hp}{s:Shared}{Q:VK}{us:List Value}{vs:List V}(M:Mk X.K C f)(F:FnOk X.prog X.w X.K X.mg X.base CX k f fd ps sp)(hr:Room (k+1) X.A)(hb:Binds X.K fd ps ds)(hd:Vals dvs ds)
  (hx:jCB CX X E) (I:Inv X ad σ H s) (r:Vals vs us)
  (h:∀ x dx,H x=none->H dx=none->dx≠x->sp (.ref x::(vs++dvs)) (upd (upd H dx (.own x)) x (.ins C dx [])) (fun v H2=>v= .non/\Q (.ref x) H2) E):
  wpAny (model X.prog X.w) X.A (call (.ref C) us) (EP X ad σ Q) X.xe s:=by
 have hq:=h (s.heap.objs.size+1) s.heap.objs.size (I.hok.fresh (cR _)) (I.hok.fresh (aq _)) (aF (gg _))
 have I2:=Inv.made (C:=C) I
 have r2:Vals (V.ref (s.heap.objs.size+1)::(vs++dvs)) (Value.ref (s.heap.objs.size+1)::(us++ds)):= .cons rfl (r.append hd)
 have hl:(Value.ref (s.heap.objs.size+1)::us++ds).length=ps.length:=by
  have e:=r2.length
  rw[F.len _ _ _ _ hq] at e
  exact e.symm
 refine dP (jMC (f:=f) I.kIn M.makes M.init (fw.mp M.fn) (b9 (F.run _ X.stack _ _ ⟨Value.ref (s.heap.objs.size+1)::us,[]⟩ (Value.ref (s.heap.objs.size+1)::(us++ds)) _ _ E (hr.make C us [])
  (I2.env0.make C us []) (hb _ (Value.ref (s.heap.objs.size+1)::us) I2.kIn hl) r2 hq) fun r s' hq'=>?_))
 cases r with
 | error e=>exact hx ad σ _ _ e s' I2 hq'
 | ok fl=>
  cases fl with
  | ret u=>
   obtain⟨v,H',I3,rv,ev,q3⟩:=I2.after hq'
   subst ev
   exact⟨rv,⟨V.ref (s.heap.objs.size+1),H',I3,rfl,q3⟩⟩
  | next=>exact False.elim hq'
  | brk=>exact False.elim hq'
  | cont=>exact False.elim hq'
theorem jLT (M:Mk X.K C f)(F:FnOk X.prog X.w X.K X.mg X.base CX k f fd ps sp)(hr:Room (k+1) X.A)(hg:Gl X x)(hm:X.mg x=some (.ref C))(hb:Binds X.K fd ps ds)(hd:Vals dvs ds)(hx:jCB CX X E)
  (hdb:(x==("__debug__" :Str))=false:=by decide):PE X (.Call (.Name x p) [] [] pos) (tMake C sp dvs E tNil):=by
 intro ad s σ H Q I h
 refine bY (jBV I hg hm ?_ hdb)
 exact fi I.kIn M.kp (jLI (us:=[]) M F hr hb hd hx I .nil h)
end
section
variable {k:Nat}{ks:List Str}{E:XK}{x:Str}{kpos:Pos}{kws:List Keyword}{tk:TA}{nm:Option Str}
variable {g:List Value->List Value->List Value}{gV:List V->List V->List V}
end
structure FnScope (N P:List Str)(sc:Scope):Prop where
 kind:sc.kind= .function:=by rfl
 co:sc.isCoroutine=false:=by rfl
 gen:sc.isGenerator=false:=by rfl
 nd:N.Nodup:=by decide+kernel
 pre:N.take P.length=P:=by rfl
 par:∀ x∈P,sc.names.lookup x=some .local\/sc.names.lookup x=some .cell:=by decide+kernel
 nofree:∀ y∈sc.names,y.2≠ .free:=by decide+kernel
theorem jF4 {kindOf:Str->Option NameKind}{x:Str} :∀ {binds:List (Str×Value)}{m:Str->Option Value},(∀ v,(x,v)∉binds)->bindL kindOf binds m x=m x
 | [],_,_=>rfl
 | (n,v)::r,m,h=>by
  unfold bindL
  rw[jF4 fun w hw=>h w (aI _ hw)]
  split
  ·have:x≠n:=by rintro rfl; exact h v aJ
   simp [this]
  ·rfl
theorem jF6 {kindOf:Str->Option NameKind}{x:Str} :∀ {binds:List (Str×Value)}{m:Str->Option Value},(∀ v,(x,v)∉binds)->bindC kindOf binds m x=m x
 | [],_,_=>rfl
 | (n,v)::r,m,h=>by
  unfold bindC
  rw[jF6 fun w hw=>h w (aI _ hw)]
  split
  ·rfl
  ·have:x≠n:=by rintro rfl; exact h v aJ
   simp [this]
theorem jF5 {kindOf:Str->Option NameKind}{x:Str}{v:Value} :∀ {P:List Str}{vs:List Value}{i:Nat}{m:Str->Option Value},P.Nodup->P[i]?=some x->vs[i]?=some v->kindOf x=some .local->
  bindL kindOf (P.zip vs) m x=some v
 | [],_,_,_,_,h,_,_=>by simp at h
 | _::_,[],_,_,_,_,h,_=>by simp at h
 | p::P,w::vs,0,m,nd,h1,h2,hk=>by
  simp at h1 h2; subst h1; subst h2
  show bindL kindOf ((p,w)::P.zip vs) m p=_
  unfold bindL
  rw[jF4 fun v hv=>(bS.mp nd).1 (db hv).1,aB hk]
  simp
 | p::P,w::vs,i+1,m,nd,h1,h2,hk=>by
  show bindL kindOf ((p,w)::P.zip vs) m x=_
  unfold bindL
  exact jF5 (i:=i) (bS.mp nd).2 (by simpa using h1) (by simpa using h2) hk
theorem jF7 {kindOf:Str->Option NameKind}{x:Str}{v:Value} :∀ {P:List Str}{vs:List Value}{i:Nat}{m:Str->Option Value},P.Nodup->P[i]?=some x->vs[i]?=some v->kindOf x≠some .local->
  bindC kindOf (P.zip vs) m x=some v
 | [],_,_,_,_,h,_,_=>by simp at h
 | _::_,[],_,_,_,_,h,_=>by simp at h
 | p::P,w::vs,0,m,nd,h1,h2,hk=>by
  simp at h1 h2; subst h1; subst h2
  show bindC kindOf ((p,w)::P.zip vs) m p=_
  unfold bindC
  rw[jF6 fun v hv=>(bS.mp nd).1 (db hv).1,av hk]
  simp
 | p::P,w::vs,i+1,m,nd,h1,h2,hk=>by
  show bindC kindOf ((p,w)::P.zip vs) m x=_
  unfold bindC
  exact jF7 (i:=i) (bS.mp nd).2 (by simpa using h1) (by simpa using h2) hk
def start (N:List Str)(vs:List V):St:=vs.map some++replicate (N.length - vs.length) none
def cxOf (CX:CXT)(P:Program)(w:World)(K:W.Frag)(mg:Str->Option Value)(base:Heap)(N:List Str)(qual:Str)(scope:Scope)(f:Addr)(cd:Value)(A:Around)(outer:List Env)(s:Shared)(H:Hp)(E:XK):Cx where
 prog:=P
 w:=w
 K:=K
 mg:=mg
 base:=base
 A:=A.deeper (envOfC qual scope s.heap.objs.size f cd)
 N:=N
 s₀:=s
 H₀:=H
 env:=envOfC qual scope s.heap.objs.size f cd
 outer:=outer
 stack:=envOfC qual scope s.heap.objs.size f cd::outer
 ex:=[]
 calm:=true
 fn:=fun _=>true
 pn:=[]
 xe:=fun e s'=>wpAny (model P w) (A.deeper (envOfC qual scope s.heap.objs.size f cd)) (leaving (envOfC qual scope s.heap.objs.size f cd) e) (fun _ s''=>CX outer H s E e s'') (fun e' s''=>CX outer H s E e' s'') s'
theorem jHA {sc:Scope}{n:Nat}{x:Str}(h:sc.names.lookup x=some .cell):∃ c,(cellsFrom n sc.names []).lookup x=some c:=by
 have q:=dZ sc.names n [] (.inl h)
 exact cG.mp q
theorem jET {CX:CXT}{P:Program}{w:World}{K:W.Frag}{mg:Str->Option Value}{base:Heap}{N ps:List Str}{qual:Str}{scope:Scope}{f:Addr}{cd:Value}{A:Around}{outer:List Env}{s s1:Shared}{H:Hp}{E:XK}{us:List Value}{vs:List V}
  (S:FnScope N ps scope) (hd:A.handled=none) (e0:Env0 P w K mg base A outer s H) (hl:vs.length=ps.length) (r:Vals vs us)
  (x:InCallC s s.heap.objs.size (bindL (envOfC qual scope s.heap.objs.size f cd).kindOf (ps.zip us) fun _=>none) (cellsFrom (s.heap.objs.size+1) scope.names []) (bindC (envOfC qual scope s.heap.objs.size f cd).kindOf (ps.zip us) fun _=>none) s1):
  Inv (cxOf CX P w K mg base N qual scope f cd A outer s H E) [] (start N vs) H s1:=by
 have hpl:ps.length<=N.length:=by have:=bO List.length S.pre; rw[bJ] at this; omega
 obtain⟨h1,tk,rfl,hk⟩:=x.done
 have noA:∀ b:Addr,b∉(cxOf CX P w K mg base N qual scope f cd A outer s H E).ex:=fun b z=>absurd (show b∈([]:List Addr) from z) (by simp)
 refine⟨⟨e0.mod,S.kind,rfl,rfl,aq _,fun y z c h1 h2=>?_,fun y hy=>?_,fun y c _ h=>?_,fun _=>hd,eY e0.frames, .inr ⟨rfl,rfl⟩,fun b z=>absurd z (noA b),e0.bs,e0.bsz,fun b _ _=>noA b,fun b z=>absurd z (noA b),e0.funs,e0.frf⟩,
  rfl,e0.bare,Un.kept hk,⟨_,x.toInCall.ns,fun i y v h1 h2 h3=>?_⟩,fun y c h=>⟨_,x.cell y c h⟩,e0.hok.fresh (aq _),fun y c h=>?_,fun p hp=>absurd (show p∈([]:List (Addr×Obj)) from hp) (by simp),e0.hok.kept hk,?_⟩
 ·exact name_of_addr x.apart (bQ h1) (bQ h2)
 ·have hy:scope.names.lookup y=some .cell\/scope.names.lookup y=some .free:=hy
  rcases hy with hy | hy
  ·exact jHA hy
  ·exact absurd rfl (S.nofree _ (bQ hy))
 ·exact dD (x.above y c (bQ h))
 ·have hi:i<vs.length:=by
   unfold start at h2
   by_cases hi:i<vs.length
   ·exact hi
   ·rw[bt (by simpa using hi)] at h2
    rw[gi] at h2
    split at h2 <;> cases h2
  have ha:vs[i]?=some v:=by
   unfold start at h2
   rw[bV (by simpa using hi),aL] at h2
   cases e:vs[i]? with
   | none=>rw[e] at h2; cases h2
   | some a=>rw[e] at h2; cases h2; rfl
  obtain⟨u,hu,rv⟩:=r.get ha
  have hp:ps[i]?=some y:=by
   rw[<- S.pre,gc (by omega)]; exact h1
  have ndP:ps.Nodup:=by rw[<- S.pre]; exact S.nd.sublist (fX _ _)
  refine⟨u,rv,?_⟩
  rcases S.par y (aP hp) with k | k
  ·exact .inl ⟨k,jF5 ndP hp hu k⟩
  ·obtain⟨c,e⟩:=jHA (n:=s.heap.objs.size+1) k
   refine .inr ⟨.inl k,c,e,?_⟩
   have q:=x.cell y c e
   rw[jF7 ndP hp hu (by show scope.names.lookup y≠_; rw[k]; decide)] at q
   exact q
 ·exact e0.hok.fresh (dD (x.above y c (bQ h)))
 ·unfold start
  show _=N.length
  rw[aD,ag,eF]
  omega
theorem fn_of {CX:CXT}{P:Program}{w:World}{K:W.Frag}{mg:Str->Option Value}{base:Heap}{k:Nat}{f:Addr}{name qual:Str}{params:Arguments}{body:List Stmt}{scope:Scope}{dV kV doc pm cdv ct oc:Value}{an od:Option Addr}
  {osl:Array (Option Value)}{N ps:List Str}{sp:Sp}(lk:K.lookup f=some ⟨oc,od, .func (PySem.W.fnOf name qual params body scope dV kV doc pm an cdv ct),osl⟩) (hcd:PySem.W.codeIn K cdv qual=true) (S:FnScope N ps scope)
  (len:∀ vs H Q E,sp vs H Q E->vs.length=ps.length)
  (hbody:∀ (A:Around) (outer:List Env) (s:Shared) (H:Hp) (vs:List V) (Q:VK) (E:XK),Room k (A.deeper (envOfC qual scope s.heap.objs.size f cdv))->sp vs H Q E->
   ∃ t,PSs (cxOf CX P w K mg base N qual scope f cdv A outer s H E) body t/\t { nx:=fun _ H'=>Q .non H',rt:=Q} (start N vs) H):
  FnOk P w K mg base CX (k+1) f (PySem.W.fnOf name qual params body scope dV kV doc pm an cdv ct) ps sp:=by
 refine⟨len,fun A outer s H args us vs Q E hr e0 hb r hsp=>?_⟩
 have hl:=len _ _ _ _ hsp
 have KX:K.In s.heap:=e0.mod.kin.keeps fun b o e=>(e0.bs b o e).1
 have lim:s.heap.NoLimit:=e0.mod.nolimit.keeps fun b o e=>(e0.bs b o e).1
 have hkind:∀ y∈ps.zip us,scope.names.lookup y.1=some .local\/(scope.names.lookup y.1=some .cell/\((cellsFrom (s.heap.objs.size+1) scope.names []).lookup y.1).isSome=true):=fun ⟨n,v⟩ hy=>by
  rcases S.par n (db hy).1 with q | q
  ·exact .inl q
  ·exact .inr ⟨q,dZ _ _ _ (.inl q)⟩
 refine codeAny_call_function hr.depth (KX _ _ lk) rfl S.co S.gen rfl (g8 KX hcd) (hb _ _ _ _ ?_)
 refine fz S.kind hkind fun env he s1 x=>?_
 subst he
 refine⟨lim.keeps x.toInCall.keep,codeAny_func ?_⟩
 obtain⟨t,ht,hq⟩:=hbody A outer s H vs Q E (hr.deeper _) hsp
 have I:Inv (cxOf CX P w K mg base N qual scope f cdv A outer s H E) [] (start N vs) H s1:=jET S hr.hd e0 hl r x
 refine aZ (ht [] s1 (start N vs) H _ I hq) (fun fl s' hs=>?_) fun e s' hs=>hs
 have fin:∀ {σ':St}{H':Hp}{v:V}{u:Value},Inv (cxOf CX P w K mg base N qual scope f cdv A outer s H E) [] σ' H' s'->RelV v u->Q v H'->CE outer P w H s Q u s':=
  fun {σ' H' v u} J rv q=>⟨v,H',J.os,J.bare,J.base,J.hok,rv,q⟩
 cases fl with
 | ret u=>
  obtain⟨v,σ',H',J,rv,q⟩:=hs
  exact fin J rv q
 | next=>
  obtain⟨σ',H',J,q⟩:=hs
  exact fin (v:=V.non) (u:=Value.none) J rfl q
 | brk=>
  obtain⟨_,_,_,q⟩:=hs
  exact False.elim q
 | cont=>
  obtain⟨_,_,_,q⟩:=hs
  exact False.elim q
section
variable {x:Str}{id T:String}{r:List V->Hp->VK->Prop}
def tCB (r:List V->Hp->VK->Prop)(t:TA):TE:=fun σ H Q=>t σ H fun vs H1=>r vs H1 Q
theorem jDV (hc:yR X (.builtin id) r)(hg:Gl X x)(hm:X.mg x=none)(hv:bootBuiltins x=some (.builtin id))(ha:PA X (e::es) t)(hn:x≠ "__name__" :=by decide)(hdb:(x==("__debug__" :Str))=false:=by decide)
  (he:starEach (e::es) X.env=(false,eval e X.env)::starEach es X.env:=by rfl) (hpl:(backTo pos (starEach es X.env)).any (·.1)=false:=by rfl):PE X (.Call (.Name x p) (e::es) [] pos) (tCB r t):=by
 intro ad s σ H Q I h
 refine bY (jCX I hg hm hv ?_ hn hdb)
 exact PyProof.Rows.callWith_builtin1 (ir (ha pos ad s σ H _ I h) fun us s1 ⟨vs,H1,I1,r1,q1⟩=>hc ad s1 σ H1 vs us Q I1 r1 q1) he hpl
theorem jBI (hc:yR X (.type T) r)(hg:Gl X x)(hm:X.mg x=none)(hv:bootBuiltins x=some (.type T))(ha:PA X (e::es) t)(hn:x≠ "__name__" :=by decide)(hdb:(x==("__debug__" :Str))=false:=by decide)
  (he:starEach (e::es) X.env=(false,eval e X.env)::starEach es X.env:=by rfl) (hpl:(backTo pos (starEach es X.env)).any (·.1)=false:=by rfl):PE X (.Call (.Name x p) (e::es) [] pos) (tCB r t):=by
 intro ad s σ H Q I h
 refine bY (jCX I hg hm hv ?_ hn hdb)
 exact bN (ir (ha pos ad s σ H _ I h) fun us s1 ⟨vs,H1,I1,r1,q1⟩=>hc ad s1 σ H1 vs us Q I1 r1 q1) he hpl
end
end L2
namespace HT
open PySem PyProof.Rows
section
open PySem.SeqAt
open PySem.AutoSeq1 (wpAny_loadPart')
open PySem.MeetsSeq PySem.MeetsSeq2 PySem.MeetsSeq3
end
section
variable {prog:Program}{w:World}{A:Around}{E:Value->Shared->Prop}{s:Shared}
theorem cat_tup {t b:Addr}{vs ws:List Value}{Q:Value->Shared->Prop}(ht:IsTup s.heap t vs.toArray)(hb:IsTup s.heap b ws.toArray)(hv:vs≠ [])
  (h1:ws=[]->Q (.ref t) s) (h2:ws≠ []->Q (.ref s.heap.objs.size) { s with heap:=s.heap.push { cls:= .type "tuple",data:= .seq (vs++ws).toArray}})
  (hsz:vs.length+ws.length<=sizeLine):wpAny (model prog w) A (binaryOp .Add (.ref t) (.ref b)) Q E s:=by
 obtain⟨⟨cls,dd,data,sl⟩,ho,hc,n,hd⟩:=id ht
 obtain⟨⟨cls2,dd2,data2,sl2⟩,ho2,hc2,n2,hd2⟩:=id hb
 simp only at hc hd hc2 hd2
 subst hc hd hc2 hd2
 have e:vs.toArray++ws.toArray=(vs++ws).toArray:=by simp
 by_cases hw:ws=[]
 ·exact concat_meets ⟨_,ho,rfl⟩ ⟨_,ho2,rfl⟩ gj seq_tuple_add d0 dS (dJ _ _)
   (tuple_addW1 t b vs.toArray ws.toArray n n2 dd dd2 sl sl2 (by simpa using hv) (by simp [hw])) ⟨ho,ho2,h1 hw⟩
 ·refine concat_meets ⟨_,ho,rfl⟩ ⟨_,ho2,rfl⟩ gj seq_tuple_add d0 dS (dJ _ _)
   (tuple_addW2 t b vs.toArray ws.toArray n n2 dd dd2 sl sl2 (by simpa using hv) (by simpa using hw) (by rw[aA,aA]; exact hsz)) ⟨ho,ho2,?_⟩
  rw[e]
  exact h2 hw
noncomputable def sIx (n d:Nat):Option Int->Nat
 | none=>d
 | some v=>if v<0 then (v+(n:Int)).toNat else min v.toNat n
theorem sIx_none (n d:Nat):sIx n d none=d:=rfl
theorem sIx_nat (n d k:Nat):sIx n d (some (k:Int))=min k n:=by
 show (if (k:Int)<0 then ((k:Int)+(n:Int)).toNat else min (k:Int).toNat n)=min k n
 rw[av (by omega),bv]
theorem jQR (n d:Nat)(hd:d<=n)(o:Option Int):sIx n d o<=n:=by
 cases o with
 | none=>exact hd
 | some v=>
  show (if v<0 then (v+(n:Int)).toNat else min v.toNat n)<=n
  by_cases hv:v<0
  ·rw[aB hv]; omega
  ·rw[av hv]; exact Nat.min_le_right _ _
theorem jKU (v:Int)(n d:Nat):(if v<0 then max (v+(n:Int)) 0 else min v (n:Int))=((sIx n d (some v):Nat):Int):=by
 show (if v<0 then max (v+(n:Int)) 0 else min v (n:Int))=(((if v<0 then (v+(n:Int)).toNat else min v.toNat n):Nat):Int)
 by_cases hv:v<0
 ·simp only [aB hv]; omega
 ·simp only [av hv]; omega
theorem jIB (lo hi:Option Int)(n:Nat):Builtin.Slice.sliceAdjust lo hi 1 (n:Int)=(((sIx n 0 lo:Nat):Int),((sIx n n hi:Nat):Int)):=by
 have h1:¬ ((1:Int)<0):=by omega
 unfold Builtin.Slice.sliceAdjust
 simp only [h1,if_false]
 refine Prod.ext ?_ ?_
 ·cases lo with
  | none=>rfl
  | some v=>exact jKU v n 0
 ·cases hi with
  | none=>rfl
  | some v=>exact jKU v n n
theorem jHR (i j:Nat):Builtin.Slice.slicePlaces (i:Int) (j:Int) 1=j - i:=by
 unfold Builtin.Slice.slicePlaces
 have h1:(1:Int)>0:=by omega
 simp only [h1,ig,Int.ediv_one]
 split <;> omega
theorem slicePart_ {v:Value}{o:Option Int}{Q:Option Int->Shared->Prop}(p:IsPart v o)(h:Q o s):wpAny (model prog w) A (Builtin.Slice.slicePartIndex v) Q E s:=by
 cases p with
 | none=>exact fF h
 | int i t=>exact slicePart_int h
theorem sliceApplied_gen {sl:Addr}{vl vu:Value}{lo hi:Option Int}{n:Nat}{Q:Int×Int×Nat->Shared->Prop}(hs:s.heap.IsSliceOf sl vl vu .none)(pl:IsPart vl lo)(pu:IsPart vu hi)
  (h:Q (((sIx n 0 lo:Nat):Int),1,sIx n n hi - sIx n 0 lo) s):wpAny (model prog w) A (Builtin.Slice.sliceApplied (.ref sl) (pure (n:Int))) Q E s:=by
 obtain⟨os,hos,hcs,hds⟩:=id hs
 unfold Builtin.Slice.sliceApplied Builtin.Slice.sliceFields
 refine ac (ac (aR hos hds (x:=vl) rfl (ac (aR hos hds (x:=vu) rfl (ac (aR hos hds (x:= .none) rfl (af ?_)))))))
 refine ac (fF ?_)
 show wpAny _ _ (if ((1:Int)==0)=true then _ else _) _ _ s
 rw[av (by decide)]
 refine ac (slicePart_ pl (ac (slicePart_ pu (ac (af ?_)))))
 show wpAny _ _ (match Builtin.Slice.sliceAdjust lo hi 1 (n:Int) with | (lo,hi)=>pure (lo,(1:Int),Builtin.Slice.slicePlaces lo hi 1)) _ _ s
 rw[jIB lo hi n]
 show wpAny _ _ (pure (((sIx n 0 lo:Nat):Int),(1:Int),Builtin.Slice.slicePlaces ((sIx n 0 lo:Nat):Int) ((sIx n n hi:Nat):Int) 1)) _ _ s
 rw[jHR]
 exact af h
theorem jLP (xs:Array Value)(i k:Nat):((List.range k).filterMap fun (m:Nat)=>xs[((i:Int)+(m:Int)*1).toNat]?).toArray=((xs.toList.drop i).take k).toArray:=by
 have e:(fun (m:Nat)=>xs[((i:Int)+(m:Int)*1).toNat]?)=fun m=>xs[i+m]?:=by
  funext m
  have:((i:Int)+(m:Int)*1).toNat=i+m:=by omega
  rw[this]
 rw[e]
 have:=pick_run xs i k
 rw[List.filterMap_map] at this
 have e2:((fun x=>xs[x]?) ∘ fun x=>i+x)=fun m=>xs[i+m]?:=rfl
 rw[e2] at this
 rw[this]
theorem getItem_tuple_cut {t sl:Addr}{items:Array Value}{vl vu:Value}{lo hi:Option Int}{Q:Value->Shared->Prop}(ht:IsTup s.heap t items)(hs:s.heap.IsSliceOf sl vl vu .none)(pl:IsPart vl lo)(pu:IsPart vu hi)
  (hw:¬ (sIx items.size 0 lo=0/\sIx items.size items.size hi=items.size))
  (h:Q (.ref s.heap.objs.size) { s with heap:=s.heap.push { cls:= .type "tuple",data:= .seq ((items.toList.drop (sIx items.size 0 lo)).take (sIx items.size items.size hi - sIx items.size 0 lo)).toArray}})
  (hsz:items.size<=sizeLine):wpAny (model prog w) A (getItem (.ref t) (.ref sl)) Q E s:=by
 have htake:sizeOk (.seq ((items.toList.drop (sIx items.size 0 lo)).take (sIx items.size items.size hi - sIx items.size 0 lo)).toArray):=by
  show ((items.toList.drop (sIx items.size 0 lo)).take (sIx items.size items.size hi - sIx items.size 0 lo)).toArray.size<=sizeLine
  rw[aA,bJ,cr,bp]
  omega
 have hj:sIx items.size items.size hi<=items.size:=jQR _ _ (aq _) hi
 obtain⟨os,hos,hcs,hds⟩:=id hs
 have hTs:s.TypeIs (.ref sl) "slice" :=⟨os,hos,hcs⟩
 unfold getItem
 try with_reducible refine aO ?_
 first | refine ac (af ?_) | skip
 refine ac (fY ht.typeIs (by decide) ?_)
 refine ac (ba (name:=Str.ofString "__getitem__") ht.typeIs aS
  (bf aS ht.typeIs fj ?_ (fH _ _)))
 show wpAny _ _ (Builtin.Tuple.tupleItemsOf (.ref t) >>= _) _ _ s
 refine ac (tupleItemsOf_ ht ?_)
 refine ac (cU hTs ?_)
 rw[aB (by decide)]
 refine ac (sliceApplied_gen hs pl pu ?_)
 have hno:¬ ((((sIx items.size 0 lo:Nat):Int)==0&&(1:Int)==1&&(sIx items.size items.size hi - sIx items.size 0 lo)==items.size)=true):=by
  intro q
  rw[aV,aV] at q
  have q1:((sIx items.size 0 lo:Nat):Int)=0:=eq_of_beq q.1.1
  have q2:sIx items.size items.size hi - sIx items.size 0 lo=items.size:=eq_of_beq q.2
  exact hw ⟨by omega,by omega⟩
 show wpAny _ _ (if (((sIx items.size 0 lo:Nat):Int)==0&&(1:Int)==1&&(sIx items.size items.size hi - sIx items.size 0 lo)==items.size)=true then _ else _) _ _ s
 rw[av hno,jLP]
 first
  | exact ac (m:=Builtin.Tuple.tupleExact _) (aW (af ⟨_,rfl,af h⟩) htake)
  | exact ac (m:=Builtin.Tuple.tupleExact _) (aW (ac (af (af ⟨_,rfl,af h⟩))) htake)
  | exact ac (ac (m:=Builtin.Tuple.tupleExact _) (aW (af (af ⟨_,rfl,af h⟩)) htake))
  | exact ac (ac (m:=Builtin.Tuple.tupleExact _) (aW (af ⟨_,rfl,af h⟩) htake))
end
end HT
namespace L2
open PySem PySem.Spec PyProof.Rows
abbrev TO:=St->Hp->(Option Int->Hp->Prop)->Prop
def PO (X:Cx)(e:Option Expr)(t:TO):Prop:=
 ∀ (ad:List (Addr×Obj)) (s:Shared) (σ:St) (H:Hp) (Q:Option Int->Hp->Prop),Inv X ad σ H s->t σ H Q->
  wpAny (model X.prog X.w) X.A (evalPart e X.env) (fun u s'=>∃ o H',Inv X ad σ H' s'/\IsPart u o/\Q o H') X.xe s
def jIL:TO:=fun _ H Q=>Q none H
def tPart (t:TE):TO:=fun σ H Q=>t σ H fun x H1=>∃ i,x= .int i/\Q (some i) H1
variable {X:Cx}{e:Expr}{pos:Pos}
section
variable {te:TE}{lo hi:Option Expr}{tl th:TO}{p2:Pos}
theorem jOX:PO X none jIL:=by
 intro ad s σ H Q I h
 rw[evalPart_none]
 exact af ⟨none,H,I, .none,h⟩
theorem jOW (h:PE X e te):PO X (some e) (tPart te):=by
 intro ad s σ H Q I hw
 rw[evalPart_some]
 refine ir (h ad s σ H _ I hw) fun u s1 ⟨x,H1,I1,r1,q1⟩=>?_
 obtain⟨i,rfl,q⟩:=q1
 obtain⟨t,rfl⟩:=r1
 exact⟨some i,H1,I1, .int i t,q⟩
def SlR (X:Cx)(r:V->Option Int->Option Int->Hp->VK->Prop):Prop:=
 ∀ (ad:List (Addr×Obj)) (s:Shared) (σ:St) (H:Hp) (x:V) (v vl vu:Value) (lo hi:Option Int) (sl:Addr) (Q:VK),Inv X ad σ H s->RelV x v->s.heap.IsSliceOf sl vl vu .none->IsPart vl lo->IsPart vu hi->r x lo hi H Q->
  ∃ T id,typeLookup (.type T) "__getitem__" =pure (some (.builtin id))/\s.TypeIs v T/\wpAny (model X.prog X.w) X.A (getItem v (.ref sl)) (EP X ad σ Q) X.xe s
def tSl (r:V->Option Int->Option Int->Hp->VK->Prop)(te:TE)(tl th:TO):TE:=fun σ H Q=>te σ H fun x H1=>tl σ H1 fun l H2=>th σ H2 fun u H3=>r x l u H3 Q
theorem jLR {r:V->Option Int->Option Int->Hp->VK->Prop}(hr:SlR X r)(he:PE X e te)(hl:PO X lo tl)(hu:PO X hi th):PE X (.Subscript e (.Slice lo hi none p2) pos) (tSl r te tl th):=by
 intro ad s σ H Q I h
 refine Subscript_ (ir (he ad s σ H _ I h) fun v s1 ⟨x,H1,I1,r1,q1⟩=>?_)
 refine wpAny_Slice (ir (hl ad s1 σ H1 _ I1 q1) fun vl s2 ⟨l,H2,I2,pl,q2⟩=>ir (hu ad s2 σ H2 _ I2 q2) fun vu s3 ⟨u,H3,I3,pu,q3⟩=>?_)
 rw[evalPart_none]
 refine af ?_
 have I4:Inv X ad σ H3 { s3 with heap:=s3.heap.push { cls:= .type "slice",data:= .fields #[vl,vu, .none]}} :=I3.kept (t':=s3.toks) fun b ob q=>ae _ q
 obtain⟨T,id,hT,ht,hg⟩:=hr ad { s3 with heap:=s3.heap.push { cls:= .type "slice",data:= .fields #[vl,vu, .none]}} σ H3 x v vl vu l u s3.heap.objs.size Q I4 r1 (Heap.IsSliceOf.new ..) pl pu q3
 show wpAny (model X.prog X.w) X.A (subscriptTail e (.Slice lo hi none p2) v (.ref s3.heap.objs.size)) (EP X ad σ Q) X.xe { s3 with heap:=s3.heap.push { cls:= .type "slice",data:= .fields #[vl,vu, .none]}}
 exact tail_any (ops:=[.ref s3.heap.objs.size,v]) ht hT hg (by with_unfolding_all rfl)
def cutV (xs:List V)(lo hi:Option Int):List V:=(xs.drop (HT.sIx xs.length 0 lo)).take (HT.sIx xs.length xs.length hi - HT.sIx xs.length 0 lo)
theorem jFU (xs:List V)(lo hi:Option Int):(cutV xs lo hi).length<=xs.length:=by
 unfold cutV
 rw[bJ,cr]
 omega
def rSlT (K:W.Frag):V->Option Int->Option Int->Hp->VK->Prop:=fun x lo hi H Q=>∃ a xs,x= .ref a/\SqT K H a xs/\
 ¬ (HT.sIx xs.length 0 lo=0/\HT.sIx xs.length xs.length hi=xs.length)/\∀ p,H p=none->Q (.ref p) (upd H p (.tup (cutV xs lo hi)))
theorem jQO:SlR X (rSlT X.K):=by
 intro ad s σ H x v vl vu lo hi sl Q I rx hs pl pu h
 obtain⟨a,xs,rfl,hx,hw,q⟩:=h
 cases rx
 obtain⟨its,r,ht,hz⟩:=I.tuple hx
 have hlen:its.toArray.size=xs.length:=by rw[aA]; exact r.length.symm
 refine⟨"tuple",_,aS.lookup,ht.typeIs,?_⟩
 refine HT.getItem_tuple_cut ht hs pl pu (by rw[hlen]; exact hw) ?_ (by rw[hlen]; exact hz)
 rw[hlen]
 refine⟨.ref s.heap.objs.size,_,I.laid (t':=s.toks) (o:= .tup (cutV xs lo hi)) (fun b ob q=>ae _ q) (aq _) ?_,rfl,q _ (I.hok.fresh (aq _))⟩
 exact⟨bF (jFU xs lo hi) hz,_,(r.drop (HT.sIx xs.length 0 lo)).take (HT.sIx xs.length xs.length hi - HT.sIx xs.length 0 lo),TupO.new _ _⟩
def rCatT (K:W.Frag):R2:=fun x y H Q=>∃ a b xs ys,x= .ref a/\y= .ref b/\SqT K H a xs/\SqT K H b ys/\xs≠ []/\xs.length+ys.length<=sizeLine/\
 (ys=[]->Q (.ref a) H)/\(ys≠ []->∀ p,H p=none->Q (.ref p) (upd H p (.tup (xs++ys))))
theorem Vals.nil_iff {xs:List V}{us:List Value}(r:Vals xs us):us=[]↔xs=[]:=by
 cases r with
 | nil=>simp
 | cons _ _=>simp
theorem jPA:OpR X (binaryOp .Add) (rCatT X.K):=by
 intro ad s σ H x y v u Q I rx ry h
 obtain⟨a,b,xs,ys,rfl,rfl,ha,hb,hx,hz,q1,q2⟩:=h
 cases rx
 cases ry
 obtain⟨its,r1,p1,_⟩:=I.tuple ha
 obtain⟨its2,r2,p2,_⟩:=I.tuple hb
 refine HT.cat_tup p1 p2 (fun z=>hx (r1.nil_iff.mp z)) (fun z=>⟨.ref a,H,I,rfl,q1 (r2.nil_iff.mp z)⟩) (fun z=>?_) (by rw[<- r1.length,<- r2.length]; exact hz)
 refine⟨.ref s.heap.objs.size,_,I.laid (t':=s.toks) (o:= .tup (xs++ys)) (fun b ob q=>ae _ q) (aq _) ?_,rfl,q2 (fun w=>z (r2.nil_iff.mpr w)) _ (I.hok.fresh (aq _))⟩
 exact⟨by rw[aD]; exact hz,_,r1.append r2,TupO.new _ _⟩
end
noncomputable def ixN (n:Nat)(i:Int):Option Nat:=if 0<=i then (if i<n then some i.toNat else none) else if -(n:Int)<=i then some (i+n).toNat else none
def atI {α:Type}(xs:List α)(i:Int):Option α:=(ixN xs.length i).bind fun j=>xs[j]?
theorem jKD {n:Nat}{i:Int}{j:Nat}(h:ixN n i=some j):seqIndex? i n=some j/\j<n/\ -(n:Int)<=i/\i<n:=by
 unfold ixN at h
 by_cases h0:0<=i
 ·rw[aB h0] at h
  by_cases h1:i<n
  ·rw[aB h1] at h
   have e:i.toNat=j:=aM h
   exact⟨by rw[seqIndex_of h0 h1,e],by omega,by omega,h1⟩
  ·rw[av h1] at h; cases h
 ·rw[av h0] at h
  by_cases h1: -(n:Int)<=i
  ·rw[aB h1] at h
   have e:(i+n).toNat=j:=aM h
   exact⟨by rw[seqIndex_neg (by omega) h1,e],by omega,h1,by omega⟩
  ·rw[av h1] at h; cases h
theorem jL3 {α:Type}{xs:List α}{i:Int}{v:α}(h:atI xs i=some v):∃ j,seqIndex? i xs.length=some j/\xs[j]?=some v/\j<xs.length/\ -(xs.length:Int)<=i/\i<xs.length:=by
 unfold atI at h
 cases e:ixN xs.length i with
 | none=>rw[e] at h; cases h
 | some j=>
  rw[e] at h
  obtain⟨h1,h2,h3,h4⟩:=jKD e
  exact⟨j,h1,h,h2,h3,h4⟩
theorem yQ {α:Type}{xs:List α}{j:Nat}{v:α}(h:xs[j]?=some v):atI xs (j:Int)=some v:=by
 have hj:j<xs.length:=(ay.mp h).1
 have e:ixN xs.length (j:Int)=some j:=by
  unfold ixN
  rw[aB (by omega),aB (by omega)]; simp
 unfold atI; rw[e]; exact h
theorem jCG {α:Type}(xs:List α)(v:α):atI (xs++[v]) (-1)=some v:=by
 have hl:(xs++[v]).length=xs.length+1:=by simp
 have e:ixN (xs++[v]).length (-1)=some xs.length:=by
  unfold ixN
  rw[hl,av (by decide),aB (by omega)]
  congr 1
  omega
 unfold atI
 rw[e]
 show (xs++[v])[xs.length]?=some v
 simp
def jAW (b:Expr):Prop:=∀ o i,subscripted b false o i=operate [o,i] (getItem o i)
def IxR (X:Cx)(r:R2):Prop:=
 ∀ (value slice:Expr) (ad:List (Addr×Obj)) (s:Shared) (σ:St) (H:Hp) (x y:V) (v u:Value) (Q:VK),Inv X ad σ H s->RelV x v->RelV y u->r x y H Q->
  subscripted slice false v u=operate [v,u] (getItem v u)->wpAny (model X.prog X.w) X.A (subscriptTail value slice v u) (EP X ad σ Q) X.xe s
def MtR (X:Cx)(id:String)(r:V->List V->Hp->VK->Prop):Prop:=
 ∀ (ad:List (Addr×Obj)) (s:Shared) (σ:St) (H:Hp) (x:V) (xs:List V) (v:Value) (us:List Value) (Q:VK),Inv X ad σ H s->RelV x v->Vals xs us->r x xs H Q->
  wpAny (model X.prog X.w) X.A (call (.builtin id) (v::us)) (EP X ad σ Q) X.xe s
section
variable {a b:Expr}{ta tb:TE}
theorem pe_ix {r:R2}(hr:IxR X r)(ha:PE X a ta)(hb:PE X b tb)(hs:jAW b):PE X (.Subscript a b pos) (tOp r ta tb):=by
 intro ad s σ H Q I h
 exact Subscript_ (binT ha hb I h fun v u s2 x y H2 I2 rx ry q=>hr a b ad s2 σ H2 x y v u Q I2 rx ry q (hs _ _))
def rIxL (K:W.Frag):R2:=fun x y H Q=>∃ p xs i v,x= .ref p/\y= .int i/\SqL K H p xs/\atI xs i=some v/\Q v H
def rIxT (K:W.Frag):R2:=fun x y H Q=>∃ p xs i v,x= .ref p/\y= .int i/\SqT K H p xs/\atI xs i=some v/\Q v H
theorem yH:IxR X (rIxL X.K):=by
 intro value slice ad s σ H x y v u Q I rx ry h hs
 obtain⟨p,xs,i,z,rfl,rfl,hq,he,q⟩:=h
 cases rx
 obtain⟨t,rfl⟩:=ry
 obtain⟨its,r,pl,hz⟩:=I.list hq
 obtain⟨j,h1,h2,h3,h4,h5⟩:=jL3 he
 obtain⟨w,ew,rw'⟩:=r.get h2
 have hl:=r.length
 have hn:=jGU
 have fin:EP X ad σ Q w s:=⟨z,H,I,rw',q⟩
 by_cases h0:0<=i
 ·have hj:i.toNat=j:=by
   rw[seqIndex_of h0 h5] at h1
   exact aM h1
  exact item_listR pl.isList h0 (by omega) (by rw[hj]; simpa using ew) fin hs
 ·have hj:(i+(its.toArray.size:Int)).toNat=j:=by
   rw[seqIndex_neg (by omega) h4] at h1
   rw[aA,<- hl]
   exact aM h1
  exact subscriptTail_builtinR (x:=w) pl.isList.typeIs slot_list_getitem.lookup
   (wpAny_getItem_list_neg (Q:=fun r s'=>r=w/\EP X ad σ Q r s') pl.isList (by omega) (by rw[aA] <;> omega) (by omega) (by rw[hj]; simpa using ew) ⟨rfl,fin⟩) hs
theorem kR:IxR X (rIxT X.K):=by
 intro value slice ad s σ H x y v u Q I rx ry h hs
 obtain⟨p,xs,i,z,rfl,rfl,hq,he,q⟩:=h
 cases rx
 obtain⟨t,rfl⟩:=ry
 obtain⟨its,r,pl,hz⟩:=I.tuple hq
 obtain⟨j,h1,h2,h3,h4,h5⟩:=jL3 he
 obtain⟨w,ew,rw'⟩:=r.get h2
 have hl:=r.length
 have hn:=jGU
 have fin:EP X ad σ Q w s:=⟨z,H,I,rw',q⟩
 exact subscriptTail_builtinR (x:=w) pl.typeIs slot_tuple_getitem.lookup
  (getItem_tuple (j:=j) (Q:=fun r s'=>r=w/\EP X ad σ Q r s') pl (by omega) (by omega) (by rw[aA,<- hl]; exact h1) (by simpa using ew) ⟨rfl,fin⟩) hs
theorem jHZ (its:List Value)(n j:Nat)(u:Value):Obj.mapSeq (·.setIfInBounds j u) { cls:= .type "list",data:= .seq its.toArray n} = { cls:= .type "list",data:= .seq (its.set j u).toArray n} :=by
 simp [Obj.mapSeq]
theorem Inv.lst {ad:List (Addr×Obj)}{σ:St}{H:Hp}{s:Shared}{p:Addr}{xs:List V}(I:Inv X ad σ H s)(h:H p=some (.lst xs)):
  ∃ (its:List Value) (n:Nat),Vals xs its/\s.heap.get? p=some { cls:= .type "list",data:= .seq its.toArray n} /\xs.length<=sizeLine:=by
 obtain⟨z,its,n,r,e⟩:=I.hok p _ h
 exact⟨its,n,r,e,z⟩
theorem Inv.lstUpd {ad:List (Addr×Obj)}{σ:St}{H:Hp}{s:Shared}{p:Addr}{xs ys:List V}{its its':List Value}{n n':Nat}{f:Obj->Obj}(I:Inv X ad σ H s)(h:H p=some (.lst xs))
  (ho:s.heap.get? p=some { cls:= .type "list",data:= .seq its.toArray n}) (hf:f { cls:= .type "list",data:= .seq its.toArray n} = { cls:= .type "list",data:= .seq its'.toArray n'}) (r:Vals ys its') (hz:ys.length<=sizeLine) (t:Nat):
  Inv X ad σ (upd H p (.lst ys)) { s with heap:=s.heap.update p f,toks:=t} :=by
 have e:(s.heap.update p f).get? p=some { cls:= .type "list",data:= .seq its'.toArray n'} :=by
  rw[bE f ho (by rw[hf] <;> rfl),hf]
 refine I.write (x:=p) (e:=p) (by rw[h]; trivial) (.inl rfl) (fun b u hb q=>(bw _ _ (bo hb)).trans q) ⟨_,e⟩ ?_
 exact⟨hz,its',n',r,e⟩
def rSetL:V->V->V->Hp->(Hp->Prop)->Prop:=fun o i v H Q=>∃ p xs k j,o= .ref p/\i= .int k/\H p=some (.lst xs)/\ixN xs.length k=some j/\Q (upd H p (.lst (xs.set j v)))
theorem jLG:PSet X rSetL:=by
 intro ad s σ H o i v ov iv u Q I ro ri rv h
 obtain⟨p,xs,k,j,rfl,rfl,hp,hj,q⟩:=h
 cases ro
 obtain⟨t,rfl⟩:=ri
 obtain⟨its,n,r,ho,hz⟩:=I.lst hp
 obtain⟨h1,h2,h3,h4⟩:=jKD hj
 have hl:=r.length
 have hn:=jGU
 have I':Inv X ad σ (upd H p (.lst (xs.set j v))) { s with heap:=s.heap.update p (Obj.mapSeq (·.setIfInBounds j u))} :=
  I.lstUpd hp ho (jHZ its n j u) (r.set rv j) (by rw[gy]; exact hz) s.toks
 by_cases h0:0<=k
 ·have hk:k.toNat=j:=by
   rw[seqIndex_of h0 h4] at h1
   exact aM h1
  exact PySem.W.ki_setAt ho h0 (by omega) (by rw[aA,<- hl]; exact h4) (by rw[hk]; exact⟨_,I',q⟩)
 ·have hk:(k+(its.toArray.size:Int)).toNat=j:=by
   rw[seqIndex_neg (by omega) h3] at h1
   rw[aA,<- hl]
   exact aM h1
  exact PySem.W.ki_setBack ho (by omega) (by rw[aA,<- hl]; exact h3) (by omega) (by rw[hk]; exact⟨_,I',q⟩)
def qQ:V->Bool
 | .non=>true
 | .bl _=>true
 | .int _=>true
 | .str _=>true
 | _=>false
noncomputable def eqV:V->V->Bool
 | .non, .non=>true
 | .bl a, .bl b=>a==b
 | .bl a, .int b=>(if a then 1 else 0)==b
 | .int a, .bl b=>a==(if b then 1 else 0)
 | .int a, .int b=>a==b
 | .str a, .str b=>a==b
 | _,_=>false
theorem jS4 {A:Around}{s:Shared}{y x:V}{u v:Value}(ry:RelV y u)(rx:RelV x v)(fy:qQ y=true)(fx:qQ x=true):SeqAt.EqAt A s u v (eqV y x):=by
 cases y with
 | non=>
  cases ry
  cases x with
  | non=>cases rx; exact SeqAt.EqAt.same _
  | bl b=>cases rx; exact SeqAt.EqAt.none_bool b
  | int b=>obtain⟨t,rfl⟩:=rx; exact SeqAt.EqAt.none_int b t
  | str b=>obtain⟨t,rfl⟩:=rx; exact SeqAt.EqAt.none_str b t
  | _=>exact absurd (show false=true from fx) au
 | bl a=>
  cases ry
  cases x with
  | non=>cases rx; exact SeqAt.EqAt.bool_none a
  | bl b=>cases rx; exact SeqAt.EqAt.bool_bool a b
  | int b=>obtain⟨t,rfl⟩:=rx; exact SeqAt.EqAt.bool_int a b t
  | str b=>obtain⟨t,rfl⟩:=rx; exact SeqAt.EqAt.bool_str a b t
  | _=>exact absurd (show false=true from fx) au
 | int a=>
  obtain⟨t',rfl⟩:=ry
  cases x with
  | non=>cases rx; exact SeqAt.EqAt.int_none a t'
  | bl b=>cases rx; exact SeqAt.EqAt.int_bool a t' b
  | int b=>obtain⟨t,rfl⟩:=rx; exact SeqAt.EqAt.int_int a t' b t
  | str b=>obtain⟨t,rfl⟩:=rx; exact SeqAt.EqAt.int_str a t' b t
  | _=>exact absurd (show false=true from fx) au
 | str a=>
  obtain⟨t',rfl⟩:=ry
  cases x with
  | non=>cases rx; exact SeqAt.EqAt.str_none a t'
  | bl b=>cases rx; exact SeqAt.EqAt.str_bool a t' b
  | int b=>obtain⟨t,rfl⟩:=rx; exact SeqAt.EqAt.str_int a t' b t
  | str b=>obtain⟨t,rfl⟩:=rx; exact SeqAt.EqAt.str_str a t' b t
  | _=>exact absurd (show false=true from fx) au
 | _=>exact absurd (show false=true from fy) au
noncomputable def eqU (x:V)(u:Value):Bool:=match u with
 | .none=>eqV .non x
 | .bool b=>eqV (.bl b) x
 | .int i _=>eqV (.int i) x
 | .str z _=>eqV (.str z) x
 | _=>false
theorem jEW {x y:V}{u:Value}(r:RelV y u)(f:qQ y=true):eqU x u=eqV y x:=by
 cases y with
 | non=>cases r; rfl
 | bl b=>cases r; rfl
 | int i=>obtain⟨t,rfl⟩:=r; rfl
 | str z=>obtain⟨t,rfl⟩:=r; rfl
 | _=>exact absurd (show false=true from f) au
theorem jFY {x:V} :∀ {xs:List V}{us:List Value},Vals xs us->xs.all qQ=true->us.any (eqU x)=xs.any fun y=>eqV y x
 | _,_, .nil,_=>rfl
 | y::xs,u::us, .cons r t,f=>by
  rw[dL,aV] at f
  rw[List.any_cons,List.any_cons,jEW r f.1,jFY t f.2]
theorem jB0 {A:Around}{s:Shared}{x:V}{v:Value}(rx:RelV x v)(fx:qQ x=true):∀ {xs:List V}{us:List Value},Vals xs us->xs.all qQ=true->∀ u∈us,SeqAt.EqAt A s u v (eqU x u)
 | _,_, .nil,_=>fun u hu=>by cases hu
 | y::xs,u::us, .cons r t,f=>fun u' hu=>by
  rw[dL,aV] at f
  rcases am.mp hu with rfl | hu
  ·rw[jEW r f.1]; exact jS4 r rx f.1 fx
  ·exact jB0 rx fx t f.2 u' hu
def inV (x:V)(xs:List V):Bool:=xs.any fun y=>eqV y x
def rIn (K:W.Frag)(neg:Bool):R2:=fun x y H Q=>∃ p xs,y= .ref p/\(SqL K H p xs\/SqT K H p xs)/\qQ x=true/\xs.all qQ=true/\Q (.bl (if neg then !inV x xs else inV x xs)) H
theorem jEL:OpR X (compareOp .In) (rIn X.K false):=by
 intro ad s σ H x y v u Q I rx ry h
 obtain⟨p,xs,rfl,hq,fx,fs,q⟩:=h
 cases ry
 rcases hq with hq | hq
 ·obtain⟨its,r,pl,hz⟩:=I.list hq
  refine SeqAt.in_listAt (eqU x) pl.isList (fun w hw=>jB0 rx fx r fs w (by simpa using hw)) ⟨.bl _,H,I,rfl,?_⟩
  rw[show its.toArray.any (eqU x)=its.any (eqU x) by simp,jFY r fs]
  exact q
 ·obtain⟨its,r,pl,hz⟩:=I.tuple hq
  refine SeqAt.in_tupleAt (eqU x) pl (fun w hw=>jB0 rx fx r fs w (by simpa using hw)) ⟨.bl _,H,I,rfl,?_⟩
  rw[show its.toArray.any (eqU x)=its.any (eqU x) by simp,jFY r fs]
  exact q
theorem jJ:yR X (.builtin "len") (fun xs H Q=>∃ p ys,xs=[.ref p]/\(SqL X.K H p ys\/SqT X.K H p ys)/\Q (.int ys.length) H):=by
 intro ad s σ H xs us Q I r h
 obtain⟨p,ys,rfl,hq,q⟩:=h
 obtain⟨u,rfl,rx⟩:=vals1 r
 cases rx
 have hn:=jGU
 rcases hq with hq | hq
 ·obtain⟨its,r',pl,hz⟩:=I.list hq
  have hlen:=r'.length
  exact Calls.call_len_list pl.isList (by simp only [aA] <;> omega) ⟨.int ys.length,H,I.tok _,⟨s.toks+1,by rw[aA,hlen]⟩,q⟩
 ·obtain⟨its,r',pl,hz⟩:=I.tuple hq
  have hlen:=r'.length
  exact len_tuple pl (by simp only [aA] <;> omega) ⟨.int ys.length,H,I.tok _,⟨s.toks+1,by rw[aA,hlen]⟩,q⟩
theorem jF1:yR X (.type "list") (fun xs H Q=>∃ p ys,xs=[.ref p]/\(SqL X.K H p ys\/SqT X.K H p ys)/\∀ l,H l=none->Q (.ref l) (upd H l (.lst ys))):=by
 intro ad s σ H xs us Q I r h
 obtain⟨p,ys,rfl,hq,q⟩:=h
 obtain⟨u,rfl,rx⟩:=vals1 r
 cases rx
 have fin:∀ (its:List Value),Vals ys its->ys.length<=sizeLine->∀ (h':Heap) (c':Nat),(∀ b o',s.heap.get? b=some o'->h'.get? b=some o')->
   h'.get? s.heap.objs.size=some { cls:= .type "list",dict:=none,data:= .seq its.toArray c',slots:=#[]} ->EP X ad σ Q (.ref s.heap.objs.size) { s with heap:=h'} :=fun its r' hz h' c' kp e=>
  ⟨.ref s.heap.objs.size,_,I.laid (t':=s.toks) kp (aq _) (show ObjOk X.prog X.w _ h' _ (.lst ys) from ⟨hz,its,c',r',e⟩),rfl,q _ (I.hok.fresh (aq _))⟩
 rcases hq with hq | hq
 ·obtain⟨its,r',pl,hz⟩:=I.list hq
  have hlen:=r'.length
  obtain⟨o,ho,hc,n,hd⟩:=pl.isList
  exact call_list_seq p (.inl rfl) ho hc hd (fun h' c' kp e=>fin its r' hz h' c' kp e) (by simp only [aA] <;> omega)
 ·obtain⟨its,r',pl,hz⟩:=I.tuple hq
  have hlen:=r'.length
  obtain⟨o,ho,hc,n,hd⟩:=pl
  exact call_list_seq p (.inr rfl) ho hc hd (fun h' c' kp e=>fin its r' hz h' c' kp e) (by simp only [aA] <;> omega)
theorem jA0:yR X (.type "tuple") (fun xs H Q=>∃ p ys,xs=[.ref p]/\((SqL X.K H p ys/\∀ l,H l=none->Q (.ref l) (upd H l (.tup ys)))\/(SqT X.K H p ys/\Q (.ref p) H))):=by
 intro ad s σ H xs us Q I r h
 obtain⟨p,ys,rfl,h⟩:=h
 obtain⟨u,rfl,rx⟩:=vals1 r
 cases rx
 rcases h with ⟨hq,q⟩ | ⟨hq,q⟩
 ·obtain⟨its,r',pl,hz⟩:=I.list hq
  have hlen:=r'.length
  refine call_tuple_list pl.isList (fun h' kp=>?_) (by simp only [aA] <;> omega)
  have I1:Inv X ad σ H { s with heap:=h'} :=I.kept (t':=s.toks) kp
  have I2:Inv X ad σ (upd H h'.objs.size (.tup ys)) { s with heap:=h'.push { cls:= .type "tuple",data:= .seq its.toArray}} :=
   I1.laid (t':=s.toks) (fun b o e=>ae _ e) (aq _) (show ObjOk X.prog X.w _ _ _ (.tup ys) from ⟨hz,its,r',TupO.new _ _⟩)
  exact⟨.ref h'.objs.size,_,I2,rfl,q _ (I1.hok.fresh (aq _))⟩
 ·obtain⟨its,r',pl,hz⟩:=I.tuple hq
  exact call_tuple_same pl ⟨.ref p,H,I,rfl,q⟩
def tyV (K:W.Frag)(T:String)(x:V)(H:Hp):Prop:=match x with
 | .str _=>T= "str"
 | .int _=>T= "int"
 | .ref p=>(T= "list" /\∃ xs,SqL K H p xs)\/(T= "tuple" /\∃ o,K.lookup p=some o/\o.cls= .type "tuple" /\o.dict=none)\/
   (T= "dict" /\((∃ iq,H p=some (.dK iq))\/∃ iq,H p=some (.dT iq)))\/(T= "set" /\∃ S n,H p=some (.set S n))
 | _=>False
theorem jN9 {ad:List (Addr×Obj)}{σ:St}{H:Hp}{s:Shared}{T:String}{x:V}{v:Value}(I:Inv X ad σ H s)(r:RelV x v)(ty:tyV X.K T x H):
  s.TypeIs v T/\∀ a,v= .ref a->∃ ob,s.heap.get? a=some ob/\ob.dict=none:=by
 cases x with
 | str z=>
  obtain⟨t,rfl⟩:=r
  cases (show T= "str" from ty)
  exact⟨typeIs_str s z t,fun _ e=>nomatch e⟩
 | int i=>
  obtain⟨t,rfl⟩:=r
  cases (show T= "int" from ty)
  exact⟨typeIs_int s i t,fun _ e=>nomatch e⟩
 | ref p=>
  cases r
  rcases ty with ⟨rfl,xs,hq⟩ | ⟨rfl,o,hk,hc,hd⟩ | ⟨rfl,hk⟩ | ⟨rfl,S,n,hk⟩
  ·obtain⟨its,_,pl,_⟩:=I.list hq
   refine⟨pl.isList.typeIs,fun a e=>?_⟩
   cases e
   obtain⟨o,n,e,c,hd,_⟩:=pl
   exact⟨o,e,hd⟩
  ·refine⟨⟨o,I.kIn p o hk,hc⟩,fun a e=>?_⟩
   cases e
   exact⟨o,I.kIn _ o hk,hd⟩
  ·have z:∃ o,s.heap.get? p=some o/\o.ExactDict:=by
    rcases hk with ⟨iq,hk⟩ | ⟨iq,hk⟩
    ·obtain⟨_,_,_,_,o,_,_,e,ex,_⟩:=I.hok p _ hk
     exact⟨o,e,ex⟩
    ·obtain⟨_,_,_,_,o,_,_,e,ex,_⟩:=I.hok p _ hk
     exact⟨o,e,ex⟩
   obtain⟨o,e,ex⟩:=z
   refine⟨⟨o,e,ex.1⟩,fun a e2=>?_⟩
   cases e2
   exact⟨o,e,ex.2.1⟩
  ·obtain⟨o,_,_,_,e,ex,_⟩:=I.hok p _ hk
   refine⟨⟨o,e,ex.1⟩,fun a e2=>?_⟩
   cases e2
   exact⟨o,e,ex.2.1⟩
 | _=>exact False.elim ty
def tBM0 (K:W.Frag)(T:String)(r:V->List V->Hp->VK->Prop)(to:TE):TE:=fun σ H Q=>to σ H fun x H1=>tyV K T x H1/\r x [] H1 Q
def tBM (K:W.Frag)(T:String)(r:V->List V->Hp->VK->Prop)(to:TE)(t:TA):TE:=fun σ H Q=>to σ H fun x H1=>tyV K T x H1/\t σ H1 fun xs H2=>r x xs H2 Q
variable {o:Expr}{es:List Expr}{to:TE}{t:TA}{name:Str}{apos cpos:Pos}{T id:String}{r:V->List V->Hp->VK->Prop}
theorem jRA (pa:PlainAttrs T)(slot:Slot T name id)(hty:typeOf (.builtin id)=pure (.type "method_descriptor"))(hm:MtR X id r)(ho:PE X o to)
  (hbase:attributeBase o name X.env (eval o X.env)=eval o X.env:=by rfl) (hline:(apos.endLine==cpos.line)=true:=by rfl):PE X (.Call (.Attribute o name apos) [] [] cpos) (tBM0 X.K T r to):=by
 intro ad s σ H Q I h
 refine wpAny_Call_method0_late hbase hline (ir (ho ad s σ H _ I h) fun v s1 ⟨x,H1,I1,r1,ty,q1⟩=>?_)
 obtain⟨h1,h2⟩:=jN9 I1 r1 ty
 exact⟨T,id,pa,slot,hty,h1,h2,Calls.callWith_builtin rfl (PySem.evalArgs_none (hm ad s1 σ H1 x [] v [] Q I1 r1 .nil q1))⟩
theorem pe_bm (pa:PlainAttrs T)(slot:Slot T name id)(hty:typeOf (.builtin id)=pure (.type "method_descriptor"))(hm:MtR X id r)(ho:PE X o to)(ha:PA X (e::es) t)
  (hbase:attributeBase o name X.env (eval o X.env)=eval o X.env:=by rfl)
  (hfew:((backTo cpos (starEach (e::es) X.env)).all (fun x=>!x.1)&&(backToKw cpos (keywordEach [] X.env)).all (fun x=>x.1.isSome)
   &&decide ((e::es).length+([]:List Keyword).length+(if ([]:List Keyword).isEmpty then 0 else 1)<30))=true:=by rfl)
  (hline:(apos.endLine==cpos.line)=true:=by rfl) (hs:starEach (e::es) X.env=(false,eval e X.env)::starEach es X.env:=by rfl) (hplain:(backTo cpos (starEach es X.env)).any (·.1)=false:=by rfl):
  PE X (.Call (.Attribute o name apos) (e::es) [] cpos) (tBM X.K T r to t):=by
 intro ad s σ H Q I h
 refine wpAny_Call_method_late hbase hfew hline rfl (ir (ho ad s σ H _ I h) fun v s1 ⟨x,H1,I1,r1,ty,q1⟩=>?_)
 obtain⟨h1,h2⟩:=jN9 I1 r1 ty
 refine⟨T,id,pa,slot,hty,h1,h2,?_⟩
 have hA:=ha cpos ad s1 σ H1 _ I1 q1
 rw[hs] at hA ⊢
 refine Calls.callWith_builtin (by show (false || (backTo cpos (starEach es X.env)).any (·.1))=false; rw[hplain] <;> rfl) (dq ?_)
 exact ir hA fun us s2 ⟨vs,H2,I2,r2,q2⟩=>hm ad s2 σ H2 x vs v us Q I2 r1 r2 q2
/- xs.append(e),list.index on a module's tuple .. are MtR facts of 06m -/
end
def MtM (X:Cx)(id:String)(r:V->List V->Hp->VK->Prop):Prop:=
 ∀ (ad:List (Addr×Obj)) (s:Shared) (σ:St) (H:Hp) (x:V) (xs:List V) (v:Value) (us:List Value) (Q:VK),Inv X ad σ H s->RelV x v->Vals xs us->r x xs H Q->
  wpAny (model X.prog X.w) X.A (call (.builtin id) (v::us)) (EP X ad σ Q) X.xe s
theorem Vals.one:∀ {x:V}{us:List Value},Vals [x] us->∃ u,us=[u]/\RelV x u
 | _,_, .cons r .nil=>⟨_,rfl,r⟩
theorem Vals.two:∀ {x y:V}{us:List Value},Vals [x,y] us->∃ u v,us=[u,v]/\RelV x u/\RelV y v
 | _,_,_, .cons r (.cons q .nil)=>⟨_,_,rfl,r,q⟩
theorem Vals.zero:∀ {us:List Value},Vals [] us->us=[]
 | _, .nil=>rfl
theorem Vals.dropLast {xs:List V}{us:List Value}(h:Vals xs us):Vals xs.dropLast us.dropLast:=by
 induction h with
 | nil=>exact .nil
 | cons r t ih=>
  cases t with
  | nil=>exact .nil
  | cons q t'=>exact .cons r ih
theorem Vals.reverse {xs:List V}{us:List Value}(h:Vals xs us):Vals xs.reverse us.reverse:=by
 induction h with
 | nil=>exact .nil
 | cons r t ih=>rw[d9,d9]; exact Vals.append ih (.cons r .nil)
theorem Vals.rep {xs:List V}{us:List Value}(h:Vals xs us):∀ k:Nat,Vals (replicate k xs).flatten (replicate k us).flatten
 | 0=> .nil
 | k+1=>by
  rw[cm,cm,ef,ef]
  exact Vals.append h (Vals.rep h k)
theorem jI7 {α:Type}(l:List α):l.eraseIdx (l.length - 1)=l.dropLast:=by
 induction l with
 | nil=>rfl
 | cons a r ih=>
  cases r with
  | nil=>rfl
  | cons b r=>
   have e:(a::b::r).length - 1=((b::r).length - 1)+1:=by
    have h1:(a::b::r).length=r.length+2:=rfl
    have h2:(b::r).length=r.length+1:=rfl
    omega
   rw[e,List.eraseIdx_cons_succ,ih]
   all_goals rfl
theorem jEV (its:List Value):∀ (k:Nat) (acc:List Value),
  List.foldl (fun x1 x2=>x1++x2) acc.toArray (replicate k its.toArray)=(acc++(replicate k its).flatten).toArray
 | 0,acc=>by simp
 | k+1,acc=>by
  have e:acc.toArray++its.toArray=(acc++its).toArray:=by simp
  have e2:(acc++its)++(replicate k its).flatten=acc++(replicate (k+1) its).flatten:=by
   rw[cm,ef,List.append_assoc]
  rw[<- e2,<- jEV its k (acc++its),<- e,cm,List.foldl_cons]
variable {s:Shared}
section
variable {ad:List (Addr×Obj)}{σ:St}{H:Hp}{l b:Addr}{xs ys zs:List V}
theorem Inv.lset {its its':List Value}{n:Nat}{f:Array Value->Array Value}{t':Nat}(I:Inv X ad σ H s)(hH:H l=some (.lst xs))
  (e:s.heap.get? l=some { cls:= .type "list",data:= .seq its.toArray n}) (hf:f its.toArray=its'.toArray) (hv:Vals ys its') (hz:ys.length<=sizeLine):
  Inv X ad σ (upd H l (.lst ys)) { s with heap:=s.heap.update l (Obj.mapSeq f),toks:=t'} :=by
 have q:=PySem.IsL.update e f
 rw[hf] at q
 refine I.write (x:=l) (e:=l) (by rw[hH]; exact trivial) (.inl rfl) (fun b' u hb hu=>(bw s.heap (Obj.mapSeq f) (bo hb)).trans hu) ⟨_,q⟩ ?_
 exact⟨hz,its',_,hv,q⟩
theorem Inv.lnew {its:List Value}{t':Nat}(I:Inv X ad σ H s)(hv:Vals ys its)(hz:ys.length<=sizeLine):
  Inv X ad σ (upd H s.heap.objs.size (.lst ys)) { s with heap:=s.heap.push { cls:= .type "list",data:= .seq its.toArray},toks:=t'} :=
 I.laid (fun _ _ q=>ae _ q) (aq _) ⟨hz,its,0,hv,ak _ rfl⟩
theorem Inv.fresh (I:Inv X ad σ H s):H s.heap.objs.size=none:=I.hok.fresh (aq _)
theorem Inv.lstM (I:Inv X ad σ H s)(hH:H l=some (.lst xs)):xs.length<=sizeLine/\∃ (its:List Value) (n:Nat),Vals xs its/\xs.length=its.length/\s.heap.get? l=some { cls:= .type "list",data:= .seq its.toArray n} :=by
 obtain⟨z,its,n,r,e⟩:=I.hok l _ hH
 exact⟨z,its,n,r,r.length,e⟩
end
def jOO:V->List V->Hp->VK->Prop:=fun x vs H Q=>∃ l xs y,x= .ref l/\vs=[y]/\H l=some (.lst xs)/\xs.length<sizeLine/\Q .non (upd H l (.lst (xs++[y])))
theorem jAS:MtM X "list.append" jOO:=by
 intro ad s σ H x vs v us Q I rx rv h
 obtain⟨l,xs,y,rfl,rfl,hH,hz,q⟩:=h
 cases rx
 obtain⟨u,rfl,ru⟩:=rv.one
 obtain⟨z,its,n,r,hl,e⟩:=I.lstM hH
 refine cV F.slot_list_append ⟨_,e,rfl⟩ F.entry_list_append (F.args_list_append_2 _ _) (PySem.list_append l its.toArray n u (by rw[aA]; omega)) ⟨e,?_⟩
 refine⟨.non,_,I.lset (its':=its++[u]) hH e (by simp) (r.append (.cons ru .nil)) ?_,rfl,q⟩
 rw[aD,bX]
 omega
def rPop:V->List V->Hp->VK->Prop:=fun x vs H Q=>∃ l xs y,x= .ref l/\vs=[]/\H l=some (.lst xs)/\xs[xs.length - 1]?=some y/\Q y (upd H l (.lst xs.dropLast))
theorem jNT:MtM X "list.pop" rPop:=by
 intro ad s σ H x vs v us Q I rx rv h
 obtain⟨l,xs,y,rfl,rfl,hH,hy,q⟩:=h
 cases rx
 have hus:=rv.zero
 subst hus
 obtain⟨z,its,n,r,hl,e⟩:=I.lstM hH
 obtain⟨u,hu,ru⟩:=r.get hy
 have hy':its.toArray[its.toArray.size - 1]?=some u:=by
  show its.toArray[its.length - 1]?=some u
  rw[<- di,<- hl]
  exact hu
 refine cV F.slot_list_pop ⟨_,e,rfl⟩ F.entry_list_pop (F.args_list_pop_1 _) (MeetsSeq.list_pop_last l its.toArray n u hy' (by rw[aA]; omega)) ⟨e,?_⟩
 refine⟨y,_,I.lset (its':=its.dropLast) hH e ?_ r.dropLast ?_,ru,q⟩
 ·show its.toArray.eraseIdxIfInBounds (its.toArray.size - 1)=its.dropLast.toArray
  rw[aA,List.eraseIdxIfInBounds_toArray,jI7]
 ·rw[List.length_dropLast]
  omega
def rCat:R2:=fun x y H Q=>∃ l b xs zs,x= .ref l/\y= .ref b/\H l=some (.lst xs)/\H b=some (.lst zs)/\xs.length+zs.length<=sizeLine/\∀ p,H p=none->Q (.ref p) (upd H p (.lst (xs++zs)))
theorem jRH:OpR X (binaryOp .Add) rCat:=by
 intro ad s σ H x y v u Q I rx ry h
 obtain⟨l,b,xs,zs,rfl,rfl,hH,hB,hz,q⟩:=h
 cases rx
 cases ry
 obtain⟨z,its,n,r,hl,e⟩:=I.lstM hH
 obtain⟨z2,its2,n2,r2,hl2,e2⟩:=I.lstM hB
 refine PySem.P.add_list e e2 ?_ (by rw[aA,aA]; omega)
 have ea:its.toArray++its2.toArray=(its++its2).toArray:=by simp
 rw[ea]
 exact⟨.ref _,_,I.lnew (t':=s.toks) (r.append r2) (by rw[aD]; omega),rfl,q _ I.fresh⟩
theorem jK2 {α:Type}(xs:List α)(k:Nat):(replicate k xs).flatten.length=k*xs.length:=by
 induction k with
 | zero=>simp
 | succ k ih=>rw[cm,ef,aD,ih,Nat.succ_mul,gw]
section
variable {prog:Program}{w:World}{A:Around}{E:Value->Shared->Prop}
set_option maxRecDepth 100000 in
end
end L2
namespace Att
open PySem PySem.W PySem.Calls PyProof.Rows
theorem jD1 {P:Params}{h:Heap} :∀ (ns:List Int) (vs:List Value),WellAll P h vs (ns.map WData.int)->IntsAre vs ns:=by
 intro ns
 induction ns with
 | nil=>
  intro vs w
  rw[map_nil] at w
  cases w
  exact .nil
 | cons n ns ih=>
  intro vs w
  rw[be] at w
  cases w with
  | cons a b=>
   cases a
   exact .cons _ _ (ih _ b)
theorem jJ0 {l:OpenLaw}{n:Nat}(hn:l.most=some n){P:Params}{h:Heap}{args:List WData}{vals:List Value}
  (hpre:l.row.toRowW.claim.pre args=true) (hwl:WellAll P h vals args):
  ∃ a vs ns,vals=[Value.ref a]/\args=[WData.list (ns.map WData.int)]/\h.get? a=some { cls:= .type "list",data:= .seq vs.toArray} /\IntsAre vs ns/\ns.length<=n:=by
 have hsh:WShape.hasAll [] args [.list .int]=true:=(pre_splitW hpre).1
 have hc:l.pre.holds [] { args:=args} =true:=(pre_splitW hpre).2
 obtain⟨d,r,rfl,h1,h2⟩:=hasAllW_cons hsh
 obtain rfl:=hasAllW_nil h2
 obtain⟨xs,rfl,h3⟩:=hasW_list h1
 obtain⟨ns,rfl⟩:=items_int h3
 have hlen:ns.length<=n:=by
  unfold OpenLaw.pre at hc
  have h4:(WTm.not (.lt (.lit (.int (n:Int))) (.len (.arg 0)))).holds [] { args:=[.list (ns.map .int)]} =true:=by
   have h4:=(holds_andW hc).1
   rw[hn] at h4
   exact h4
  have h5:=condW_of h4 (w_not (w_lt w_lit (w_len_list (w_arg rfl))))
  rw[ag] at h5
  refine Nat.le_of_not_lt fun q=>?_
  have q':(n:Int)<((ns.length:Nat):Int):=by omega
  first
   | (rw[aj q'] at h5; exact absurd h5 (by decide))
   | (simp at h5; omega)
 cases hwl with
 | cons w1 w2=>
  cases w2
  cases w1 with
  | list ho hall=>exact⟨_,_,ns,rfl,rfl,ho,jD1 ns _ hall,hlen⟩
theorem jJA (l:OpenLaw)(args:List WData):l.row.toRowW.claim.post args (.bool true) args=true:=
 postW_of (r:=l.row.toRowW) (X:=(true==true))
  (show WShape.has [] (.bool true) .bool=true by first | rfl | decide | simp [WShape.has,WShape.arms,WShape.armsAll])
  (show (WTm.eq .res (.lit (.bool true))).value [] { args:=args,res:=some (.bool true),after:=args} =some (.bool (true==true)) from w_eq_bool (w_res rfl) w_lit) rfl
theorem attach_call {l:OpenLaw}{n:Nat}{q:Program}{loose:List Str}{XP:(Str->Option Value)->Heap->Prop}{YP:World->Heap->Prop}{d:DefRec}
  (hn:l.most=some n) (hdf:d.params.defaults=[])
  (call:∀ (w:World) (s₀ s₁:Shared) (mg mb:Str->Option Value) (fa:Addr) (o:Obj) (pm cd doc:Value) (a:Addr) (vs:List Value) (ns:List Int),
   Ground q loose [] XP w s₀ mg mb s₁.heap->YP w s₁.heap->
   s₁.heap.get? fa=some o->o.data= .func (docDef d.name d.params d.body d.scope pm cd doc)->s₁.heap.CodeRec cd d.name->mg d.name=some (.ref fa)->
   s₁.heap.get? a=some { cls:= .type "list",data:= .seq vs.toArray} ->IntsAre vs ns->ns.length<=n->s₁.gens=#[]->
   codeAny (model l.prog w) callerA (.call (.ref fa) ⟨[.ref a],[]⟩) (fun r s'=>r= .ok (.ret (.bool true))/\OldK s₁.heap s'.heap/\s'.os=s₁.os/\AllBare s'.gens) s₁):
  WalkO q loose XP YP l.row.toRowW d [] (fun f vs=>PySem.call f vs):=by
 intro w s₀ s₁ mg mb G Y fa o pm cd doc dV kV ho hd hcd hD hmg hg args vals as hpre hlay hrd hwl hlo
 obtain rfl:dV= .none:=Dflts.none hD hdf
 obtain rfl:kV= .none:=Dflts.noKw hD
 obtain⟨a,vs,ns,rfl,rfl,hobj,hints,hlen⟩:=jJ0 hn hpre hwl
 refine enter_call (b9 (call w s₀ s₁ mg mb fa o pm cd doc a vs ns G Y ho (fd_plain hd) hcd hmg hobj hints hlen hg) fun r s' hq=>?_)
 obtain⟨rfl,h2,h3,h4⟩:=hq
 exact⟨.inl ⟨.bool true, .bool true,[],rfl,fun _=>rfl, .bool true,jJA l _,fun _=>⟨List.Pairwise.nil,fun _ hm=>(nomatch hm)⟩⟩,h2,h3,h4⟩
section
variable {prog:Program}{w:World}{A:Around}{E:Value->Shared->Prop}{s:Shared}{K:Frag}
end
end Att
namespace L2
open PySem PySem.Spec PyProof.Rows
theorem jEA:∀ {vs:List Value}{ns:List Int},IntsAre vs ns->Vals (ns.map V.int) vs
 | _,_, .nil=> .nil
 | _,_, .cons n t h=> .cons ⟨t,rfl⟩ (jEA h)
end L2
/- THE LAST THEOREM (shape; LID,My.* are yours):
  My.Adr:a structure of the addresses that your layer names (classes,functions); My.Txt K t:a structure (Prop) of the equations over K;
  My.txt_mk: {K} {implicit addresses ..} (e1:nsIn K mainGlobals "law" =some (some (.ref f))) (e2:K.lookup f=some ⟨oc,od, .func (fnOf "law" "law" params body scope dV kV doc pm an cdv ct),sl⟩) (e3:codeIn K cdv "law" =true) .. :∃ t,My.Txt K t
set_option maxRecDepth 100000 in
set_option maxHeartbeats 0 in
theorem PySem.Challenge.cw_LID_holds : PySem.Challenge.rw_LID.Holds := by
 w_on; o_law; k_head; (case hw=>w_witness2)
 k_fill
 refine L2.walk_of (l:=PySem.Challenge.rw_LID) (n:=63) (k:=40) (x:= "script") (CX:=fun w=> ..) (sp:=fun _=>My.sp_law) rfl (by decide) rfl ⟨rfl,by decide,by decide⟩ (fun w h Y=>PySem.W.kIn_of Y) ?F ?S ?C
 case F=>
  intro w mg fa h KX G hmg
  have T:∃ t,My.Txt (L2.KOf KX) t:=by
   dsimp only [L2.KOf] -- K must stand as «<heap const>w.params» for k_is
   refine' My.txt_mk ?e1 ?e2 ?e3 ..
   (case e1=>PySem.W.k_is) -- in the order:a name->its address->its object->its parts
   (case e2=>PySem.W.k_is)
   ..
  obtain⟨t,T⟩:=T
  have e0:=hmg.symm.trans (eR KX G T.law)
  cases e0 -- fa is the law's own address
  exact⟨_,fun s u=> .of_eq rfl,fun base kb nb=>My.law_fn T kb nb⟩ -- if «.of_eq rfl» comes too early:refine' ⟨_,?b,fun base kb nb=>My.law_fn T kb nb⟩; exact fun s u=> .of_eq rfl
 case S=>exact fun w H a ns hl hO hS=> ..
 case C=>exact ..
(the tactic k_is has no namespace:write k_is) -/
namespace L2
open PySem PySem.Spec PyProof.Rows
abbrev CX0:CXT:=fun _ _ _ _ _ _=>False
abbrev E0:XK:=fun _ _ _=>False
theorem pass0 {X:Cx} :jCB CX0 X E0:=fun _ _ _ _ _ _ _ h=>h.elim
structure Fun (K:W.Frag)(x qual:Str)(st:Stmt)(f:Addr)(fd:FuncData):Prop where
 ex:∃ (oc:Value) (od:Option Addr) (kV doc pm:Value) (an:Option Addr) (cdv ct:Value) (osl:Array (Option Value)),
  fd=PySem.W.fnOf x qual (kS st) (jG st) (j9 st) .none kV doc pm an cdv ct/\K.lookup f=some ⟨oc,od, .func fd,osl⟩/\PySem.W.codeIn K cdv qual=true
 kp:keepIn K (.ref f)=true
variable {w:World}
section
variable {P:Program}{K:W.Frag}{mg:Str->Option Value}{base:Heap}
theorem Fun.ok {x qual:Str}{st:Stmt}{f:Addr}{fd:FuncData}{N ps:List Str}{k:Nat}{sp:Sp}(F:Fun K x qual st f fd)(S:FnScope N ps (j9 st))(len:∀ vs H Q E,sp vs H Q E->vs.length=ps.length)
  (hbody:∀ (cdv:Value) (A:Around) (outer:List Env) (s:Shared) (H:Hp) (vs:List V) (Q:VK) (E:XK),Room k (A.deeper (envOfC qual (j9 st) s.heap.objs.size f cdv))->sp vs H Q E->
   ∃ t,PSs (cxOf CX0 P w K mg base N qual (j9 st) f cdv A outer s H E).nox (jG st) t/\t { nx:=fun _ H'=>Q .non H',rt:=Q} (start N vs) H):FnOk P w K mg base CX0 (k+1) f fd ps sp:=by
 obtain⟨oc,od,kV,doc,pm,an,cdv,ct,osl,rfl,lk,hcd⟩:=F.ex
 refine fn_of lk hcd S len fun A outer s H vs Q E hr hsp=>?_
 obtain⟨t,h,q⟩:=hbody cdv A outer s H vs Q E hr hsp
 exact⟨t,h.nox,q⟩
theorem Fun.binds {x qual:Str}{st:Stmt}{f:Addr}{fd:FuncData}{ps:List Str}(F:Fun K x qual st f fd)
  (h:∀ (kV doc pm:Value) (an:Option Addr) (cdv ct:Value) (us:List Value),us.length=ps.length->bindArgs (PySem.W.fnOf x qual (kS st) (jG st) (j9 st) .none kV doc pm an cdv ct) ⟨us,[]⟩=pure (ps.zip us)):Binds K fd ps []:=by
 obtain⟨oc,od,kV,doc,pm,an,cdv,ct,osl,rfl,lk,hcd⟩:=F.ex
 exact .all (h kV doc pm an cdv ct)
theorem kU {x qual:Str}{st:Stmt}{f:Addr}{oc:Value}{od an:Option Addr}{osl:Array (Option Value)}{kV doc pm cdv ct:Value}(l:K.lookup f=some ⟨oc,od, .func (PySem.W.fnOf x qual (kS st) (jG st) (j9 st) .none kV doc pm an cdv ct),osl⟩)
  (c:PySem.W.codeIn K cdv qual=true) (k:keepIn K (.ref f)=true):Fun K x qual st f (PySem.W.fnOf x qual (kS st) (jG st) (j9 st) .none kV doc pm an cdv ct):=⟨⟨oc,od,kV,doc,pm,an,cdv,ct,osl,rfl,l,c⟩,k⟩
end
theorem hu_of {A:Around}{k:Nat}(hr:Room k A):A.units+1<cLine:=Nat.lt_of_le_of_lt (Nat.add_le_add_left (by decide:1<=64) _) hr.units
variable {X:Cx}
theorem pv (i:Nat){x:Str}{pos:Pos}(hN:X.N[i]?=some x:=by rfl)(hv:Vis X.env.scope x:=by first | exact Or.inl rfl | exact Or.inr (Or.inl rfl) | exact Or.inr (Or.inr rfl))(hd:(x==("__debug__" :Str))=false:=by decide)
  (hcd:(x==("__classdict__" :Str))=false:=by decide):PE X (.Name x pos) (tVar i):=jGL hN hv hd hcd
theorem iteF {A B:Prop}(h:B):if false=true then A else B:=by
 rw[av au]
 exact h
theorem iteT {A B:Prop}(h:A):if true=true then A else B:=by
 rw[aB rfl]
 exact h
theorem ite2 {c A B:Prop} [Decidable c](h1:c->A)(h2:¬ c->B):if c then A else B:=by
 by_cases h:c
 ·rw[aB h]
  exact h1 h
 ·rw[av h]
  exact h2 h
def kG (cells:List (Str×Addr)):List (Str×NameKind)->List (Str×Addr)->List (Str×Addr)
 | [],acc=>acc
 | (n,k)::r,acc=>if k= .free then kG cells r ((n,(cells.lookup n).getD 0)::acc) else kG cells r acc
theorem jC0 {env:Env} :∀ (l:List (Str×NameKind)) (acc:List (Str×Addr)),(∀ y∈l,y.2= .free->∃ c,env.cells.lookup y.1=some c)->
  (forIn l acc fun (x:Str×NameKind) (cs:List (Str×Addr))=>(if (x.2==NameKind.free)=true then (do let a <- cellOf env x.1; pure (ForInStep.yield ((x.1,a)::cs))) else pure (ForInStep.yield cs):Sem (ForInStep (List (Str×Addr)))))=pure (kG env.cells l acc)
 | [],acc,_=>rfl
 | (n,k)::r,acc,h=>by
  have hr:∀ y∈r,y.2= .free->∃ c,env.cells.lookup y.1=some c:=fun y hy=>h y (aI _ hy)
  rw[gA]
  by_cases hk:k= .free
  ·subst hk
   obtain⟨c,hc⟩:=h (n, .free) aJ rfl
   have e:cellOf env n=pure c:=by unfold cellOf; rw[hc]
   have e2:kG env.cells ((n,NameKind.free)::r) acc=kG env.cells r ((n,c)::acc):=by
    show (if NameKind.free=NameKind.free then kG env.cells r ((n,(env.cells.lookup n).getD 0)::acc) else _)=_
    rw[aB rfl,hc]; rfl
   rw[e2,<- jC0 r ((n,c)::acc) hr]
   show ((do let a <- cellOf env n; pure (ForInStep.yield ((n,a)::acc))) >>= _)=_
   rw[e]; rfl
  ·have hb:(k==NameKind.free)=false:=by cases k <;> first | rfl | exact absurd rfl hk
   have e2:kG env.cells ((n,k)::r) acc=kG env.cells r acc:=by
    show (if k=NameKind.free then _ else kG env.cells r acc)=_
    rw[av hk]
   rw[e2,<- jC0 r acc hr]
   show ((if (k==NameKind.free)=true then _ else pure (ForInStep.yield acc)) >>= _)=_
   rw[hb]; rfl
theorem jKT {env:Env}{sc:Scope}(h:∀ y∈sc.names,y.2= .free->∃ c,env.cells.lookup y.1=some c):closureFor sc env=pure (kG env.cells sc.names []):=by
 unfold closureFor
 show (forIn sc.names [] _ >>= fun cs=>pure cs)=_
 rw[show (forIn sc.names ([]:List (Str×Addr)) _:Sem _)=_ from jC0 sc.names [] h]
 rfl
theorem jA8 {cells:List (Str×Addr)} :∀ (l:List (Str×NameKind)) (acc:List (Str×Addr)),(∀ y∈l,y.2= .free->∃ c,cells.lookup y.1=some c)->
  (∀ x c,acc.lookup x=some c->cells.lookup x=some c)->∀ x c,(kG cells l acc).lookup x=some c->cells.lookup x=some c
 | [],acc,_,ha=>ha
 | (n,k)::r,acc,h,ha=>by
  have hr:∀ y∈r,y.2= .free->∃ c,cells.lookup y.1=some c:=fun y hy=>h y (aI _ hy)
  unfold kG
  by_cases hk:k= .free
  ·rw[aB hk]
   obtain⟨c0,hc⟩:=h (n,k) aJ hk
   refine jA8 r _ hr fun x c e=>?_
   rw[aY] at e
   cases hx:x==n with
   | true=>
    rw[hx] at e
    have exn:x=n:=eq_of_beq hx
    subst exn
    have hc':cells.lookup x=some c0:=hc
    rw[hc'] at e ⊢
    exact e
   | false=>rw[hx] at e; exact ha x c e
  ·rw[av hk]; exact jA8 r acc hr ha
theorem jAI {cells:List (Str×Addr)}{x:Str} :∀ (l:List (Str×NameKind)) (acc:List (Str×Addr)),((x,NameKind.free)∈l\/∃ c,acc.lookup x=some c)->∃ c,(kG cells l acc).lookup x=some c
 | [],acc,h=>by
  rcases h with h | h
  ·cases h
  ·exact h
 | (n,k)::r,acc,h=>by
  unfold kG
  by_cases hk:k= .free
  ·rw[aB hk]
   refine jAI r _ ?_
   by_cases e:x=n
   ·subst e
    exact .inr ⟨_,by rw[aY,beq_self_eq_true]⟩
   ·rcases h with h | ⟨c,h⟩
    ·rcases am.mp h with q | q
     ·cases q; exact absurd rfl e
     ·exact .inl q
    ·refine .inr ⟨c,?_⟩
     rw[aY,bD.mpr e]
     exact h
  ·rw[av hk]
   refine jAI r _ ?_
   rcases h with h | h
   ·rcases am.mp h with q | q
    ·cases q; exact absurd rfl hk
    ·exact .inl q
   ·exact .inr h
theorem jAG {x:Str}{k:NameKind} :∀ {l:List (Str×NameKind)},l.lookup x=some k->(x,k)∈l
 | [],h=>by cases h
 | (n,k')::r,h=>by
  rw[aY] at h
  cases hx:x==n with
  | true=>rw[hx] at h; cases h; rw[eq_of_beq hx]; exact aJ
  | false=>rw[hx] at h; exact aI _ (jAG h)
theorem jBR {env:Env}{x:Str}{k:NameKind}(hk:k= .cell\/k= .free):∀ {l:List (Str×NameKind)},(∀ y∈l,y.2≠ .cell)->
  (l.map fun (n,k)=>if (k==NameKind.free&&env.scope.kind== .function&&env.kindOf n==some .cell) then (n,NameKind.cell) else (n,k)).lookup x=some k->l.lookup x=some .free
 | [],_,h=>by simp at h
 | (n,k')::r,hc,h=>by
  have ih:= @jBR env x k hk r (fun y hy=>hc y (aI _ hy))
  have hc0:k'≠ .cell:=hc (n,k') aJ
  rw[aY]
  rw[be] at h
  dsimp only at h
  by_cases hb:(k'==NameKind.free&&env.scope.kind== .function&&env.kindOf n==some .cell)=true
  ·rw[aB hb,aY] at h
   cases hx:x==n with
   | true=>
    have:k'= .free:=by
     simp only [aV] at hb
     exact eq_of_beq hb.1.1
    rw[this]
   | false=>rw[hx] at h; exact ih h
  ·rw[av hb,aY] at h
   cases hx:x==n with
   | true=>
    rw[hx] at h
    have e:k'=k:=aM h
    rcases hk with q | q
    ·exact absurd (e.trans q) hc0
    ·rw[e,q]
   | false=>rw[hx] at h; exact ih h
theorem jB2 {env:Env}{x:Str} :∀ {l:List (Str×NameKind)},l.lookup x=some .free->
  (l.map fun (n,k)=>if (k==NameKind.free&&env.scope.kind== .function&&env.kindOf n==some .cell) then (n,NameKind.cell) else (n,k)).lookup x=some .cell\/
  (l.map fun (n,k)=>if (k==NameKind.free&&env.scope.kind== .function&&env.kindOf n==some .cell) then (n,NameKind.cell) else (n,k)).lookup x=some .free
 | [],h=>by cases h
 | (n,k')::r,h=>by
  have ih:= @jB2 env x r
  rw[aY] at h
  rw[be]
  dsimp only
  by_cases hb:(k'==NameKind.free&&env.scope.kind== .function&&env.kindOf n==some .cell)=true
  ·rw[aB hb,aY]
   cases hx:x==n with
   | true=>exact .inl rfl
   | false=>rw[hx] at h; exact ih h
  ·rw[av hb,aY]
   cases hx:x==n with
   | true=>rw[hx] at h; exact .inr h
   | false=>rw[hx] at h; exact ih h
section
variable {prog:Program}{A:Around}{R:Result->Shared->Prop}{s:Shared}
abbrev jIJ (ifs:List Expr)(env:Env):Sem Bool:=forIn ifs true fun c r=>if r=true then do let ok <- isTrue c env (eval c env); pure (ForInStep.yield ok) else pure (ForInStep.yield r)
theorem jI8 {elt tg iter:Expr}{ifs:List Expr}{sc:Scope}{pos:Pos}{it acc:Value}{env:Env}(J:Nat->Shared->Prop)
  (turn:∀ n z,J n z->wpAny (model prog w) A (pyNext it) (fun r z1=>match r with
   | none=>R (.ok .next) z1
   | some v=>wpAny (model prog w) A (letOwnedTupleGo tg it v) (fun _ z2=>wpAny (model prog w) A (assign tg env v) (fun _ z3=>wpAny (model prog w) A (jIJ ifs env) (fun ok z4=>
     if ok=true then wpAny (model prog w) A (eval elt env) (fun x z5=>wpAny (model prog w) A (call (.builtin "list.append") [acc,x]) (fun _ z6=>∃ k,k<n/\J k z6) (fun _ _=>False) z5) (fun _ _=>False) z4
     else ∃ k,k<n/\J k z4) (fun _ _=>False) z3) (fun _ _=>False) z2) (fun _ _=>False) z1) (fun _ _=>False) z)
  (n:Nat) (h:J n s):codeAny (model prog w) A (.compLoop (.ListComp elt [⟨tg,iter,ifs,0⟩] sc pos) 0 it acc env) R s:=by
 refine codeAny_loop rfl J (fun k z hJ=>?_) n h
 have noE:∀ {α:Type}{t:Sem α}{Q:α->Shared->Prop}{E:Value->Shared->Prop}{z:Shared},wpAny (model prog w) A t Q (fun _ _=>False) z->wpAny (model prog w) A t Q E z:=
  fun q=>aZ q (fun _ _ a=>a) fun _ _ f=>f.elim
 show wpAny _ A ((compTurn (.ListComp elt [⟨tg,iter,ifs,0⟩] sc pos) 0 it acc env).onRaise (fun x=>do noteFrame x env; theTreesLotGoes x)) _ _ z
 refine wpAny_noted ?_
 rw[compTurn_list]
 refine ac (df (ac (aZ (turn k z hJ) (fun r z1 q1=>?_) fun _ _ f=>f.elim)))
 cases r with
 | none=>exact af q1
 | some v=>
  refine ac (aZ q1 (fun _ z2 q2=>?_) fun _ _ f=>f.elim)
  refine ac (aZ q2 (fun _ z3 q3=>?_) fun _ _ f=>f.elim)
  refine ac (aZ q3 (fun ok z4 q4=>?_) fun _ _ f=>f.elim)
  cases ok with
  | false=>exact af ⟨rfl,q4⟩
  | true=>
   refine ac (ac (aZ q4 (fun x z5 q5=>?_) fun _ _ f=>f.elim))
   exact ac (aZ q5 (fun _ z6 q6=>af (af ⟨rfl,q6⟩)) fun _ _ f=>f.elim)
end
noncomputable def blk (X:Cx)(sc:Scope)(cl:List (Str×Addr))(C:Addr)(Nc:List Str)(fp:List Addr)(s:Shared)(H:Hp):Cx where
 prog:=X.prog
 w:=X.w
 K:=X.K
 mg:=X.mg
 base:=X.base
 A:=X.A
 N:=Nc
 s₀:=s
 H₀:=H
 env:=compEnvC sc cl C X.env
 outer:=X.stack
 stack:=X.stack
 ex:=fp
 fn:=fun _=>false
 calm:=X.calm
 pn:=[]
 xe:=fun _ _=>False
def blkσ (m:List (Option Nat))(σ:St):St:=m.map fun o=>match o with
 | none=>none
 | some i=>(σ[i]?).getD none
def PTs (X:Cx)(ifs:List Expr)(t:TT):Prop:=
 ∀ (ad:List (Addr×Obj)) (s:Shared) (σ:St) (H:Hp) (Q:Bool->Hp->Prop),Inv X ad σ H s->t σ H Q->wpAny (model X.prog X.w) X.A (jIJ ifs X.env) (TP X ad σ Q) X.xe s
def qI:TT:=fun _ H Q=>Q true H
theorem jJ7 {X:Cx} :PTs X [] qI:=fun _ _ _ H _ I h=>wpAny_tests_nil ⟨H,I,h⟩
theorem jJ6 {X:Cx}{c:Expr}{t:TT}(h:PT X c t):PTs X [c] t:=fun ad s σ H Q I q=>wpAny_tests_one (h ad s σ H Q I q)
def qZ (m:List (Option Nat))(g:TG)(tt:TT)(te:TE)(σ:St)(Q:VK)(J:It)(H1:Hp):Prop:=∀ D,H1 D=none->∃ W:Nat->Nat->St->Hp->List V->Prop,
  (∃ n,W 0 n (blkσ m σ) (upd H1 D (.lst [])) [])/\∀ i n σ' H' ys,W i n σ' H' ys->H' D=some (.lst ys)/\ys.length<sizeLine/\
   ((J.stop i H'/\Q (.ref D) H')\/(J.go i H'/\∃ N:St->Hp->List V->Prop,(∀ σ2 H2 zs,N σ2 H2 zs->∃ n',n'<n/\W (i+1) n' σ2 H2 zs)/\∀ x H'',J.yld i H' x H''->g x σ' H'' fun σ2 H2=>tt σ2 H2 fun b H3=>
    if b=true then te σ2 H3 fun v H4=>H4 D=some (.lst ys)/\N σ2 (upd H4 D (.lst (ys++[v]))) (ys++[v])
    else N σ2 H3 ys))
def tComp (m:List (Option Nat))(wi:TI)(g:TG)(tt:TT)(te:TE):TE:=fun σ H Q=>wi σ H (qZ m g tt te σ Q)
theorem Un.sameBut {fs ex:List Addr}{H H':Hp}{h h1 h2:Heap}{C:Addr}(u:Un fs ex H H' h h1)(sb:Heap.SameBut C h1 h2)(hC:h.objs.size<=C):Un fs ex H H' h h2:=by
 have ne:∀ {b:Addr}{o:Obj},h.get? b=some o->b≠C:=fun e=>aF (aN (ao e) hC)
 refine⟨fun b o e n hf hx=>(sb.2 b (ne e)).trans (u.keep b o e n hf hx),fun b o e n hf hx=>?_,u.free,fun b o e hx=>?_,u.tups,u.frzs,u.tbls⟩
 ·obtain⟨sl,q⟩:=u.slot b o e n hf hx
  exact⟨sl,(sb.2 b (ne e)).trans q⟩
 ·obtain⟨o',q⟩:=u.there b o e hx
  exact⟨o',(sb.2 b (ne e)).trans q⟩
theorem HOk.sameBut {P:Program}{w:World}{H:Hp}{h1 h2:Heap}{C:Addr}(x:HOk P w H h1)(sb:Heap.SameBut C h1 h2)(hC:H C=none):HOk P w H h2:=fun a o e=>
 (x a o e).stay (fun b u hb q=>(sb.2 b (by
  rintro rfl
  rcases hb with rfl | hb
  ·rw[hC] at e; cases e
  ·rw[hC] at hb; cases hb)).trans q) (fun _ q=>q) fun _ _ q=>q
variable {g:TG}{tt:TT}{te:TE}{m:List (Option Nat)}
section
variable {tg iter elt:Expr}{ifs:List Expr}{sc:Scope}{pos:Pos}{wi:TI}{Nc:List Str}
def jB6 (X:Cx)(sc:Scope)(Nc:List Str)(m:List (Option Nat)):Prop:=
 m.length=Nc.length/\∀ (k i:Nat),m[k]?=some (some i)->∃ x,Nc[k]?=some x/\X.N[i]?=some x/\sc.names.lookup x=some .free
theorem jL1 {ad:List (Addr×Obj)}{s:Shared}{σ:St}{H:Hp}{fp:List Addr}(I:Inv X ad σ H s)(hkind:sc.kind= .function)(hcell:∀ y∈sc.names,y.2≠ .cell)
  (hfree:∀ y∈sc.names,y.2= .free->X.env.scope.names.lookup y.1=some .cell\/X.env.scope.names.lookup y.1=some .free) (hm:jB6 X sc Nc m) (hfp:∀ b∈fp,FpOk X ad H b) (hlt:∀ b∈fp,b<s.heap.objs.size)
  {h1:Heap}{tk:Nat}{md:Str->Option Value}(hns:h1.Ns s.heap.objs.size md) (old:∀ b o,s.heap.get? b=some o->h1.get? b=some o):
  Inv (blk X sc (kG X.env.cells sc.names []) s.heap.objs.size Nc fp s H) [] (blkσ m σ) H { s with heap:=h1,toks:=tk} :=by
 have hcl:∀ y∈sc.names,y.2= .free->∃ c,X.env.cells.lookup y.1=some c:=fun y hy hf=>I.ok.has y.1 (hfree y hy hf)
 have sub:∀ x c,(kG X.env.cells sc.names []).lookup x=some c->X.env.cells.lookup x=some c:=jA8 sc.names [] hcl (fun x c e=>by cases e)
 have isfree:∀ x,(compEnvC sc (kG X.env.cells sc.names []) s.heap.objs.size X.env).kindOf x=some .cell\/(compEnvC sc (kG X.env.cells sc.names []) s.heap.objs.size X.env).kindOf x=some .free->sc.names.lookup x=some .free:=fun x h=>by
  rcases h with h | h
  ·exact jBR (.inl rfl) hcell h
  ·exact jBR (.inr rfl) hcell h
 refine⟨⟨I.ok.mod,hkind,I.ok.glob,I.ok.blt,aq _,fun x y c h1 h2=>I.ok.inj x y c (sub x c h1) (sub y c h2),fun x hx=>?_,fun x c hf _=>?_,I.ok.hd,I.ok.frames, .inl rfl,fun b hb=>?_,I.bs,bF I.ok.bsz I.sz,fun b o e hb=>?_,fun b hb hz=>?_,I.stack,I.stkFree⟩,
  rfl,I.bare,Un.kept old,⟨md,hns,fun k x v e1 e2 e3=>?_⟩,fun x c e=>?_,I.hok.fresh (aq _),fun x c e=>I.freeC x c (sub x c e),fun p hp=>absurd (show p∈([]:List (Addr×Obj)) from hp) (by simp),I.hok.kept old,?_⟩
 ·exact jAI sc.names [] (.inl (jAG (isfree x hx)))
 ·exact absurd (show false=true from hf) au
 ·obtain⟨f0,f1,f2,f3,f4,f5⟩:=hfp b hb
  exact⟨aF (hlt b hb),fun x c e=>f4 x c (sub x c e)⟩
 ·obtain⟨f0,f1,f2,f3,f4,f5⟩:=hfp b hb
  rcases f3 with q | q
  ·exact I.ok.noex b o e q
  ·exact absurd (aN (ao (I.ok.bs b o e).1) q) (bG _)
 ·obtain⟨f0,f1,f2,f3,f4,f5⟩:=hfp b hb
  rcases am.mp (I.stkSub b hz) with q | q
  ·exact f1 q
  ·exact f2 q
 ·have e2':∃ i,m[k]?=some (some i)/\σ[i]?=some (some v):=by
   unfold blkσ at e2
   rw[aL] at e2
   cases q:m[k]? with
   | none=>rw[q] at e2; cases e2
   | some o=>
    rw[q] at e2
    cases o with
    | none=>cases e2
    | some i=>
     refine⟨i,rfl,?_⟩
     have e2:(σ[i]?).getD none=some v:=aM e2
     cases r:σ[i]? with
     | none=>rw[r] at e2; cases e2
     | some z=>rw[r] at e2; exact bO some e2
  obtain⟨i,q1,q2⟩:=e2'
  obtain⟨x',a1,a2,a3⟩:=hm.2 k i q1
  have e1':Nc[k]?=some x:=e1
  rw[e1'] at a1
  cases a1
  have vis:=hfree (x, .free) (jAG a3) rfl
  obtain⟨m0,hn0,hl0⟩:=I.loc
  obtain⟨u,r,l⟩:=hl0 i x v a2 q2 (.inr vis)
  refine⟨u,r, .inr ⟨jB2 a3,?_⟩⟩
  obtain⟨c,hc⟩:=jAI (cells:=X.env.cells) (x:=x) sc.names [] (.inl (jAG a3))
  rcases l with ⟨lk,_⟩ | ⟨_,c',hc',o,ho,hd⟩
  ·have lk':X.env.scope.names.lookup x=some .local:=lk
   rcases vis with z | z
   ·rw[lk'] at z; cases z
   ·rw[lk'] at z; cases z
  ·have:=sub x c hc
   rw[hc'] at this
   cases this
   exact⟨c,hc,o,old _ _ ho,hd⟩
 ·obtain⟨v,o,ho,hd⟩:=I.cell x c (sub x c e)
  exact⟨v,o,old _ _ ho,hd⟩
 ·show (blkσ m σ).length=Nc.length
  unfold blkσ
  rw[ag]
  exact hm.1
theorem jE5 {tf:St->TE}(hc:X.calm=true)(hi:PI X tg iter wi)(hkind:sc.kind= .function)(hcell:∀ y∈sc.names,y.2≠ .cell)(hnames:∀ y∈sc.names,y.2= .local->sc.names.lookup y.1=some .local)
  (hfree:∀ y∈sc.names,y.2= .free->X.env.scope.names.lookup y.1=some .cell\/X.env.scope.names.lookup y.1=some .free) (hm:jB6 X sc Nc m)
  (hg:∀ cl C fp s H,PG (blk X sc cl C Nc fp s H) tg g) (ht:∀ cl C fp s H,PTs (blk X sc cl C Nc fp s H) ifs tt) (he:∀ cl C fp s H ad σ,Inv X ad σ H s->(∀ b∈fp,FpOk X ad H b)->PE (blk X sc cl C Nc fp s H) elt (tf σ))
  (hs:∀ x,foldedSetIterable iter X.env x=pure x) {fpos:Pos}{use:Option (Value->Sem Unit)}{R:Value->Shared->Prop}{ad:List (Addr×Obj)}{s:Shared}{σ:St}{H:Hp}{Q:VK}(I:Inv X ad σ H s) (h:tComp m wi g tt (tf σ) σ H Q)
  (fin:∀ (D C:Addr) (H5:Hp) (z1:Shared) (r:Flow),(∃ mm,z1.heap.Ns C mm)->FpOk X ad H5 C->(∀ h',Heap.SameBut C z1.heap h'->Inv X ad σ H5 { z1 with heap:=h'})->Q (.ref D) H5->compPost (model X.prog X.w) X.A X.xe use R (.ref D) C (.ok r) z1):
  wpAny (model X.prog X.w) X.A (comprehension (.ListComp elt [⟨tg,iter,ifs,0⟩] sc pos) sc X.env fpos (newList []) false (eval iter X.env) use) R X.xe s:=by
 have hcl:∀ y∈sc.names,y.2= .free->∃ c,X.env.cells.lookup y.1=some c:=fun y hy hf=>I.ok.has y.1 (hfree y hy hf)
 refine wpAny_comprehension_free (use:=use) rfl hs (jKT hcl) hkind hnames (ir (hi ad s σ H _ I h) fun v s1 h1=>ir h1 fun itv s2 h2=>?_)
 obtain⟨it,fp,tn,J,H2,e,I2,T,st2,f2,hQ⟩:=h2
 subst e
 have hlt:∀ b∈fp,b<s2.heap.objs.size:=fun b hb=>by
  obtain⟨o,e,_⟩:=T.obj 0 _ st2 b hb
  exact ao e
 refine aW (wpAny_newFunctionEnv hcell (by intro y hy; simp at hy) (fun h₁ hns₁ hsb₁=>?_) hkind)
 have I3:Inv X ad σ (upd H2 s2.heap.objs.size (.lst [])) { s2 with heap:=s2.heap.push { cls:= .type "list",data:= .seq ([]:List Value).toArray}} :=I2.lnew (t':=s2.toks) .nil (bi _)
 obtain⟨W,⟨n0,w0⟩,turn⟩:=hQ s2.heap.objs.size I2.fresh
 have hD3:∀ b∈fp,b≠s2.heap.objs.size:=fun b hb=>aF (hlt b hb)
 have f3:∀ b∈fp,FpOk X ad (upd H2 s2.heap.objs.size (.lst [])) b:=fun b hb=>by
  obtain⟨a0,a1⟩:=f2 b hb
  exact⟨by rw[jD (hD3 b hb)]; exact a0,a1⟩
 generalize hE:({ s2 with heap:=s2.heap.push { cls:= .type "list",data:= .seq ([]:List Value).toArray}} :Shared)=s3 at I3 hns₁ hsb₁ ⊢
 generalize hH3:upd H2 s2.heap.objs.size (.lst [])=H3 at I3 f3 w0
 have hsz3:s3.heap.objs.size=s2.heap.objs.size+1:=by rw[<- hE]; exact br _ _
 have old:∀ b o,s3.heap.get? b=some o->h₁.get? b=some o:=fun b o e=>hsb₁.extBut b o (aF (ao e)) (ae _ e)
 have old2:∀ b o,s2.heap.get? b=some o->h₁.get? b=some o:=fun b o e=>old b o (by rw[<- hE]; exact ae _ e)
 have I4:=jL1 (fp:=fp) (tk:=s3.toks+([]:List (Str×Value)).length) I3 hkind hcell hfree hm f3 (fun b hb=>show b<s3.heap.objs.size by rw[hsz3]; exact cB (hlt b hb)) hns₁ old
 have st4:tn 0 h₁:=T.keep _ _ _ st2 fun b hb o e=>old2 b o e
 have loop:codeAny (model X.prog X.w) X.A (.compLoop (.ListComp elt [⟨tg,iter,ifs,0⟩] sc pos) 0 (.ref it) (.ref s2.heap.objs.size) (compEnvC sc (kG X.env.cells sc.names []) s3.heap.objs.size X.env))
   (compPost (model X.prog X.w) X.A X.xe use R (.ref s2.heap.objs.size) s3.heap.objs.size) { s3 with heap:=h₁,toks:=s3.toks+([]:List (Str×Value)).length} :=by
  generalize hX:blk X sc (kG X.env.cells sc.names []) s3.heap.objs.size Nc fp s3 H3=Xb at I4
  have eP:Xb.prog=X.prog:=by rw[<- hX]; rfl
  have ew:Xb.w=X.w:=by rw[<- hX]; rfl
  have eK:Xb.K=X.K:=by rw[<- hX]; rfl
  have eA:Xb.A=X.A:=by rw[<- hX]; rfl
  have ec:Xb.calm=true:=by rw[<- hX]; exact hc
  have ee:Xb.env=compEnvC sc (kG X.env.cells sc.names []) s3.heap.objs.size X.env:=by rw[<- hX]; rfl
  have ex:Xb.xe=fun _ _=>False:=by rw[<- hX]; rfl
  have hgb:PG Xb tg g:=by rw[<- hX]; exact hg _ _ _ _ _
  have htb:PTs Xb ifs tt:=by rw[<- hX]; exact ht _ _ _ _ _
  have heb:PE Xb elt (tf σ):=by rw[<- hX]; exact he _ _ _ _ _ _ _ I3 f3
  have stat:∀ {H':Hp},(∀ b∈fp,H' b=none)->∀ b∈fp,FpOk Xb [] H' b:=fun {H'} hn b hb=>by
   obtain⟨o,eo,_⟩:=T.obj _ _ st4 b hb
   have q:=I4.ok.exf b (by rw[<- hX]; exact hb)
   exact⟨hn b hb,q.1,I4.ok.exfs b (by rw[<- hX]; exact hb), .inl (by rw[<- hX]; exact hb),q.2,fun p hp=>absurd hp (by rw[<- hX]; simp [blk])⟩
  have fr4:∀ b∈fp,H3 b=none:=fun b hb=>(f3 b hb).1
  unfold PG at hgb
  unfold PTs at htb
  unfold PE at heb
  rw[eP,ew,eA,ee,ex] at hgb htb heb
  refine jI8 (fun n z=>∃ i σ' H' ys,Inv Xb [] σ' H' z/\tn i z.heap/\(∀ b∈fp,H' b=none)/\W i n σ' H' ys) ?_ n0 ⟨0,_,H3,[],I4,st4,fr4,w0⟩
  rintro n z ⟨i,σ5,H5,ys,I5,st5,fr5,w5⟩
  obtain⟨hD,hlen,way⟩:=turn i n σ5 H5 ys w5
  rcases way with ⟨stop,q⟩ | ⟨go,N,hN,step⟩
  ·have RR:=T.done Xb eP ew eK ec i [] z σ5 H5 (fun _ _=>False) I5 (stat fr5) st5 stop
   rw[eA] at RR
   refine ir RR fun r z1 ⟨hr,I6⟩=>?_
   subst hr
   obtain⟨mm,hn6,_⟩:=I6.loc
   rw[ee] at hn6
   have u6:Un (frs X.stack) fp H3 H5 s3.heap z1.heap:=by
    have:=I6.base
    rw[<- hX] at this
    exact this
   have fC:H5 s3.heap.objs.size=none:=by
    have:=I6.free
    rw[ee] at this
    exact this
   have hok6:HOk X.prog X.w H5 z1.heap:=by
    have:=I6.hok
    rw[eP,ew] at this
    exact this
   have os6:z1.os=s3.os:=by
    have:=I6.os
    rw[<- hX] at this
    exact this
   refine fin s2.heap.objs.size s3.heap.objs.size H5 z1 .next ⟨mm,hn6⟩ (I3.fpOk (aq _) fC) (fun h' sb=>?_) q
   refine I3.call' (s':= { z1 with heap:=h'}) (ch:=fp) os6 (u6.sameBut sb (aq _)) (hok6.sameBut sb fC) I6.bare (fun b hb=>?_)
   obtain⟨a0,a1,a2,a3,a4,a5⟩:=f3 b hb
   exact⟨a3,a1,a4,a5⟩
  ·have RR:=T.item Xb eP ew eK ec i [] z σ5 H5 (fun _ _=>False) I5 (stat fr5) st5 go
   rw[eA] at RR
   refine ir RR fun r z1 ⟨u,hr,h6⟩=>?_
   subst hr
   refine ir h6 fun _ z2 ⟨x,H7,I7,r7,y7,st7,fr7⟩=>?_
   have I7':=I7.pinned (stat fr7) (T.obj _ _ st7)
   refine ir (hgb _ z2 σ5 H7 x u _ I7' r7 (step x H7 y7)) fun _ z3 ⟨σ8,H8,I8,q8⟩=>?_
   refine ir (htb _ z3 σ8 H8 _ I8 q8) fun ok z4 ⟨H9,I9,q9⟩=>?_
   have again:∀ {σ7:St}{Hz:Hp}{zz:Shared}{yy:List V}{n':Nat},Inv Xb ([]++jEI fp z2.heap) σ7 Hz zz->n'<n->W (i+1) n' σ7 Hz yy->∃ k,k<n/\∃ i σ' H' ys,Inv Xb [] σ' H' zz/\tn i zz.heap/\(∀ b∈fp,H' b=none)/\W i k σ' H' ys:=fun {σ7 Hz zz yy n'} Iz hn wz=>by
    refine⟨n',hn,i+1,σ7,Hz,yy,Iz.unpinned,T.keep _ _ _ st7 fun b hb o e=>(Iz.pin (b,o) (bh _ (bh _ (jAZ hb e)))).1,fun b hb=>?_,wz⟩
    obtain⟨o,e,d⟩:=T.obj _ _ st7 b hb
    exact(Iz.pin (b,o) (bh _ (bh _ (jAZ hb e)))).2.1
   cases ok with
   | false=>
    obtain⟨n',hn,w9⟩:=hN _ _ _ (show N σ8 H9 ys from q9)
    exact again I9 hn w9
   | true=>
    refine ir (heb _ z4 σ8 H9 _ I9 q9) fun xv z5 ⟨vv,H10,I10,r10,hD10,n10⟩=>?_
    obtain⟨n',hn,w10⟩:=hN _ _ _ n10
    have RR:=jAS (X:=Xb) _ z5 σ8 H10 (.ref s2.heap.objs.size) [vv] (.ref s2.heap.objs.size) [xv] (fun _ H'=>H'=upd H10 s2.heap.objs.size (.lst (ys++[vv]))) I10 rfl (.cons r10 .nil) ⟨_,ys,vv,rfl,rfl,hD10,hlen,rfl⟩
    rw[eP,ew,eA,ex] at RR
    refine ir RR fun _ z6 ⟨_,H11,I11,_,e11⟩=>?_
    subst e11
    exact again I11 hn w10
 exact codeAny_compStart_list loop (T.self _ 0 _ _ _ st4 loop)
theorem jFG (hc:X.calm=true)(hi:PI X tg iter wi)(hkind:sc.kind= .function)(hcell:∀ y∈sc.names,y.2≠ .cell)(hnames:∀ y∈sc.names,y.2= .local->sc.names.lookup y.1=some .local)
  (hfree:∀ y∈sc.names,y.2= .free->X.env.scope.names.lookup y.1=some .cell\/X.env.scope.names.lookup y.1=some .free) (hm:jB6 X sc Nc m)
  (hg:∀ cl C fp s H,PG (blk X sc cl C Nc fp s H) tg g) (ht:∀ cl C fp s H,PTs (blk X sc cl C Nc fp s H) ifs tt) (he:∀ cl C fp s H,PE (blk X sc cl C Nc fp s H) elt te)
  (hs:∀ x,foldedSetIterable iter X.env x=pure x:=by intro _; rfl):PE X (.ListComp elt [⟨tg,iter,ifs,0⟩] sc pos) (tComp m wi g tt te):=by
 intro ad s σ H Q I h
 rw[eval_ListComp]
 exact jE5 (tf:=fun _=>te) (use:=none) hc hi hkind hcell hnames hfree hm hg ht (fun cl C fp s H _ _ _ _=>he cl C fp s H) hs I h (fun D C H5 z1 r ⟨mm,hn⟩ fC sb q=>⟨mm,hn,fun h' s2=>⟨.ref D,H5,sb h' s2,rfl,q⟩⟩)
end
theorem kW {X:Cx}{sc psc:Scope}(h:(sc.names.all fun y=>decide (y.2= .free->psc.names.lookup y.1=some .cell\/psc.names.lookup y.1=some .free))=true:=by decide+kernel)(e:X.env.scope=psc:=by rfl):
  ∀ y∈sc.names,y.2= .free->X.env.scope.names.lookup y.1=some .cell\/X.env.scope.names.lookup y.1=some .free:=by
 rw[e]
 intro y hy
 exact ai (aQ.mp h y hy)
def jKJ (sc:Scope)(N Nc:List Str)(m:List (Option Nat))(k:Nat):Bool:=match m[k]? with
 | some (some i)=>match Nc[k]? with
  | some x=>decide (N[i]?=some x)&&decide (sc.names.lookup x=some .free)
  | none=>false
 | _=>true
theorem jW {X:Cx}{sc:Scope}{N Nc:List Str}{m:List (Option Nat)}(e:X.N=N)(hl:m.length=Nc.length)(h:((List.range m.length).all (jKJ sc N Nc m))=true):jB6 X sc Nc m:=by
 refine⟨hl,fun k i hk=>?_⟩
 have hlt:k<m.length:=(ay.mp hk).1
 have q:=aQ.mp h k (bj.mpr hlt)
 unfold jKJ at q
 rw[hk] at q
 cases e2:Nc[k]? with
 | none=>rw[e2] at q; cases q
 | some x=>
  rw[e2] at q
  have q:(decide (N[i]?=some x)&&decide (sc.names.lookup x=some .free))=true:=q
  rw[aV] at q
  exact⟨x,rfl,by rw[e]; exact ai q.1,ai q.2⟩
section
variable {σ:St}{H1:Hp}{Q:VK}
theorem jBO {lo:Int}{n:Nat}(hn:n<sizeLine)(Pv:Addr->Nat->St->Hp->List V->Prop)(h0:∀ D,H1 D=none->Pv D 0 (blkσ m σ) (upd H1 D (.lst [])) [])
  (hD:∀ D i σ' H' ys,H1 D=none->i<=n->Pv D i σ' H' ys->H' D=some (.lst ys)/\ys.length<=i)
  (hs:∀ D i σ' H' ys,H1 D=none->i<n->Pv D i σ' H' ys->g (.int (lo+i)) σ' H' fun σ2 H2=>tt σ2 H2 fun b H3=>if b=true then te σ2 H3 fun v H4=>H4 D=some (.lst ys)/\Pv D (i+1) σ2 (upd H4 D (.lst (ys++[v]))) (ys++[v]) else Pv D (i+1) σ2 H3 ys)
  (hd:∀ D σ' H' ys,H1 D=none->Pv D n σ' H' ys->Q (.ref D) H'):qZ m g tt te σ Q (Itr lo n) H1:=by
 intro D hDn
 refine⟨fun i k σ' H' ys=>k=n - i/\i<=n/\Pv D i σ' H' ys,⟨n,rfl,bi _,h0 D hDn⟩,?_⟩
 rintro i k σ' H' ys ⟨rfl,hi,p⟩
 obtain⟨q1,q2⟩:=hD D i σ' H' ys hDn hi p
 refine⟨q1,by omega,?_⟩
 by_cases hlt:i<n
 ·refine .inr ⟨hlt,Pv D (i+1),fun σ2 H2 zs z=>⟨n - (i+1),by omega,rfl,hlt,z⟩,fun x H'' y=>?_⟩
  obtain⟨e1,e2⟩:=y
  subst e1 e2
  exact hs D i σ' _ ys hDn hlt p
 ·have e:i=n:=by omega
  subst e
  exact .inl ⟨aq _,hd D σ' H' ys hDn p⟩
end
end L2
end
namespace SS
open PySem PySem.SetTable
abbrev Ris (xs:Array Nat):Prop:=xs.toList.Pairwise (· < ·)
theorem jBQ {xs:Array Nat}(h:Ris xs){a b:Nat}(hab:a<b)(hb:b<xs.size):xs.getD a 0<xs.getD b 0:=by
 have h1:a<xs.size:=cX hab hb
 have:=cx.mp h a b (by simpa using h1) (by simpa using hb) hab
 simpa [Array.getD,h1,hb] using this
theorem jPY {xs:Array Nat}{j:Nat}(hr:Ris xs):∀ (fuel lo hi:Nat),hi - lo<=fuel->lo<=hi->hi<=xs.size->(∀ a,a<lo->xs.getD a 0<j)->(∀ a,hi<=a->a<xs.size->j<=xs.getD a 0)->
  (below.go xs j fuel lo hi<=xs.size/\(∀ a,a<below.go xs j fuel lo hi->xs.getD a 0<j)/\(∀ a,below.go xs j fuel lo hi<=a->a<xs.size->j<=xs.getD a 0)):=by
 intro fuel
 induction fuel with
 | zero=>
  intro lo hi h1 h2 h3 h4 h5
  have e:lo=hi:=by omega
  subst e
  exact⟨h3,h4,h5⟩
 | succ fuel ih=>
  intro lo hi h1 h2 h3 h4 h5
  unfold below.go
  by_cases hlt:lo<hi
  ·rw[aB hlt]
   have hm:(lo+hi) / 2<xs.size:=by omega
   have e:xs.getD ((lo+hi) / 2) j=xs.getD ((lo+hi) / 2) 0:=by simp [Array.getD,hm]
   dsimp only
   rw[e]
   by_cases hc:xs.getD ((lo+hi) / 2) 0<j
   ·rw[aB hc]
    refine ih _ _ (by omega) (by omega) h3 (fun a ha=>?_) h5
    by_cases e2:a=(lo+hi) / 2
    ·rw[e2]; exact hc
    ·exact cX (jBQ hr (by omega) hm) hc
   ·rw[av hc]
    refine ih _ _ (by omega) (by omega) (by omega) h4 (fun a ha hs=>?_)
    by_cases e2:a=(lo+hi) / 2
    ·rw[e2]; omega
    ·have:=jBQ hr (show (lo+hi) / 2<a by omega) hs
     omega
  ·rw[av hlt]
   have e:lo=hi:=by omega
   subst e
   exact⟨h3,h4,h5⟩
theorem jDL {xs:Array Nat}(hr:Ris xs)(j:Nat):below xs j<=xs.size/\(∀ a,a<below xs j->xs.getD a 0<j)/\(∀ a,below xs j<=a->a<xs.size->j<=xs.getD a 0):=
 jPY hr xs.size 0 xs.size (by omega) (bi _) (aq _) (fun a h=>absurd h (dN _)) (fun a h1 h2=>absurd h2 (by omega))
theorem jE7 {xs:Array Nat}(hr:Ris xs){j i:Nat}(hi:i<=xs.size)(h1:∀ a,a<i->xs.getD a 0<j)(h2:∀ a,i<=a->a<xs.size->j<=xs.getD a 0):below xs j=i:=by
 obtain⟨b1,b2,b3⟩:=jDL hr j
 rcases Nat.lt_trichotomy (below xs j) i with h | h | h
 ·have q1:=h1 _ h
  have q2:=b3 _ (aq _) (by omega)
  omega
 ·exact h
 ·have q1:=b2 _ h
  have q2:=h2 _ (aq _) (by omega)
  omega
theorem jA9 {α:Type}(xs:Array α)(p:Nat)(x:α):(insertAt xs p x).toList=xs.toList.take p++x::xs.toList.drop p:=by
 unfold insertAt
 simp [Array.toList_extract,List.extract]
 rw[bx (by simp)]
theorem jBF {α:Type}(xs:Array α)(p:Nat)(x:α):(insertAt xs p x).size=xs.size+1:=by
 rw[<- bp,jA9]
 simp
 omega
theorem jHO {xs:Array Nat}{j:Nat}(hr:Ris xs)(hj:j∉xs.toList):Ris (insertAt xs (below xs j) j):=by
 obtain⟨b1,b2,b3⟩:=jDL hr j
 show (insertAt xs (below xs j) j).toList.Pairwise (· < ·)
 rw[jA9,eZ,g9]
 have hl:∀ a∈xs.toList.take (below xs j),a<j:=by
  intro a ha
  obtain⟨i,hi,e⟩:=List.mem_take_iff_getElem.mp ha
  have:=b2 i (by omega)
  have hs:i<xs.size:=by simp at hi; omega
  simp [Array.getD,hs] at this
  simp at e
  omega
 have hg:∀ a∈xs.toList.drop (below xs j),j<a:=by
  intro a ha
  obtain⟨i,hi,e⟩:=List.mem_drop_iff_getElem.mp ha
  have hs:i+below xs j<xs.size:=by simpa [gw] using hi
  have:=b3 (i+below xs j) (by omega) hs
  simp [Array.getD,hs] at this
  have e':xs[i+below xs j]=a:=by simpa [gw] using e
  have hne:a≠j:=by
   intro z
   apply hj
   rw[<- z]
   exact gI ha
  omega
 refine⟨hr.sublist (fX _ _),⟨hg,hr.sublist (List.drop_sublist _ _)⟩,?_⟩
 intro a ha b hb
 rcases am.mp hb with rfl | hb
 ·exact hl a ha
 ·exact cX (hl a ha) (hg b hb)
theorem jCR {t:SetTable}{j:Nat}(hr:Ris t.place)(h:t.slot j= .empty):j∉t.place.toList:=by
 intro hm
 obtain⟨i,hi,e⟩:=cL hm
 have hs:i<t.place.size:=by simpa using hi
 have e0:t.place[i]=j:=by simpa using e
 have eb:below t.place j=i:=by
  refine jE7 hr (dD hs) (fun a ha=>?_) (fun a h1 h2=>?_)
  ·have:=jBQ hr ha hs
   simp only [Array.getD,hs] at this ⊢
   simp [e0] at this ⊢
   exact this
  ·by_cases e2:a=i
   ·subst e2
    simp [Array.getD,hs,e0]
   ·have:=jBQ hr (show i<a by omega) h2
    simp only [Array.getD,hs] at this
    simp [e0] at this
    simp [Array.getD]
    omega
 unfold SetTable.slot at h
 dsimp only at h
 rw[eb] at h
 rw[aB (by simp [hs,e0])] at h
 cases h
theorem jFR (j:Nat):has #[] j=false:=by
 unfold has
 simp
theorem jGI {t:SetTable}(hd:t.dummies=#[]){f:Nat->Int}{h:Int} :∀ (fuel:Nat) (p:Probe) (m:Met),p.dummy=none->probe.go t f h fuel p=some m->
  (∃ j,m= .empty j none/\t.slot j= .empty)\/(∃ j i n,m= .candidate j i n):=by
 intro fuel
 induction fuel with
 | zero=>intro p m _ e; simp [probe.go] at e
 | succ fuel ih=>
  intro p m hp e
  unfold probe.go at e
  cases hs:t.slot p.j with
  | empty=>
   rw[hs] at e
   simp only [ej] at e
   subst e
   exact .inl ⟨p.j,by rw[hp],hs⟩
  | dummy=>
   unfold SetTable.slot at hs
   dsimp only at hs
   rw[hd,jFR] at hs
   split at hs
   ·cases hs
   ·simp at hs
  | live i=>
   rw[hs] at e
   dsimp only at e
   split at e
   ·simp only [ej] at e
    subst e
    exact .inr ⟨_,_,_,rfl⟩
   ·refine ih _ _ ?_ e
    unfold advance
    split
    ·exact hp
    ·exact hp
theorem jE2 {t:SetTable}(hr:Ris t.place)(hd:t.dummies=#[]){h:Int}{slot:Nat}{d:Bool}(e:t.freeSlot h=some (slot,d)):slot∉t.place.toList:=by
 unfold SetTable.freeSlot at e
 split at e
 ·rename_i j dummy hp
  simp only [ej,gd] at e
  have hp':probe.go t (fun _=>h+1) h (10*turns t.mask) (t.probeStart h)=some (.empty j dummy):=hp
  rcases jGI hd _ _ _ (by unfold probeStart; rfl) hp' with ⟨j',em,hs⟩ | ⟨_,_,_,em⟩
  ·cases em
   have:slot=j:=by rw[<- e.1]; rfl
   rw[this]
   exact jCR hr hs
  ·cases em
 ·cases e
theorem jHL {t:SetTable}{j:Nat}(hd:t.dummies=#[])(h:t.slot j≠ .empty):(∃ i,t.slot j= .live i)/\j∈t.place.toList:=by
 unfold SetTable.slot at h ⊢
 dsimp only at h ⊢
 by_cases q:(t.place[below t.place j]?==some j)=true
 ·rw[aB q]
  refine⟨⟨_,rfl⟩,?_⟩
  have e:t.place[below t.place j]?=some j:=eq_of_beq q
  obtain⟨hi,e⟩:=dy.mp e
  rw[<- e]
  exact Array.getElem_mem_toList hi
 ·rw[av q,hd,jFR] at h
  exact absurd rfl h
theorem run7 (i:Nat):runEnd 7 i=i:=by unfold runEnd; rw[av (by omega)]
theorem jJ9 {t:SetTable}(hm:t.mask=7)(hd:t.dummies=#[]){h:Int} :∀ (k fuel:Nat) (p:Probe),p.j=p.i->p.more=0->p.i<8->p.perturb<32->k<=fuel->
  probe.go t (fun _=>h+1) h fuel p=none->∀ r,r<k->Nat.repeat (fun i=>(i*5+1) % 8) r p.i∈t.place.toList:=by
 intro k
 induction k with
 | zero=>intro fuel p _ _ _ _ _ _ r hr; omega
 | succ k ih=>
  intro fuel p h1 h2 h3 h4 h5 h6 r hr
  obtain⟨f,rfl⟩:∃ f,fuel=f+1:=⟨fuel - 1,by omega⟩
  unfold probe.go at h6
  by_cases he:t.slot p.j= .empty
  ·rw[he] at h6; cases h6
  ·obtain⟨⟨i,hl⟩,hmem⟩:=jHL hd he
   rw[hl] at h6
   dsimp only at h6
   rw[av (by simp; omega)] at h6
   have hz:p.perturb / 32=0:=by omega
   have ea:t.advance p= { p with j:=(p.i*5+1) % 8,more:=0,i:=(p.i*5+1) % 8,perturb:=0} :=by
    unfold advance leap
    rw[av (by omega),hm,hz]
    simp [run7]
   rw[ea] at h6
   cases r with
   | zero=>show p.i∈_; rw[<- h1]; exact hmem
   | succ r=>
    have q:=ih f _ (by rfl) (by rfl) (by show (p.i*5+1) % 8<8; omega) (by show 0<32; omega) (by omega) h6 r (by omega)
    have e:∀ (r i:Nat),Nat.repeat (fun i=>(i*5+1) % 8) (r+1) i=Nat.repeat (fun i=>(i*5+1) % 8) r ((i*5+1) % 8):=by
     intro r
     induction r with
     | zero=>intro i; rfl
     | succ r ihr=>
      intro i
      show ((Nat.repeat _ (r+1) i)*5+1) % 8=((Nat.repeat _ r ((i*5+1) % 8))*5+1) % 8
      rw[ihr]
    rw[e]
    exact q
theorem jL4:∀ i,i<8->∀ j,j<8->∃ r,r<8/\Nat.repeat (fun i=>(i*5+1) % 8) r i=j:=by decide+kernel
theorem jE1 {t:SetTable}(hm:t.mask=7)(hd:t.dummies=#[])(hz:t.place.size<8){h:Int}(h0:0<=h)(h1:h<32):∃ q,t.freeSlot h=some q:=by
 unfold SetTable.freeSlot
 have hb:bits h<32:=by unfold bits; omega
 have hps:t.probeStart h= { j:=bits h % 8,more:=0,i:=bits h % 8,perturb:=bits h,dummy:=none} :=by
  unfold probeStart
  rw[hm]
  simp [run7]
 cases e:t.probe (fun _=>h+1) h (t.probeStart h) with
 | none=>
  exfalso
  have e':probe.go t (fun _=>h+1) h (10*turns t.mask) (t.probeStart h)=none:=e
  rw[hps] at e'
  have q:=jJ9 hm hd 8 _ _ (by rfl) (by rfl) (by show bits h % 8<8; omega) (by exact hb) (by rw[hm]; decide) e'
  have sub:List.range 8 ⊆ t.place.toList:=by
   intro j hj
   obtain⟨r,hr,er⟩:=jL4 (bits h % 8) (by omega) j (bj.mp hj)
   rw[<- er]
   exact q r hr
  have:=List.Nodup.length_le_of_subset (List.nodup_range (n:=8)) sub
  simp at this
  omega
 | some m=>
  rcases jGI hd _ _ _ (by rw[hps]) (show probe.go t (fun _=>h+1) h (10*turns t.mask) (t.probeStart h)=some m from e) with ⟨j,rfl,_⟩ | ⟨j,i,n,rfl⟩
  ·exact⟨_,rfl⟩
  ·exfalso
   have nc:∀ (fuel:Nat) (p:Probe) (j i:Nat) (n:Probe),probe.go t (fun _=>h+1) h fuel p≠some (.candidate j i n):=by
    intro fuel
    induction fuel with
    | zero=>intro p j i n; simp [probe.go]
    | succ f ih=>
     intro p j i n
     unfold probe.go
     cases t.slot p.j with
     | empty=>simp
     | dummy=>exact ih _ _ _ _
     | live i'=>
      dsimp only
      rw[av (by simp; omega)]
      exact ih _ _ _ _
   exact nc _ _ _ _ _ e
structure Tab (t:SetTable)(n:Nat)(led:Bool):Prop where
 ris:Ris t.place
 sz:t.place.size=n
 dm:t.dummies=#[]
 msk:t.mask=7
 pl:t.plain=true
 ld:t.led=led
theorem Tab.fits {t:SetTable}{n:Nat}{led:Bool}(T:Tab t n led)(hn:n<=4):t.fits n=true:=by
 unfold SetTable.fits fill
 simp [T.sz,T.dm,T.msk]
 omega
theorem Tab.full {t:SetTable}{n:Nat}{led:Bool}(T:Tab t n led)(hn:n<=4):t.tooFull=false:=by
 unfold tooFull fill
 simp [T.sz,T.dm,T.msk]
 omega
theorem jIK (led:Bool):Tab (fresh 0 0 led) 0 led:=⟨List.Pairwise.nil,rfl,rfl,rfl,rfl,rfl⟩
theorem jI2 {t:SetTable}{n:Nat}{led:Bool}(T:Tab t n led)(hn:n+1<=4)(es:Array (Int×Value))(he:es.size=n){h:Int}(h0:0<=h)(h1:h<32)(x:Value):
  Tab (layNew t es h x).2.1 (n+1) led/\∃ p,(layNew t es h x).1.toList=es.toList.take p++(h,x)::es.toList.drop p:=by
 obtain⟨⟨slot,d⟩,hf⟩:=jE1 T.msk T.dm (by rw[T.sz]; omega) h0 h1
 unfold layNew
 rw[hf]
 dsimp only [SetTable.put]
 have hnm:=jE2 T.ris T.dm hf
 have T2:Tab { t with place:=insertAt t.place (below t.place slot) slot,dummies:=if has t.dummies slot then eraseAt t.dummies (below t.dummies slot) else t.dummies} (n+1) led:=by
  refine⟨jHO T.ris hnm,by rw[jBF,T.sz],?_,T.msk,T.pl,T.ld⟩
  rw[T.dm,jFR]
  rfl
 refine⟨?_,_,jA9 _ _ _⟩
 unfold SetTable.orStandIn
 rw[jBF,he,T2.fits hn]
 exact T2
def jGD (xs:Array Nat):Nat->Nat
 | 0=>0
 | i+1=>xs.getD i 0+1
theorem jF8 {xs:Array Nat}(hr:Ris xs){i:Nat}(hi:i<=xs.size):below xs (jGD xs i)=i:=by
 cases i with
 | zero=>exact jE7 hr (bi _) (fun a h=>absurd h (dN _)) (fun a _ _=>bi _)
 | succ i=>
  refine jE7 hr hi (fun a ha=>?_) (fun a h1 h2=>?_)
  ·show _<xs.getD i 0+1
   by_cases e:a=i
   ·rw[e]; omega
   ·have:=jBQ hr (show a<i by omega) (show i<xs.size by omega)
    omega
  ·show xs.getD i 0+1<=_
   exact jBQ hr (show i<a by omega) h2
theorem jI6 {α:Type}{l:List α}{i:Nat}(h:i<l.length):(l[i]::l.eraseIdx i).Perm l:=by
 rw[List.eraseIdx_eq_take_drop_succ]
 have e:l=l.take i++l[i]::l.drop (i+1):=by rw[<- fQ h,eG]
 conv=>rhs; rw[e]
 exact List.perm_middle.symm
theorem jOZ {α:Type}(next:Nat->Nat):∀ (fuel k:Nat) (left:List α) (out:Array α),fuel=left.length->(pickOrder.go next fuel k left out).toList.Perm (out.toList++left):=by
 intro fuel
 induction fuel with
 | zero=>
  intro k left out h
  have:left=[]:=dU.mp h.symm
  subst this
  simp [pickOrder.go]
 | succ f ih=>
  intro k left out h
  have hl:next k % left.length<left.length:=Nat.mod_lt _ (by omega)
  unfold pickOrder.go
  rw[az hl]
  dsimp only
  refine(ih _ _ _ (by rw[List.length_eraseIdx_of_lt hl]; omega)).trans ?_
  rw[Array.toList_push,List.append_assoc]
  exact List.Perm.append_left _ (jI6 hl)
theorem jEJ {α:Type}(next:Nat->Nat)(xs:Array α):(pickOrder next xs).toList.Perm xs.toList:=by
 unfold pickOrder
 have:=jOZ next xs.size 0 xs.toList #[] (by simp)
 simpa using this
end SS
namespace SS
open PySem
abbrev ledW (w:World):Bool:=!(w.params.followText "set-order")
def El (e:Int×Value)(k:Int):Prop:=e.1=hashInt k/\∃ t,e.2= .int k t
theorem jB9 {α β:Type}{F:α->β->Prop} :∀ {l:List α}{r:List β},Paired F l r->∀ a∈l,∃ b∈r,F a b
 | _,_, .nil=>fun a h=>by cases h
 | _,_, .cons f t=>fun a h=>by
  rcases am.mp h with rfl | h
  ·exact⟨_,aJ,f⟩
  ·obtain⟨b,hb,q⟩:=jB9 t a h
   exact⟨b,aI _ hb,q⟩
theorem jC6 {α β:Type}{F:α->β->Prop} :∀ {l:List α}{r:List β},Paired F l r->∀ b∈r,∃ a∈l,F a b
 | _,_, .nil=>fun a h=>by cases h
 | _,_, .cons f t=>fun b h=>by
  rcases am.mp h with rfl | h
  ·exact⟨_,aJ,f⟩
  ·obtain⟨a,ha,q⟩:=jC6 t b h
   exact⟨a,aI _ ha,q⟩
theorem jDG {α β:Type}{F:α->β->Prop}{a:α}{b:β}(f:F a b):∀ {l:List α}{r:List β}(p:Nat),Paired F l r->Paired F (l.take p++a::l.drop p) (r.take p++b::r.drop p)
 | _,_,0,q=>by simpa using Paired.cons f q
 | _,_,p+1, .nil=>by simpa using Paired.cons f .nil
 | _,_,p+1, .cons g t=>by
  simp only [gR,List.drop_succ_cons,List.cons_append]
  exact .cons g (jDG f p t)
theorem jOQ {α:Type}(l:List α)(p:Nat)(x z:α):z∈l.take p++x::l.drop p↔z=x\/z∈l:=by
 conv=>rhs; rw[<- eG p l]
 simp only [bq,am]
 constructor
 ·rintro (h | h | h)
  ·exact .inr (.inl h)
  ·exact .inl h
  ·exact .inr (.inr h)
 ·rintro (h | h | h)
  ·exact .inr (.inl h)
  ·exact .inl h
  ·exact .inr (.inr h)
theorem jDS {α:Type}(l:List α)(p:Nat)(x:α):(l.take p++x::l.drop p).Perm (x::l):=by
 have h:(l.take p++x::l.drop p).Perm (x::(l.take p++l.drop p)):=List.perm_middle
 rw[eG] at h
 exact h
structure SetG (w:World)(h:Heap)(a:Addr)(ks:List Int):Prop where
 ex:∃ o es ep t,h.get? a=some o/\o.ExactSet/\o.data= .set es ep t/\Paired El es.toList ks/\Tab t es.size (ledW w)
 nd:ks.Nodup
 len:ks.length<=4
variable {prog:Program}{w:World}{A:Around}{E:Value->Shared->Prop}{s:Shared}{a:Addr}
section
variable {ks:List Int}{k:Int}{tk:Tok}
theorem elems {es:List (Int×Value)}(h:Paired El es ks):ElemsOf (intKind prog w) es:=fun e he=>by
 obtain⟨k,_,h1,t,h2⟩:=jB9 h e he
 rw[h2]
 exact⟨⟨k,by show Value.isInt k (.int k t)=true; simp [Value.isInt],h1⟩,rfl⟩
theorem SetG.at {h h':Heap}(S:SetG w h a ks)(e:∀ o,h.get? a=some o->h'.get? a=some o):SetG w h' a ks:=by
 obtain⟨⟨o,es,ep,t,ho,r⟩,nd,len⟩:=S
 exact⟨⟨o,es,ep,t,e _ ho,r⟩,nd,len⟩
theorem jBM (k0:0<=k)(k1:k<32):hashInt k=k:=by
 obtain⟨n,rfl⟩:=Int.eq_ofNat_of_zero_le k0
 have e:∀ n:Nat,n<32->hashInt (n:Int)=(n:Int):=by decide+kernel
 exact e n (by omega)
theorem jS7 {Q:Bool->Shared->Prop}(S:SetG w s.heap a ks)(hl:ks.length+1<=4)(k0:0<=k)(k1:k<32)
  (h:∀ b h' ks',Heap.SameBut a s.heap h'->SetG w h' a ks'->(∀ z,z∈ks'↔z=k\/z∈ks)->ks'.length<=ks.length+1->Q b { s with heap:=h'}):
  wpAny (model prog w) A (setAddHashed a (.int k tk) (hashInt k)) Q E s:=by
 obtain⟨o,es,ep,t,ho,hex,hd,hp,T⟩:=id S.ex
 have hn:es.size=ks.length:=by rw[<- bp]; exact gb hp
 have hf:=T.fits (by omega)
 have hel:ElemsOf (intKind prog w) es.toList:=elems hp
 have hb:es.size<scanBound:=by unfold scanBound; omega
 have hi:∀ (j:Int) (t:Tok),Value.isInt k (.int j t)=true->j=k:=fun j t e=>by simpa [Value.isInt] using e
 unfold setAddHashed setAddHashedIn
 refine aO (ac (cj ho hd hf ?_))
 dsimp only
 rw[byScan_of (knd:=intKind prog w) rfl hb hel,aB rfl]
 unfold setAddByScan
 refine ac (ac (dz (ac ?_)))
 refine wpAny_setScan_of (knd:=intKind prog w) (k:=k) (by show Value.isInt k (.int k tk)=true; simp [Value.isInt]) ho hd hf hel ?_
 have es0:s= { s with heap:=s.heap} :=by cases s; rfl
 cases hr:List.findIdx? (fun e=>(intKind prog w).is k e.2) es.toList with
 | some j=>
  obtain⟨hj,hpj,_⟩:=List.findIdx?_eq_some_iff_getElem.mp hr
  obtain⟨k',hk',_,t',e'⟩:=jB9 hp _ (bK hj)
  have hkk:k'=k:=hi k' t' (by rw[<- e']; exact hpj)
  subst hkk
  refine af (af ?_)
  rw[es0]
  exact h false s.heap ks (fZ a s.heap) S (fun z=>⟨.inr,fun q=>q.elim (fun e=>e ▸ hk') id⟩) (by omega)
 | none=>
  have hnk:k∉ks:=fun hm=>by
   obtain⟨e,he,_,t',e'⟩:=jC6 hp k hm
   have q:=List.findIdx?_eq_none_iff.mp hr e he
   rw[e'] at q
   have q':Value.isInt k (.int k t')=false:=q
   simp [Value.isInt] at q'
  obtain⟨T1,p,hp1⟩:=jI2 T (by omega) es rfl (h:=hashInt k) (by rw[jBM k0 k1]; exact k0) (by rw[jBM k0 k1]; exact k1) (.int k tk)
  dsimp only
  show wpAny _ A (match layNew t es (hashInt k) (Value.int k tk) with | (es,t,wasDummy,gave)=>_) _ E s
  generalize layNew t es (hashInt k) (Value.int k tk)=L at T1 hp1 ⊢
  obtain⟨es1,t1,wd,gv⟩:=L
  dsimp only at T1 hp1 ⊢
  have hp2:Paired El es1.toList (ks.take p++k::ks.drop p):=by
   rw[hp1]
   exact jDG ⟨rfl,tk,rfl⟩ p hp
  have hz1:es1.size=es.size+1:=by
   rw[<- bp,hp1,(jDS es.toList p (hashInt k,Value.int k tk)).length_eq]
   simp
  have hlen:(ks.take p++k::ks.drop p).length=ks.length+1:=(jDS ks p k).length_eq
  have T1':Tab t1 es1.size (ledW w):=by rw[hz1]; exact T1
  have hg:(s.heap.update a (Obj.putSet es1 t1)).get? a=some { o with data:= .set es1 (ep+1) t1} :=by
   have q:=bE (Obj.putSet es1 t1) ho (by rw[putSet_of es1 t1 hd]; rfl)
   rw[putSet_of es1 t1 hd] at q
   exact q
  have fin:Q true { s with heap:=s.heap.update a (Obj.putSet es1 t1)} :=
   h true _ _ (fk ..) ⟨⟨_,es1,ep+1,t1,hg,hex,rfl,hp2,T1'⟩,(jDS ks p k).nodup_iff.mpr (bS.mpr ⟨hnk,S.nd⟩),by omega⟩ (fun z=>jOQ ks p k z) (by omega)
  have hfull:t1.tooFull=false:=T1'.full (by omega)
  refine ac (show wpAny _ A (match gv with | true=>rule "set.scan.the-table-gave-way" | false=>pure ()) _ E s from ?_)
  have hzl:es1.size<=sizeLine:=by rw[hz1,show sizeLine=2 ^ 24 from rfl]; omega
  cases gv with
  | true=>
   refine dz ?_
   split
   all_goals
    refine ac (show wpAny _ A (pure true:Sem Bool) _ E s from af ?_)
    simp only [ig]
    refine ac (wpAny_storeSet_of ho hd ?_ hzl)
    rw[hfull,fJ,av au]
    exact af (af fin)
  | false=>
   refine af ?_
   split
   all_goals
    refine ac (show wpAny _ A (pure true:Sem Bool) _ E s from af ?_)
    simp only [ig]
    refine ac (wpAny_storeSet_of ho hd ?_ hzl)
    rw[hfull,fJ,av au]
    exact af (af fin)
end
theorem jB5:entryFor table "set.update.loop" =some Builtin.«set.update.loop»:=entryFor_of_fast (by kernel_rfl)
theorem jAE:plainId "set.update.loop" =true:=by decide+kernel
variable {I:Addr}
section
variable {R:Result->Shared->Prop}{fp wr:List Addr}{n:Nat}{P:Nat->Value->Prop}{St:Nat->Shared->Prop}
theorem jLB (W:WalksS prog w A.in1 I fp wr (fun a b=>b=a) n P St)(S:Addr)(hSf:S∉fp)(val:Nat->Int)(hval:∀ i v,P i v->∃ t,v= .int (val i) t)(hv:∀ i,i<n->0<=val i/\val i<32)(hn:n<=4):
  ∀ (k i:Nat) (s:Shared) (ks:List Int),n - i=k->i<=n->St i s->SetG w s.heap S ks->ks.length<=i->(∀ z,z∈ks↔∃ j,j<i/\val j=z)->
   (∀ s' ks',Moved (S::wr) (fun a b=>b=a) s s'->SetG w s'.heap S ks'->(∀ z,z∈ks'↔∃ j,j<n/\val j=z)->R (.ok (.ret .none)) s')->
   codeAny (model prog w) A (.builtin "set.update.loop" ⟨[.ref S, .ref I],[]⟩) R s:=by
 have hSw:S∉wr:=fun h=>hSf (W.sub _ h)
 have sub1:∀ b∈wr,b∈S::wr:=fun b hb=>aI _ hb
 intro k
 induction k with
 | zero=>
  intro i s ks hk hi hst hS hl hm hR
  obtain rfl:i=n:=by omega
  refine bI jB5 ?_
  rw[bL jAE _]
  show wpAny _ A.in1 (pyNext (.ref I) >>= _) _ _ s
  refine ac (W.done s _ _ hst fun s' mv=>?_)
  show wpAny _ A.in1 (ret Value.none) _ _ s'
  exact af (hR s' ks (mv.mono sub1) (hS.at fun o e=>mv.heap S o hSw e) hm)
 | succ k ih=>
  intro i s ks hk hi hst hS hl hm hR
  have hlt:i<n:=by omega
  refine bI jB5 ?_
  rw[bL jAE _]
  show wpAny _ A.in1 (pyNext (.ref I) >>= _) _ _ s
  refine ac (W.item i s _ _ hlt hst fun v s' hP hst' mv=>?_)
  obtain⟨t,rfl⟩:=hval i v hP
  have hS':=hS.at (h':=s'.heap) fun o e=>mv.heap S o hSw e
  show wpAny _ A.in1 (holding [Value.int (val i) t] (setAdd S (.int (val i) t)) >>= _) _ _ s'
  refine ac (aO ?_)
  unfold setAdd
  refine aO (ac (wpAny_pyHash_int ?_))
  refine jS7 (s:= { s' with toks:=s'.toks+1}) hS' (by omega) (hv i hlt).1 (hv i hlt).2 fun b h' ks' sb hS2 hm2 hl2=>?_
  refine af ⟨dM jAE _,ih (i+1) _ ks' (by omega) hlt (W.frame _ s' _ _ hst' (cR _) fun b hb o e=>?_) hS2 (by omega) (fun z=>?_) fun s'' ks'' mv2 hS3 hm3=>?_⟩
  ·rw[sb.2 b (fun h:b=S=>hSf (by rw[<- h]; exact hb))]
   exact e
  ·rw[hm2,hm]
   constructor
   ·rintro (h | ⟨j,hj,e⟩)
    ·exact⟨i,by omega,h.symm⟩
    ·exact⟨j,by omega,e⟩
   ·rintro ⟨j,hj,e⟩
    by_cases hji:j=i
    ·exact .inl (by rw[<- e,hji])
    ·exact .inr ⟨j,by omega,e⟩
  ·refine hR s'' ks'' (Moved.trans W.gtrans ((mv.mono sub1).then_heap (cR _) fun b o hb e=>?_) mv2) hS3 hm3
   rw[sb.2 b (fun h:b=S=>hb (by rw[h]; exact aJ))]
   exact e
end
section
theorem jPP (a:Value){Q:Value->Shared->Prop}
  (h:Q (.ref s.heap.objs.size) { s with heap:=s.heap.push { cls:= .type "set",dict:=none,data:= .set #[] 0 (.fresh 0 0 (ledW w))}}):
  codeAny (model prog w) A (.call (.builtin "set.__new__") ⟨[.type "set",a],[]⟩) (wants Q E) s:=by
 refine codeAny_of_tree (show wpAny _ A.in1 (do checkBuiltinCall "set.__new__" ⟨[.type "set",a],[]⟩; again (.builtin "set.__new__" ⟨[.type "set",a],[]⟩)) _ _ s from ?_)
 refine ac (gJ (F.newCall_set_1 a) (af ⟨dM F.plain_set_new _,bI F.entry_set_new ?_⟩))
 rw[bL F.plain_set_new _]
 unfold Builtin.«set.__new__» Builtin.Frozenset.newClass
 have q:=sub_set_self
 obtain⟨hp,g,d,tk,os⟩:=s
 dsimp only
 wp_walk
 refine dE (af ?_)
 dsimp only
 simp only [newObj]
 exact ac (wpAny_alloc (af (af h)))
set_option maxHeartbeats 3200000 in
theorem set_of_list {l:Addr}{items:Array Value}{ns:List Int}{Q:Value->Shared->Prop}(hh:A.handled=none)(hl:s.heap.IsList l items)(hi:PyProof.Rows.IntsAre items.toList ns)
  (hn:items.size<=4) (hv:∀ z∈ns,0<=z/\z<32)
  (h:∀ (h':Heap) (tk:Nat) (ks:List Int),SetG w h' s.heap.objs.size ks->(∀ z,z∈ks↔z∈ns)->(∀ b o,s.heap.get? b=some o->h'.get? b=some o)->Q (.ref s.heap.objs.size) { s with heap:=h',toks:=tk}):
  wpAny (model prog w) A (call (.type "set") [.ref l]) Q E s:=by
 obtain⟨c,tl,hmro⟩:=F.called_set.mro
 have hmade:=F.called_set.made
 have hsub:=F.called_set.sub
 have g1:=F.called_set.notType
 have g2:=F.called_set.canCreate
 have g3:=F.typeCall_set_1 (.ref l)
 refine dP (codeAny_of_tree (show wpAny _ _ (callAny (.type "set") _) _ _ _ from ?_))
 refine af ⟨Code.quiet_builtin _ (by decide+kernel),bI F.entry_type_call ?_⟩
 rw[Around.under_plain (weight_type_call_type "set" [.ref l] []) rfl]
 repeat (any_goals (first | assumption | wp_step))
 have hlen:items.size=ns.length:=by rw[<- bp]; exact hi.length
 refine b9 (jPP (.ref l) (E:=E) (Q:=fun obj z=>obj= .ref s.heap.objs.size/\z= { s with heap:=s.heap.push { cls:= .type "set",dict:=none,data:= .set #[] 0 (.fresh 0 0 (ledW w))}}) ⟨rfl,rfl⟩) fun r z hr=>?_
 cases r with
 | error e=>exact hr
 | ok fl=>
  cases fl with
  | ret obj=>
   obtain⟨rfl,rfl⟩:=hr
   generalize hO:({ cls:= .type "set",dict:=none,data:= .set #[] 0 (.fresh 0 0 (ledW w))} :Obj)=oS
   have hS:(s.heap.push oS).get? s.heap.objs.size=some oS:=ak _ (by rw[<- hO]; rfl)
   have hT:Shared.TypeIs { s with heap:=s.heap.push oS} (.ref s.heap.objs.size) "set" :=⟨_,hS,by rw[<- hO]⟩
   have hli:=F.called_set.init.lookup
   have hbi:=F.called_set.init.bind (.ref s.heap.objs.size)
   repeat (any_goals (first | assumption | wp_step))
   refine b9 (codeAny_call_builtin (R:=wants (fun r z2=>r= .none/\∃ h' tk ks,z2= { s with heap:=h',toks:=tk} /\SetG w h' s.heap.objs.size ks/\(∀ z,z∈ks↔z∈ns)/\(∀ b o,s.heap.get? b=some o->h'.get? b=some o)) E)
    F.called_set.init.plain F.entry_set_init (check_set_init_1 hT ?_)) fun r2 z2 hr2=>?_
   ·obtain⟨ol,hol,hcl,nl,hdl⟩:=hl
    obtain⟨ocls,odict,odata,oslots⟩:=ol
    simp only at hcl hdl
    subst hcl; subst hdl
    have hol':(s.heap.push oS).get? l=some { cls:= .type "list",dict:=odict,data:= .seq items nl,slots:=oslots} :=ae _ hol
    have y1:=F.sub_list_set
    have y2:=F.sub_list_frozenset
    have y3:(Value.type "list" ==Value.type "dict")=false:=by decide
    have hl1:(s.heap.push oS).IsList l items:=⟨_,hol',rfl,nl,rfl⟩
    subst hO
    unfold Builtin.«set.__init__» noKeywords Builtin.Frozenset.updateFrom
    generalize hPI:pyIter=PI
    wp_walk
    subst hPI
    refine cg hl1 (ac (gK ?_))
    have hlS:l<s.heap.objs.size:=ao hol
    have hz1:(s.heap.push { cls:= .type "set",dict:=none,data:= .set #[] 0 (.fresh 0 0 (ledW w))}).objs.size=s.heap.objs.size+1:=br _ _
    have nI:l≠(s.heap.push { cls:= .type "set",dict:=none,data:= .set #[] 0 (.fresh 0 0 (ledW w))}).objs.size:=by
     rw[hz1]
     exact aF (cB hlS)
    have nS:s.heap.objs.size∉ [(s.heap.push { cls:= .type "set",dict:=none,data:= .set #[] 0 (.fresh 0 0 (ledW w))}).objs.size,l]:=by
     rw[hz1]
     simp only [am,ar,aX,gL]
     exact⟨aF (gg _),b8 hlS⟩
    have hget:((s.heap.push { cls:= .type "set",dict:=none,data:= .set #[] 0 (.fresh 0 0 (ledW w))}).push { cls:= .type "list_iterator",data:= .fields #[.ref l, .int 0 0]}).get? s.heap.objs.size
      =some { cls:= .type "set",dict:=none,data:= .set #[] 0 (.fresh 0 0 (ledW w))} :=ae _ hS
    refine jLB ((hG (by simp [hh]) _ l nI items).toS) s.heap.objs.size nS (fun i=>ns.getD i 0) (fun i v q=>PyProof.Rows.IntsAre.int_at hi i v (by rw[di]; exact q))
     (fun i q=>hv _ ?_) hn (items.size - 0) 0 _ [] rfl (bi _) ⟨⟨_,ak _ rfl,rfl,rfl⟩,hl1.push _⟩ ⟨⟨_,#[],0,_,hget,⟨rfl,rfl,rfl⟩,rfl, .nil,jIK _⟩,List.nodup_nil,bi _⟩ (aq _) (fun z=>⟨fun q=>by(cases q),fun ⟨j,q,_⟩=>absurd q (dN _)⟩) ?_
    ·have q':i<ns.length:=by rw[<- hlen]; exact q
     simp [List.getD,q']
    ·intro s' ks mv S' hm
     obtain⟨h',g',d',tk',os'⟩:=s'
     have e1:g'=s.gens:=mv.gens
     have e2:d'=s.drawn:=mv.drawn
     have e3:os'=s.os:=mv.os
     subst e1; subst e2; subst e3
     refine af (af ⟨rfl,h',tk',ks,rfl,S',fun z=>?_,fun b o e=>?_⟩)
     ·rw[hm]
      constructor
      ·rintro ⟨j,hj,e⟩
       have hj':j<ns.length:=by rw[<- hlen]; exact hj
       rw[<- e]
       simp [List.getD,hj']
      ·intro hz
       obtain⟨j,hj,e⟩:=cL hz
       exact⟨j,by rw[hlen]; exact hj,by simp [List.getD,hj,e]⟩
     ·have hb:=ao e
      refine mv.heap b o ?_ (ae _ (ae _ e))
      rw[hz1]
      simp only [am,ar,aX,gL]
      exact⟨aF hb,aF (cB hb)⟩
   ·cases r2 with
    | error e=>exact hr2
    | ok fl2=>
     cases fl2 with
     | ret r=>
      obtain⟨rfl,h',tk,ks,rfl,hS',hm,hk⟩:=hr2
      repeat (any_goals (first | assumption | wp_step))
      exact h _ _ _ hS' hm hk
     | _=>exact hr2.elim
  | _=>exact hr.elim
end
theorem slot_si_next:Slot "set_iterator" "__next__" "set_iterator.__next__" :=
 .of (owner:= "set_iterator") (n:= "__next__") (by
   rw[gC,eJ]
   kernel_rfl) (by decide+kernel) (by decide+kernel)
  (by decide+kernel)
  (by first
   | exact .inl (by decide+kernel)
   | exact .inr (by decide+kernel))
  (by
   rw[gM]
   kernel_rfl)
theorem jC3:Slot "set_iterator" "__iter__" "set_iterator.__iter__" :=
 .of (owner:= "set_iterator") (n:= "__iter__") (by
   rw[gC,eJ]
   kernel_rfl) (by decide+kernel) (by decide+kernel)
  (by decide+kernel)
  (by first
   | exact .inl (by decide+kernel)
   | exact .inr (by decide+kernel))
  (by
   rw[gM]
   kernel_rfl)
theorem jBN:entryFor table "set_iterator.__next__" =some Builtin.«set_iterator.__next__»:=entryFor_of_tree (by kernel_rfl)
theorem jDA:entryFor table "set.__iter__" =some Builtin.«frozenset.__iter__»:=
 entryFor_alias (id':= "frozenset.__iter__") (by kernel_rfl) rfl (by decide+kernel) (by kernel_rfl)
theorem jE3:entryFor table "set_iterator.__iter__" =some Builtin.«dict_keyiterator.__iter__»:=
 entryFor_alias (id':= "dict_keyiterator.__iter__") (by kernel_rfl) (by first | rfl | decide+kernel | (unfold String.splitOn; simp+decide [String.splitOnAux])) (by decide+kernel)
  (by kernel_rfl)
theorem jCA (a:Value):argsOk "set_iterator.__next__" ⟨[a],[]⟩:=by unfold argsOk; kernel_rfl
theorem jF9 (a:Value):argsOk "set_iterator.__iter__" ⟨[a],[]⟩:=by unfold argsOk; kernel_rfl
theorem jE9 (a:Value):argsOk "set.__iter__" ⟨[a],[]⟩:=by unfold argsOk; kernel_rfl
abbrev byTxt (w:World):Bool:=w.params.followText "set-order"
abbrev IsSI (h:Heap)(I:Addr)(slot i:Nat)(a:Addr)(n ep:Nat):Prop:=
 h.get? I=some { cls:= .type "set_iterator",dict:=none,data:= .fields #[rawInt slot,rawInt i, .ref a,rawInt n,rawInt ep],slots:=#[]}
def qN (w:World)(t:SetTable)(i:Nat):Nat:=if byTxt w=true then 0 else jGD t.place i
noncomputable def told (w:World)(a:Addr)(ep:Nat)(es:Array (Int×Value)):List Value:=(if byTxt w=true then (pickOrder (w.params.setOrder a ep) es).toList else es.toList).map (·.2)
theorem jAK (w:World)(a:Addr)(ep:Nat)(es:Array (Int×Value)):(told w a ep es).length=es.size:=by
 unfold told
 rw[ag]
 split
 ·rw[(jEJ _ es).length_eq]; simp
 ·simp
theorem jII (w:World)(a:Addr)(ep:Nat)(es:Array (Int×Value)):(told w a ep es).Perm (es.toList.map (·.2)):=by
 unfold told
 split
 ·exact(jEJ _ es).map _
 ·exact .refl _
variable {o:Obj}{es:Array (Int×Value)}{ep:Nat}{t:SetTable}
theorem jJT {i:Nat}{Q:Option (Value×Nat)->Shared->Prop}(ho:s.heap.get? a=some o)(hd:o.data= .set es ep t)(T:Tab t es.size (ledW w))(hn:es.size<=4)(hi:i<=es.size)
  (h:Q ((told w a ep es)[i]?.map fun v=>(v,qN w t (i+1))) s):wpAny (model prog w) A (setNext a (qN w t i) i ep) Q E s:=by
 unfold setNext
 refine ac (cj ho hd (T.fits hn) ?_)
 dsimp only
 unfold setsByText
 refine ac (ac (dE (af ?_)))
 show wpAny _ A (if byTxt w=true then _ else _) Q E s
 have hl:=jAK w a ep es
 by_cases hb:byTxt w=true
 ·rw[aB hb,av (by simp)]
  unfold setWalk
  refine ac (ac (cj ho hd (T.fits hn) ?_))
  dsimp only
  unfold setsByText
  refine ac (ac (dE (af ?_)))
  show wpAny _ A (if byTxt w=true then _ else _) _ E s
  rw[aB hb]
  refine ac (dE (af (af ?_)))
  have e:(told w a ep es)[i]?.map (fun v=>(v,qN w t (i+1)))=(pickOrder (w.params.setOrder a ep) es)[i]?.map (fun e=>(e.snd,qN w t i)):=by
   unfold told qN
   rw[aB hb,aB hb,aB hb,aL,di,Option.map_map]
   rfl
  rw[e] at h
  exact h
 ·rw[av hb]
  have hb':byTxt w=false:=by simpa using hb
  have hld:t.led=true:=by rw[T.ld]; show (!byTxt w)=true; rw[hb']; rfl
  show wpAny _ A (if (!t.plain&&decide (es.size>1))=true then _ else _) Q E s
  rw[T.pl,g4,cN,av au]
  refine ac ?_
  show wpAny _ A (if (!t.led&&!es.isEmpty)=true then _ else pure ()) _ E s
  rw[hld,g4,cN,av au]
  refine af (af ?_)
  have eb:SetTable.below t.place (qN w t i)=i:=by
   unfold qN
   rw[av hb]
   exact jF8 T.ris (by rw[T.sz]; exact hi)
  rw[eb]
  have et:(told w a ep es)[i]?=es[i]?.map (·.2):=by
   unfold told
   rw[av hb,aL,di]
  rw[et] at h
  by_cases hlt:i<es.size
  ·have h1:es[i]?=some es[i]:=by simp [hlt]
   have hlt2:i<t.place.size:=by rw[T.sz]; exact hlt
   have h2:t.place[i]?=some t.place[i]:=by simp [hlt2]
   have h3:qN w t (i+1)=t.place[i]+1:=by
    unfold qN jGD
    rw[av hb]
    simp [Array.getD,hlt2]
   rw[h1,h3] at h
   rw[h1,h2]
   exact h
  ·have h1:es[i]?=none:=by simp; omega
   rw[h1] at h
   rw[h1]
   exact h
theorem jEF {i:Nat}{v:Value}{Q:Option Value->Shared->Prop}(ho:s.heap.get? a=some o)(hd:o.data= .set es ep t)(T:Tab t es.size (ledW w))(hn:es.size<=4)
  (hit:IsSI s.heap I (qN w t i) i a es.size ep) (hv:(told w a ep es)[i]?=some v)
  (hQ:∀ h',IsSI h' I (qN w t (i+1)) (i+1) a es.size ep->Heap.SameBut I s.heap h'->Q (some v) { s with heap:=h'}):wpAny (model prog w) A (pyNext (.ref I)) Q E s:=by
 have hT:s.TypeIs (.ref I) "set_iterator" :=⟨_,hit,rfl⟩
 have hi:i<es.size:=by
  rw[<- jAK w a ep es]
  exact(ay.mp hv).1
 unfold pyNext
 refine ac (cI (ba (name:=Str.ofString "__next__") hT slot_si_next (bf slot_si_next hT jBN ?_ (jCA _))))
 unfold Builtin.«set_iterator.__next__»
 refine ac (m:=slotArgs "__next__" 0 _) (af ?_)
 dsimp only
 unfold fieldsOf
 refine ac (ac (gu hit ?_))
 refine af ?_
 dsimp only [rawInt]
 unfold setEntries
 refine ac (ac (cj ho hd (T.fits hn) (af ?_)))
 rw[av (by simp)]
 simp only [bv]
 refine ac (jJT ho hd T hn (dD hi) ?_)
 rw[hv]
 dsimp only [Option.map]
 refine ac (bd hit (by simp) fun h1 hit1 sb1=>?_)
 refine ac (bd hit1 (by simp) fun h2 hit2 sb2=>?_)
 refine af ⟨v,rfl,af (hQ h2 ?_ (sb1.trans sb2))⟩
 show h2.get? I=_
 rw[hit2]
 simp [rawInt]
theorem jFC {Q:Option Value->Shared->Prop}(hh:A.handled=none)(ho:s.heap.get? a=some o)(hd:o.data= .set es ep t)(T:Tab t es.size (ledW w))(hn:es.size<=4)
  (hit:IsSI s.heap I (qN w t es.size) es.size a es.size ep)
  (hQ:∀ h',Heap.ExtBut I s.heap h'->Q none { s with heap:=h'}):wpAny (model prog w) A (pyNext (.ref I)) Q E s:=by
 have hT:s.TypeIs (.ref I) "set_iterator" :=⟨_,hit,rfl⟩
 unfold pyNext
 refine ac (cI (ba (name:=Str.ofString "__next__") hT slot_si_next (bf slot_si_next hT jBN ?_ (jCA _))))
 unfold Builtin.«set_iterator.__next__»
 refine ac (m:=slotArgs "__next__" 0 _) (af ?_)
 dsimp only
 unfold fieldsOf
 refine ac (ac (gu hit ?_))
 refine af ?_
 dsimp only [rawInt]
 unfold setEntries
 refine ac (ac (cj ho hd (T.fits hn) (af ?_)))
 rw[av (by simp)]
 simp only [bv]
 refine ac (jJT ho hd T hn (aq _) ?_)
 rw[bn (by rw[jAK]; exact aq _)]
 dsimp only [Option.map]
 refine ac (bd hit (by simp) fun h1 hit1 sb1=>?_)
 refine ac ?_
 simp only [newExc,newTuple]
 refine ac (aW ?_ (by size_fits))
 refine ac (m:=firstArgMember _ _) (gJ (a:=Value.none) (by first | rfl | (simp only [firstArgMember]; rfl)) ?_)
 refine aW ?_ (by size_fits)
 simp only [raiseNew]
 refine ac (wpAny_handled ?_)
 rw[show A.in1.handled=none from hh]
 refine ac (af (wpAny_throw ?_))
 refine ac (eN (T:= "StopIteration") (b:=true) ⟨_,ak _ rfl,rfl⟩ gO ?_)
 exact af (hQ _ ((sb1.extBut.push _).push _))
theorem jOH {i:Nat}{slot n:Nat}{Q:Value->Shared->Prop}(hit:IsSI s.heap I slot i a n ep)(h:Q (.ref I) s):wpAny (model prog w) A (pyIter (.ref I)) Q E s:=by
 have hT:s.TypeIs (.ref I) "set_iterator" :=⟨_,hit,rfl⟩
 refine wpAny_pyIter_slot hT jC3 (bf jC3 hT jE3 ?_ (jF9 _))
 show wpAny _ _ (ret (.ref I)) _ _ s
 exact af ⟨_,rfl,"set_iterator",_,hT,slot_si_next.lookup,h⟩
theorem jLH {Q:Value->Shared->Prop}(hx:o.ExactSet)(ho:s.heap.get? a=some o)(hd:o.data= .set es ep t)(T:Tab t es.size (ledW w))(hn:es.size<=4)
  (hQ:∀ h',h'.get? s.heap.objs.size=some { cls:= .type "set_iterator",dict:=none,data:= .fields #[rawInt (qN w t 0),rawInt 0, .ref a,rawInt es.size,rawInt ep],slots:=#[]} ->(∀ b u,s.heap.get? b=some u->h'.get? b=some u)->
   h'.objs.size=s.heap.objs.size+1->Q (.ref s.heap.objs.size) { s with heap:=h'}):wpAny (model prog w) A (pyIter (.ref a)) Q E s:=by
 have hT:s.TypeIs (.ref a) "set" :=⟨o,ho,hx.1⟩
 refine wpAny_pyIter_slot hT gF (bf gF hT jDA ?_ (jE9 _))
 unfold Builtin.«frozenset.__iter__»
 refine ac (show wpAny _ _ (pure a:Sem Addr) _ _ s from af ?_)
 unfold Builtin.Frozenset.sizeOf setEntries
 refine ac (ac (ac (cj ho hd (T.fits hn) (af (af ?_)))))
 dsimp only
 unfold setDrawn
 refine ac (ac (cj ho hd (T.fits hn) ?_))
 dsimp only
 unfold setsByText
 refine ac (ac (dE (af (af ?_))))
 show wpAny _ _ (if (!byTxt w&&(!t.plain&&decide (es.size>1)))=true then _ else _) _ _ s
 rw[T.pl,g4,cN,fJ,av au]
 refine ac (af ?_)
 refine ac (wpAny_setEpoch_of ho hd (T.fits hn) ?_)
 refine ac (aW (af ⟨_,rfl,"set_iterator",_,⟨_,ak _ rfl,rfl⟩,slot_si_next.lookup,hQ _ ?_ (fun b u e=>ae _ e) (br _ _)⟩) (by size_fits))
 have e0:qN w t 0=0:=by unfold qN jGD; split <;> rfl
 rw[e0]
 exact ak _ rfl
theorem jIE (hh:A.handled=none)(hne:a≠I)(hd:o.data= .set es ep t)(T:Tab t es.size (ledW w))(hn:es.size<=4):
  Walks prog w A I [I,a] [I] es.size (fun i v=>(told w a ep es)[i]?=some v) (fun i h=>IsSI h I (qN w t i) i a es.size ep/\h.get? a=some o) where
 sub:=fun b hb=>by simp at hb; simp [hb]
 frame:=fun _ _ _ st hk=>⟨hk I (by simp) _ st.1,hk a (by simp) _ st.2⟩
 item:=fun i s Q E hi st hQ=>by
  obtain⟨v,hv⟩:∃ v,(told w a ep es)[i]?=some v:=⟨_,az (by rw[jAK]; exact hi)⟩
  exact jEF st.2 hd T hn st.1 hv fun h' hit' sb=>hQ v h' s.toks hv ⟨hit',(sb.2 a hne).trans st.2⟩ fun b o hb e=>(sb.2 b (fun z=>hb (by simp [z]))).trans e
 done:=fun s Q E st hQ=>jFC hh st.2 hd T hn st.1 fun h' eb=>hQ h' s.toks fun b o hb e=>eb b o (fun z=>hb (by simp [z])) e
 self:=fun _ _ _ _ st hQ=>jOH st.1 hQ
theorem jEE:typeLookup (.type "set") "__len__" =pure (some (.builtin "set.__len__")):=by rw[gC,eJ]; kernel_rfl
theorem jML {Q:Bool->Shared->Prop}(hT:s.TypeIs (.ref a) "set")(h:Q false s):wpAny (model prog w) A (Builtin.List.listLengthHint (.ref a)) Q E s:=by
 unfold Builtin.List.listLengthHint
 refine ac (gE hT jEE ?_)
 generalize hid:("set.__len__" :String)=id0
 wp_delta
 rw[show splitId id0=some ("set","__len__") from by subst hid; decide+kernel]
 subst hid
 refine ac (eN (b:=true) hT (by rw[gM]; kernel_rfl) ?_)
 refine wpAny_ite_split (fun q=>absurd q (by decide)) (fun _=>?_)
 refine wpAny_ite_split (fun _=>?_) (fun q=>absurd (by decide+kernel) q)
 exact ac (cU hT (af h))
theorem jFW {Q:List Value->Shared->Prop}(hh:A.handled=none)(hx:o.ExactSet)(ho:s.heap.get? a=some o)(hd:o.data= .set es ep t)(T:Tab t es.size (ledW w))(hn:es.size<=4)
  (hQ:∀ s',(∀ b u,s.heap.get? b=some u->s'.heap.get? b=some u)->s'.gens=s.gens->s'.drawn=s.drawn->s'.os=s.os->s.heap.objs.size<s'.heap.objs.size->Q (told w a ep es) s'):wpAny (model prog w) A (collect (.ref a)) Q E s:=by
 have ha:a<s.heap.objs.size:=ao ho
 have hSa:s.heap.objs.size≠a:=b8 ha
 unfold collect
 refine ac (gK (bI PySem.F.entry_proto_collect ?_))
 rw[bL PySem.F.plain_proto_collect _]
 show wpAny _ A.in1 (newList [] >>= fun l=>again (.builtin "list.__iadd__" ⟨[l, .ref a],[]⟩)) _ _ s
 refine ac (aW (af ⟨dM gk _,bI PySem.F.entry_list_iadd ?_⟩))
 rw[bL gk _]
 generalize hE:({ s with heap:=s.heap.push { cls:= .type "list",dict:=none,data:= .seq ([]:List Value).toArray}} :Shared)=s1
 have ho1:s1.heap.get? a=some o:=by rw[<- hE]; exact ae _ ho
 have hL1:s1.heap.get? s.heap.objs.size=some { cls:= .type "list",dict:=none,data:= .seq ([]:List Value).toArray} :=by rw[<- hE]; exact ak _ rfl
 have hz1:s1.heap.objs.size=s.heap.objs.size+1:=by rw[<- hE]; exact br _ _
 have hT1:s1.TypeIs (.ref a) "set" :=⟨o,ho1,hx.1⟩
 show wpAny _ A.in1 (Builtin.List.listExtendWith (.ref s.heap.objs.size) (.ref a) (.ref s.heap.objs.size)) _ _ _
 unfold Builtin.List.listExtendWith
 refine ac (cU hT1 ?_)
 have q1:Builtin.List.listSameRef (.ref s.heap.objs.size) (.ref a)=false:=by simp [Builtin.List.listSameRef,hSa]
 rw[av (by rw[q1]; decide)]
 refine ac (jLH hx ho1 hd T hn fun h2 hI2 k2 z2=>?_)
 refine ac (aO ?_)
 have ho2:h2.get? a=some o:=k2 _ _ ho1
 have hT2:Shared.TypeIs { s1 with heap:=h2} (.ref a) "set" :=⟨o,ho2,hx.1⟩
 have hL2:=k2 _ _ hL1
 refine jML hT2 ?_
 rw[aB (by decide+kernel)]
 refine ac (dz ?_)
 have hne:s.heap.objs.size≠s1.heap.objs.size:=by omega
 refine ac ?_
 show wpAny _ A.in1 (updateSeq s.heap.objs.size (·.push .none) >>= fun _=>updateSeq s.heap.objs.size (·.pop)) _ _ _
 refine ac (wpAny_updateSeq hL2 rfl ?_)
 have hL3:=bE (Obj.mapSeq (·.push Value.none)) hL2 rfl
 refine wpAny_updateSeq hL3 rfl ?_
 have hL4:=bE (Obj.mapSeq (·.pop)) hL3 rfl
 have oth:∀ b u,b≠s.heap.objs.size->h2.get? b=some u->((h2.update s.heap.objs.size (Obj.mapSeq (·.push Value.none))).update s.heap.objs.size (Obj.mapSeq (·.pop))).get? b=some u:=
  fun b u hb e=>(bw _ _ (bo hb)).trans ((bw _ _ (bo hb)).trans e)
 have W:=(jIE (prog:=prog) (A:=A.in1) (a:=a) (I:=s1.heap.objs.size) hh (aF (show a<s1.heap.objs.size by rw[hz1]; exact cB ha)) hd T hn).toS
 have z24:es.size<=sizeLine:=by rw[show sizeLine=2 ^ 24 from rfl]; omega
 refine af ⟨dM PySem.F.plain_extend_loop _,codeAny_extend_loopS W z24 s.heap.objs.size (by simp [hne,hSa]) _ es.size 0 _ _ _ rfl (bi _) ⟨oth _ _ (bo hne) hI2,oth _ _ (bo hSa) ho2⟩ hL4 (ItemsOf.nil _) fun s' acc' c' hm hS' hacc=>?_⟩
 show wpAny _ A (load s.heap.objs.size >>= _) _ _ s'
 refine ac (gu hS' ?_)
 have eacc:acc'.toList=told w a ep es:=by
  apply eB
  intro i
  by_cases hi:i<es.size
  ·have hi':i<acc'.size:=by rw[hacc.1]; exact hi
   have:=hacc.2 i acc'[i] (by simp [hi'])
   rw[this]
   simp [hi']
  ·rw[bn (by rw[bp,hacc.1]; omega),bn (by rw[jAK]; omega)]
 refine af ?_
 rw[eacc]
 refine hQ s' (fun b u e=>?_) ?_ ?_ ?_ (ao hS')
 ·have hb:b≠s.heap.objs.size:=aF (ao e)
  have hb1:b≠s1.heap.objs.size:=aF (show b<s1.heap.objs.size by rw[hz1]; exact cB (ao e))
  exact hm.heap b u (by simp [hb,hb1]) (oth b u hb (k2 b u (by rw[<- hE]; exact ae _ e)))
 ·have:=hm.gens; rw[<- hE] at this; exact this
 ·have:=hm.drawn; rw[<- hE] at this; exact this
 ·have:=hm.os; rw[<- hE] at this; exact this
end SS
namespace SS
open PySem PyProof.Rows
section
variable {prog:Program}{w:World}{A:Around}{E:Value->Shared->Prop}{s:Shared}{a:Addr}{ks:List Int}
theorem jKF:∀ {vs:List Value}{ks:List Int},Paired (fun v k=>∃ t,v=Value.int k t) vs ks->IntsAre vs ks
 | _,_, .nil=> .nil
 | _,_, .cons ⟨t,e⟩ r=>by subst e; exact .cons _ t (jKF r)
theorem jDH {es:List (Int×Value)} :∀ {ks:List Int},Paired El es ks->Paired (fun v k=>∃ t,v=Value.int k t) (es.map (·.2)) ks
 | _, .nil=> .nil
 | _, .cons ⟨_,q⟩ r=> .cons q (jDH r)
theorem jFH {α β:Type}{F:α->β->Prop}{l l':List α}(p:l'.Perm l):∀ {r:List β},Paired F l r->∃ r',Paired F l' r'/\r'.Perm r:=by
 induction p with
 | nil=>intro r h; cases h; exact⟨[], .nil, .nil⟩
 | cons x _ ih=>
  intro r h
  cases h with
  | cons f t=>
   obtain⟨r',h1,h2⟩:=ih t
   exact⟨_::r', .cons f h1,h2.cons _⟩
 | swap x y l=>
  intro r h
  cases h with
  | cons f t=>
   cases t with
   | cons g t=>exact⟨_, .cons g (.cons f t), .swap _ _ _⟩
 | trans _ _ ih1 ih2=>
  intro r h
  obtain⟨r1,h1,h2⟩:=ih2 h
  obtain⟨r2,h3,h4⟩:=ih1 h1
  exact⟨r2,h3,h4.trans h2⟩
theorem sorted_set {Q:Value->Shared->Prop}(hh:A.handled=none)(S:SetG w s.heap a ks)
  (h:∀ (s':Shared) (l:Addr) (vs:List Value) (ns:List Int) (e:Nat),s.heap.objs.size<=l->(∀ b u,s.heap.get? b=some u->s'.heap.get? b=some u)->s'.gens=s.gens->s'.drawn=s.drawn->s'.os=s.os->
   s'.heap.get? l=some { cls:= .type "list",data:= .seq vs.toArray e} ->IntsAre vs ns->ns.Perm ks->ns.Pairwise (· <= ·)->Q (.ref l) s'):
  wpAny (model prog w) A (call (.builtin "sorted") [.ref a]) Q E s:=by
 obtain⟨o,es,ep,t,ho,hex,hd,hp,T⟩:=S.ex
 have hn:es.size<=4:=by
  have:=gb hp
  rw[bp] at this
  have:=S.len
  omega
 refine fV kind_sorted plain_sorted entry_sorted (args_sorted1 _) ?_
 unfold Builtin.«sorted»
 refine ac (m:=checkCount "sorted" 1 1 _) (af ?_)
 refine ac (jFW (A:=A.in1) hh hex ho hd T hn fun s1 k1 g1 d1 o1 z1=>?_)
 refine ac (wpAny_newList ?_ (by rw[jAK,show sizeLine=2 ^ 24 from rfl]; omega))
 obtain⟨ks1,hp1,pm1⟩:=jFH (jII w a ep es) (jDH hp)
 have hI:=jKF hp1
 have hl:(told w a ep es).length<64:=by rw[jAK]; omega
 have hL:(s1.heap.push (seqObj "list" (told w a ep es).toArray 0)).get? s1.heap.objs.size=some (seqObj "list" (told w a ep es).toArray 0):=ak _ rfl
 show wpAny _ _ _ _ _ { s1 with heap:=s1.heap.push (seqObj "list" (told w a ep es).toArray 0)}
 refine ac (aO (bf slot_list_sort ⟨_,hL,rfl⟩ entry_list_sort (list_sort_tree hL hI hl fun out ns' a1 a2 a3=>⟨_,rfl,?_⟩) (args_list_sort _)))
 obtain⟨e,he⟩:=sortedHeap_at (out:=out) hL
 have kept:∀ b u,s.heap.get? b=some u->(sortedHeap (s1.heap.push (seqObj "list" (told w a ep es).toArray 0)) s1.heap.objs.size (told w a ep es) out).get? b=some u:=fun b u q=>by
  have q1:=k1 b u q
  have hb:b<s1.heap.objs.size:=ao q1
  rw[sortedHeap_old (aF hb) (by rw[size_push']; exact cB hb)]
  exact ae _ q1
 generalize sortedHeap (s1.heap.push (seqObj "list" (told w a ep es).toArray 0)) s1.heap.objs.size (told w a ep es) out=hf at he kept ⊢
 exact af ⟨_,rfl,h { s1 with heap:=hf} s1.heap.objs.size out.toList ns' e (dD z1) kept g1 d1 o1 (by rw[dB]; exact he) a1 (a2.trans pm1) a3⟩
end
end SS
namespace L2
open PySem PySem.Spec PyProof.Rows
variable {es xs:List Expr}{env:Env}{a b:Expr}{pos:Pos}
section
variable {ys:List Expr}
theorem kZ {op:Operator} :starEach (.BinOp a op b pos::es) env=(false,eval (.BinOp a op b pos) env)::starEach es env:=rfl
theorem se_un {op:UnaryOp} :starEach (.UnaryOp op a pos::es) env=(false,eval (.UnaryOp op a pos) env)::starEach es env:=rfl
theorem jGE {ops:List CmpOp} :starEach (.Compare a ops xs pos::es) env=(false,eval (.Compare a ops xs pos) env)::starEach es env:=rfl
theorem jK {kw:List Keyword} :starEach (.Call a xs kw pos::es) env=(false,eval (.Call a xs kw pos) env)::starEach es env:=rfl
theorem kT:starEach (.Subscript a b pos::es) env=(false,eval (.Subscript a b pos) env)::starEach es env:=rfl
theorem jV {gs sc} :starEach (.ListComp a gs sc pos::es) env=(false,eval (.ListComp a gs sc pos) env)::starEach es env:=rfl
theorem jS {x1} :starEach (.Tuple xs x1 pos::es) env=(false,eval (.Tuple xs x1 pos) env)::starEach es env:=rfl
theorem jQP:starEach (.List xs pos::es) env=(false,eval (.List xs pos) env)::starEach es env:=rfl
theorem jB {c k} :starEach (.Constant c k pos::es) env=(false,eval (.Constant c k pos) env)::starEach es env:=rfl
theorem j6 {x:Str} :starEach (.Name x pos::es) env=(false,eval (.Name x pos) env)::starEach es env:=rfl
end
variable {X:Cx}
def CDivL (i j:Int):Prop:=0<j/\j<2 ^ 64
theorem jLX:OpR X (binaryOp .FloorDiv) (rI CDivL fun i j=> .int (i / j)):=opI fun i j _ _ _ _ _ hc q=>by
 have h1:(0:Int)<j:=hc.1
 have h2:j<2 ^ 64:=hc.2
 refine floordiv_int (by omega) (by rw[fu i (by omega)]; exact q) (.inl (PyProof.noPylong_of_log2 ?_))
 have h3:j.natAbs<2 ^ 64:=by omega
 have h4:j.natAbs≠0:=by omega
 have:=(Nat.log2_lt h4).mpr h3
 omega
theorem jX:yR X (.builtin "isinstance") (fun xs H Q=>∃ x T t b,xs=[x, .ty T]/\TyOf X.K H x t/\kitOne X.K t (.type T)=some b/\Q (.bl b) H):=by
 intro ad s σ H xs us Q I r h
 obtain⟨x,T,t,b,rfl,ty,e,q⟩:=h
 obtain⟨u,v,rfl,ru,rv⟩:=r.two
 cases rv
 exact jKE I ru ty e fun tk=>⟨.bl b,H,I.tok tk,rfl,q⟩
theorem jDK {x:V} :∀ {xs:List V}{us:List Value},Vals xs us->xs.all qQ=true->us.countP (eqU x)=xs.countP fun y=>eqV y x
 | _,_, .nil,_=>rfl
 | y::xs,u::us, .cons r t,f=>by
  rw[dL,aV] at f
  rw[List.countP_cons,List.countP_cons,jEW r f.1,jDK t f.2]
def rEqE (K:W.Frag):R2:=fun x y H Q=>∃ p q xs,x= .ref p/\y= .ref q/\SqT K H p xs/\SqT K H q []/\Q (.bl (decide (xs=[]))) H
theorem jRG (hu:X.A.units<cLine):OpR X (compareOp .Eq) (rEqE X.K):=by
 intro ad s σ H x y v u Q I rx ry h
 obtain⟨p,q,xs,rfl,rfl,hp,hq,k⟩:=h
 cases rx
 cases ry
 obtain⟨its,r,t1,_⟩:=I.tuple hp
 obtain⟨its2,r2,t2,_⟩:=I.tuple hq
 have e2:its2=[]:=r2.zero
 subst e2
 refine SeqAt.eq_tupleAt (e:=fun _=>true) (show s.heap.IsTuple p its.toArray from t1) (show s.heap.IsTuple q ([]:List Value).toArray from t2) hu (fun j h1 h2=>absurd h2 (by simp)) ⟨.bl _,H,I,rfl,?_⟩
 have hl:=r.length
 have e:((List.range (min its.toArray.size ([]:List Value).toArray.size)).all (fun _=>true)&&its.toArray.size==([]:List Value).toArray.size)=decide (xs=[]):=by
  cases xs with
  | nil=>
   have:its=[]:=by simpa using hl.symm
   subst this
   rfl
  | cons a b=>
   have:its.length≠0:=by rw[<- hl]; simp
   simp [this]
 rw[e]
 exact k
theorem jAV (hc:X.calm=true):yR X (.builtin "all") (fun xs H Q=>∃ (p:Addr) (bs:List Bool),xs=[.ref p]/\SqL X.K H p (bs.map V.bl)/\Q (.bl (bs.all id)) H):=by
 intro ad s σ H xs us Q I r h
 obtain⟨p,bs,rfl,hq,q⟩:=h
 obtain⟨u,rfl,rx⟩:=r.one
 cases rx
 obtain⟨its,r',pl,hz⟩:=I.list hq
 have hlen:=r'.length
 rw[ag] at hlen
 refine call_all_walk (cg pl.isList ?_)
 have hne:p≠s.heap.objs.size:=by
  obtain⟨o,ho,_⟩:=pl.isList
  exact aF (ao ho)
 refine⟨s.heap.objs.size,_,_,_,_,_,fun i=>bs.getD i true,rfl,hG (by simpa using I.ok.hd hc) _ p hne its.toArray,⟨⟨_,ak _ rfl,rfl,rfl⟩,pl.isList.push _⟩,fun i v z Q' E' hP hQ'=>?_,fun h' tk hk=>?_⟩
 ·have hi:its[i]?=some v:=by simpa using hP
  have hb:i<bs.length:=by
   rw[hlen]
   exact(ay.mp hi).1
  obtain⟨u,hu,ru⟩:=r'.get (i:=i) (x:= .bl (bs[i])) (by simp [hb])
  rw[hi] at hu
  cases hu
  cases ru
  have e:bs.getD i true=bs[i]:=by simp [List.getD,hb]
  have hQ2:Q' (bs.getD i true) z:=hQ'
  rw[e] at hQ2
  exact af hQ2
 ·have e:(List.range its.toArray.size).all (fun i=>bs.getD i true)=bs.all id:=by
   rw[aA,<- hlen]
   rw[ck,aQ,aQ]
   constructor
   ·intro a b hb
    obtain⟨i,hi,rfl⟩:=cL hb
    have:=a i (bj.mpr hi)
    simpa [List.getD,hi] using this
   ·intro a i hi
    have hi:=bj.mp hi
    have:=a bs[i] (bK hi)
    simpa [List.getD,hi] using this
  rw[e]
  exact⟨.bl _,H,I.kept (t':=tk) fun b o e=>hk b o (by
   intro z
   have z:b=s.heap.objs.size:=by simpa using z
   exact absurd (ao e) (by rw[z]; exact bG _)) (ae _ e),rfl,q⟩
def qH (n:Nat):List V:=(List.range n).map fun (i:Nat)=>V.int (i:Int)
theorem jHG {n:Nat}{acc:Array Value}(h:ItemsOf (fun i v=>∃ t,v=Value.int (0+(i:Int)*1) t) acc n):Vals (qH n) acc.toList:=by
 have key:∀ (l:List Value) (k:Nat),(∀ j v,l[j]?=some v->∃ t,v=Value.int ((k+j:Nat):Int) t)->Vals ((List.range' k l.length).map fun (i:Nat)=>V.int (i:Int)) l:=by
  intro l
  induction l with
  | nil=>intro k _; exact .nil
  | cons v l ih=>
   intro k hk
   rw[bB,List.range'_succ,be]
   refine .cons ?_ (ih (k+1) fun j u hj=>?_)
   ·obtain⟨t,e⟩:=hk 0 v rfl
    exact⟨t,by simpa using e⟩
   ·obtain⟨t,e⟩:=hk (j+1) u (by simpa using hj)
    exact⟨t,by rw[e]; congr 1; omega⟩
 have:=key acc.toList 0 fun j v hj=>by
  obtain⟨t,e⟩:=h.2 j v (by simpa using hj)
  exact⟨t,by rw[e]; congr 1; omega⟩
 rw[bp,h.1] at this
 unfold qH
 rw[List.range_eq_range']
 exact this
theorem jD7:yR X (.type "range") (fun xs H Q=>∃ j:Int,xs=[.int j]/\∀ p,H p=none->Q (.ref p) (upd H p (.rng 0 j))):=by
 intro ad s σ H xs us Q I r h
 obtain⟨j,rfl,q⟩:=h
 obtain⟨u,rfl,t,rfl⟩:=r.one
 refine call_range_1 ⟨.ref s.heap.objs.size,_,I.laid (o:= .rng 0 j) (fun b o e=>ae _ e) (aq _) ?_,rfl,q _ I.fresh⟩
 exact⟨_,_,_,ak _ rfl⟩
theorem jC8 (hc:X.calm=true):yR X (.type "list") (fun xs H Q=>∃ p j,xs=[.ref p]/\H p=some (.rng 0 j)/\0<=j/\j<=1000/\∀ l,H l=none->Q (.ref l) (upd H l (.lst (qH j.toNat)))):=by
 intro ad s σ H xs us Q I r h
 obtain⟨p,j,rfl,hp,h0,h1,q⟩:=h
 obtain⟨u,rfl,rx⟩:=r.one
 cases rx
 obtain⟨t,u,v,e⟩:=I.hok p _ hp
 have en:Builtin.Range.rangeSize 0 j 1=(j.toNat:Int):=by
  rw[rangeSize_one]
  split <;> omega
 refine call_list_range (I.ok.hd hc) (show IsRange s.heap p 0 j 1 t u v from e) (small_one (by omega) (by omega) (by omega) (by omega)) en (by omega) fun h' tk acc' c' kp hS hacc=>?_
 refine⟨.ref s.heap.objs.size,_,I.laid (t':=tk) (o:= .lst (qH j.toNat)) kp (aq _) ?_,rfl,q _ I.fresh⟩
 refine⟨?_,acc'.toList,c',jHG hacc,by rw[dB]; exact hS⟩
 unfold qH
 rw[ag,cC,cA]
 omega
def SetO (w:World)(a:Addr)(ks:List Int):HO:= .ext fun h=>SS.SetG w h a ks
theorem jAP {ns:List Int} :∀ {us:List Value},Vals (ns.map V.int) us->IntsAre us ns:=by
 induction ns with
 | nil=>intro us h; cases h; exact .nil
 | cons n ns ih=>
  intro us h
  cases h with
  | cons r t=>
   obtain⟨k,rfl⟩:=r
   exact .cons n k (ih t)
theorem jAA:∀ {us:List Value}{ns:List Int},IntsAre us ns->Vals (ns.map V.int) us
 | _,_, .nil=> .nil
 | _,_, .cons n t r=> .cons ⟨t,rfl⟩ (jAA r)
theorem jKW (hc:X.calm=true):yR X (.type "set") (fun xs H Q=>∃ (p:Addr) (ns:List Int),xs=[.ref p]/\SqL X.K H p (ns.map V.int)/\ns.length<=4/\(∀ z∈ns,0<=z/\z<32)/\
  ∀ (l:Addr) (ks:List Int),H l=none->(∀ z,z∈ks↔z∈ns)->Q (.ref l) (upd H l (SetO X.w l ks))):=by
 intro ad s σ H xs us Q I r h
 obtain⟨p,ns,rfl,hq,hl,hv,q⟩:=h
 obtain⟨u,rfl,rx⟩:=r.one
 cases rx
 obtain⟨its,r',pl,hz⟩:=I.list hq
 have hlen:=r'.length
 rw[ag] at hlen
 refine SS.set_of_list (I.ok.hd hc) pl.isList (jAP r') (by rw[aA]; omega) hv fun h' tk ks S hm kp=>?_
 have hg:∃ o,h'.get? s.heap.objs.size=some o:=let ⟨o,_,_,_,e,_⟩:=S.ex; ⟨o,e⟩
 exact⟨.ref s.heap.objs.size,_,I.laid (t':=tk) (o:=SetO X.w s.heap.objs.size ks) kp (aq _) ⟨S,hg,fun h1 h2 a b=>a.at b⟩,rfl,q _ ks I.fresh hm⟩
theorem jDB (hc:X.calm=true):yR X (.builtin "sorted") (fun xs H Q=>∃ (p:Addr) (ks:List Int),xs=[.ref p]/\H p=some (SetO X.w p ks)/\
  ∀ (l:Addr) (ns:List Int),H l=none->ns.Pairwise (· < ·)->(∀ z,z∈ns↔z∈ks)->Q (.ref l) (upd H l (.lst (ns.map V.int)))):=by
 intro ad s σ H xs us Q I r h
 obtain⟨p,ks,rfl,hp,q⟩:=h
 obtain⟨u,rfl,rx⟩:=r.one
 cases rx
 obtain⟨S,_,_⟩:=I.hok p _ hp
 refine SS.sorted_set (I.ok.hd hc) S fun s' l vs ns e hl kp g d o he hi pm srt=>?_
 obtain⟨h',g',d',t',o'⟩:=s'
 have g:g'=s.gens:=g
 have o:o'=s.os:=o
 have d:d'=s.drawn:=d
 subst g; subst o; subst d
 have nd:ns.Nodup:=pm.nodup_iff.mpr S.nd
 have lt:ns.Pairwise (· < ·):=by
  have:=List.Pairwise.and srt nd
  exact this.imp fun {a b} ⟨x,y⟩=>by omega
 have hz:(ns.map V.int).length<=sizeLine:=by
  rw[ag,pm.length_eq,cA]
  have:=S.len
  omega
 have I2:Inv X ad σ (upd H l (.lst (ns.map V.int))) { s with heap:=h',toks:=t'} :=I.laid (t':=t') kp hl ⟨hz,vs,e,jAA hi,he⟩
 exact⟨.ref l,_,I2,rfl,q l ns (I.hok.fresh hl) lt fun z=>pm.mem_iff⟩
variable {p2:Pos}
section
variable {p1 p3 p4 p5 p6 p7:Pos}{k1 k2 k3 k4:Nat}
theorem jJE {i j r:Int}(hj:0<=j)(hj2:j<=1000000)(hi:i.natAbs<2 ^ 64)(e:i ^ j.toNat=r):PE X (.BinOp (.Constant (.int i) k2 p2) .Pow (.Constant (.int j) k3 p3) p4) (tC (.int r)):=fun ad s σ H Q I h=>
 (y9 (X:=X) jJF jY jY) ad s σ H Q I ⟨_,_,rfl,rfl,⟨hj,hj2,hi⟩,by subst e; exact h⟩
end
def ItAt (tp:Bool)(h:Heap)(it a:Addr)(i:Nat):Prop:=match tp with
 | false=>h.IsListIter it a i
 | true=>h.IsTupleIter it a i
def ObAt (tp:Bool)(h:Heap)(a:Addr)(xs:Array Value):Prop:=match tp with
 | false=>h.IsList a xs
 | true=>h.IsTuple a xs
theorem ItAt.but {tp:Bool}{h h':Heap}{it a b:Addr}{i:Nat}(x:ItAt tp h it a i)(e:Heap.ExtBut b h h')(n:it≠b):ItAt tp h' it a i:=by
 cases tp with
 | false=>exact Heap.IsListIter.extBut x e n
 | true=>exact Heap.IsTupleIter.extBut x e n
theorem ObAt.but {tp:Bool}{h h':Heap}{a b:Addr}{xs:Array Value}(x:ObAt tp h a xs)(e:Heap.ExtBut b h h')(n:a≠b):ObAt tp h' a xs:=by
 cases tp with
 | false=>exact Heap.IsList.extBut x e n
 | true=>exact Heap.IsTuple.extBut x e n
theorem ItAt.at {tp:Bool}{h h':Heap}{it a:Addr}{i:Nat}(x:ItAt tp h it a i)(e:∀ o,h.get? it=some o->h'.get? it=some o):ItAt tp h' it a i:=by
 cases tp with
 | false=>exact Heap.IsListIter.at x e
 | true=>exact Heap.IsTupleIter.at x e
theorem ItAt.obj {tp:Bool}{h:Heap}{it a:Addr}{i:Nat}(x:ItAt tp h it a i):∃ o,h.get? it=some o/\∀ v,o.data≠ .cell v:=by
 cases tp with
 | false=>obtain⟨o,e,_,d⟩:=x; exact⟨o,e,fun v q=>by rw[d] at q; cases q⟩
 | true=>obtain⟨o,e,_,d⟩:=x; exact⟨o,e,fun v q=>by rw[d] at q; cases q⟩
theorem ObAt.lt {tp:Bool}{h:Heap}{a:Addr}{xs:Array Value}(x:ObAt tp h a xs):a<h.objs.size:=by
 cases tp with
 | false=>obtain⟨o,e,_⟩:=x; exact ao e
 | true=>obtain⟨o,e,_⟩:=x; exact ao e
variable {w:World}{A:Around}{s:Shared}
section
variable {prog:Program}{E:Value->Shared->Prop}
theorem next1 {tp:Bool}{it a:Addr}{i:Nat}{xs:Array Value}{x:Value}{Q:Value->Shared->Prop}(hi:ItAt tp s.heap it a i)(ha:ObAt tp s.heap a xs)(hx:xs[i]?=some x)
  (k:∀ h',ItAt tp h' it a (i+1)->Heap.SameBut it s.heap h'->Q x { s with heap:=h'}):wpAny (model prog w) A (Builtin.SmallTypes.nextOf (.ref it)) Q E s:=by
 cases tp with
 | false=>exact wpAny_nextOf_list_item hi ha hx k
 | true=>
  obtain⟨o,e,c,d⟩:=id (show s.heap.IsTupleIter it a i from hi)
  obtain⟨u,eu,_,n,du⟩:=(show s.heap.IsTuple a xs from ha)
  have ty:=Heap.IsTupleIter.typeIs (show s.heap.IsTupleIter it a i from hi)
  unfold Builtin.SmallTypes.nextOf
  refine ac (ba (name:=Str.ofString "__next__") ty F.slot_tuple_iterator_next (bf F.slot_tuple_iterator_next ty F.entry_tuple_iterator_next (?_:wpAny (model prog w) _ (field (.ref it) 0 >>= _) _ _ s) (F.args_tuple_iterator_next_1 _)))
  refine ac (aR e d (x:= .ref a) rfl (?_:wpAny (model prog w) _ (if (Value.ref a==Value.none)=true then _ else _) _ _ s))
  rw[av (by exact au)]
  show wpAny (model prog w) _ (field (.ref it) 1 >>= _) _ _ s
  refine ac (aR e d (x:= .int i 0) rfl ?_)
  show wpAny (model prog w) _ (seqItems? (.ref a) >>= _) _ _ s
  refine ac (cw eu du ?_)
  simp only [bv,hx]
  refine ac (dC e d (by simp) (af ⟨x,rfl,af (k _ ⟨_,bE _ e (Obj.isFreed_of_fields (Obj.data_mapFields d _)),(Obj.cls_mapFields ..).trans c,?_⟩ (fk ..))⟩))
  rw[Obj.data_mapFields d]
  simp [rawInt]
theorem next0 {tp:Bool}{it a:Addr}{i:Nat}{xs:Array Value}{Q:Value->Shared->Prop}(hh:A.handled=none)(hi:ItAt tp s.heap it a i)(ha:ObAt tp s.heap a xs)(hx:xs[i]?=none)
  (k:∀ h' e,Heap.ExtBut it s.heap h'->(∃ o,h'.get? e=some o/\o.cls= .type "StopIteration")->E (.ref e) { s with heap:=h'}):wpAny (model prog w) A (Builtin.SmallTypes.nextOf (.ref it)) Q E s:=by
 cases tp with
 | false=>exact wpAny_nextOf_list_end hh hi ha hx k
 | true=>
  obtain⟨o,e,c,d⟩:=id (show s.heap.IsTupleIter it a i from hi)
  obtain⟨u,eu,_,n,du⟩:=(show s.heap.IsTuple a xs from ha)
  have ty:=Heap.IsTupleIter.typeIs (show s.heap.IsTupleIter it a i from hi)
  unfold Builtin.SmallTypes.nextOf
  refine ac (ba (name:=Str.ofString "__next__") ty F.slot_tuple_iterator_next (bf F.slot_tuple_iterator_next ty F.entry_tuple_iterator_next (?_:wpAny (model prog w) _ (field (.ref it) 0 >>= _) _ _ s) (F.args_tuple_iterator_next_1 _)))
  refine ac (aR e d (x:= .ref a) rfl (?_:wpAny (model prog w) _ (if (Value.ref a==Value.none)=true then _ else _) _ _ s))
  rw[av (by exact au)]
  show wpAny (model prog w) _ (field (.ref it) 1 >>= _) _ _ s
  refine ac (aR e d (x:= .int i 0) rfl ?_)
  show wpAny (model prog w) _ (seqItems? (.ref a) >>= _) _ _ s
  refine ac (cw eu du ?_)
  simp only [bv,hx]
  refine ac (dz (ac (dC e d (by simp) (?_:wpAny (model prog w) _ (newExc (.type "StopIteration") [] >>= _) _ _ _))))
  refine ac (by
   simp only [newExc,newTuple]
   refine ac (aW (ac (m:=firstArgMember _ _) (gJ (a:=Value.none) (by first | rfl | (simp only [firstArgMember]; rfl)) (aW ?_ (by size_fits)))) (by size_fits))
   simp only [raiseNew]
   refine ac (wpAny_handled ?_)
   first | rw[show A.in1.handled=none from hh] | rw[hh]
   exact ac (af (wpAny_throw (k _ _ (((fk ..).extBut.push _).push _) ⟨_,ak _ rfl,rfl⟩))))
theorem jIC {t1 t2:Bool}{z TI TO i1 i2 l1 l2:Addr}{k1 k2:Nat}{xs ys:Array Value}{x y a b:Value}{Q:Value->Shared->Prop}(D:ZipApart z TI TO i1 i2 l1 l2)
  (ez:IsZip s.heap z TI TO .none) (eI:IsPair s.heap TI (.ref i1) (.ref i2)) (eO:IsPair s.heap TO a b) (g1:ItAt t1 s.heap i1 l1 k1) (g2:ItAt t2 s.heap i2 l2 k2) (o1:ObAt t1 s.heap l1 xs) (o2:ObAt t2 s.heap l2 ys) (hx:xs[k1]?=some x) (hy:ys[k2]?=some y)
  (k:∀ h',IsZip h' z TI TO (rawInt s.heap.objs.size)->IsPair h' TO x y->ItAt t1 h' i1 l1 (k1+1)->ItAt t2 h' i2 l2 (k2+1)->IsPair h' s.heap.objs.size x y->h'.objs.size=s.heap.objs.size+1->
   (∀ c o,c≠z->c≠TO->c≠i1->c≠i2->s.heap.get? c=some o->h'.get? c=some o)->Q (.ref s.heap.objs.size) { s with heap:=h'}):
  wpAny (model prog w) A (Builtin.«zip.__next__» ⟨[.ref z],[]⟩) (fun fin s'=>∃ v,fin= .done (.ret v)/\Q v s') E s:=by
 show wpAny (model prog w) A (field (.ref z) 2 >>= _) _ _ _
 refine ac (aR ez rfl (x:= .bool false) rfl (?_:wpAny (model prog w) A (field (.ref z) 3 >>= _) _ _ _))
 refine ac (aR ez rfl (x:= .ref TI) rfl (ac (cw eI rfl (?_:wpAny (model prog w) A (Builtin.SmallTypes.ownedTupleIsFree (.ref z) >>= _) _ _ _))))
 refine ac (by
  unfold Builtin.SmallTypes.ownedTupleIsFree
  refine ac (aR ez rfl (x:= .none) rfl (af ?_))
  simp only [ig]
  refine ac (dz (ac (aR ez rfl (x:= .ref TO) rfl (ac (bd ez (by simp) fun p1 f1 q1=>?_)))))
  have f1:IsZip p1 z TI TO .ellipsis:=f1
  refine ac (by
   simp only [List.zipIdx_cons,List.zipIdx_nil,gA,List.forIn_nil]
   refine ac (ac (ge (?_:wpAny (model prog w) A (Builtin.SmallTypes.nextOf (.ref i1) >>= _) _ _ _)))
   refine ac (next1 (g1.but q1.extBut D.i1z) (o1.but q1.extBut D.l1z) hx fun p2 r2 q2=>af ?_)
   have eO2:IsPair p2 TO a b:=q2.extBut _ _ D.TOi1 (q1.extBut _ _ D.TOz eO)
   refine ac (cw eO2 rfl (ac (fb eO2 fun p3 eO3 q3=>ac (gQ (af ?_)))))
   have eO3:IsPair p3 TO x b:=eO3
   refine ac (ac (ge (?_:wpAny (model prog w) A (Builtin.SmallTypes.nextOf (.ref i2) >>= _) _ _ _)))
   refine ac (next1 (((g2.but q1.extBut D.i2z).but q2.extBut D.i12.symm).but q3.extBut D.TOi2.symm) (((o2.but q1.extBut D.l2z).but q2.extBut D.l2i1).but q3.extBut D.l2TO) hy fun p4 r4 q4=>af ?_)
   have eO4:IsPair p4 TO x b:=q4.extBut _ _ D.TOi2 eO3
   refine ac (cw eO4 rfl (ac (fb eO4 fun p5 eO5 q5=>ac (gQ (af (af ?_))))))
   have eO5:IsPair p5 TO x y:=eO5
   refine ac (cw eO5 rfl (ac (wpAny_newTuple ?_)))
   have sz:p5.objs.size=s.heap.objs.size:=by rw[q5.1,q4.1,q3.1,q2.1,q1.1]
   have ez5:IsZip p5 z TI TO .ellipsis:=q5.extBut _ _ D.TOz.symm (q4.extBut _ _ D.i2z.symm (q3.extBut _ _ D.TOz.symm (q2.extBut _ _ D.i1z.symm f1)))
   have kp5:∀ c o,c≠z->c≠TO->c≠i1->c≠i2->s.heap.get? c=some o->p5.get? c=some o:=fun c o n1 n2 n3 n4 e=>q5.extBut _ _ n2 (q4.extBut _ _ n4 (q3.extBut _ _ n2 (q2.extBut _ _ n3 (q1.extBut _ _ n1 e))))
   have r15:ItAt t1 p5 i1 l1 (k1+1):=((r2.but q3.extBut D.TOi1.symm).but q4.extBut D.i12).but q5.extBut D.TOi1.symm
   have r25:ItAt t2 p5 i2 l2 (k2+1):=r4.but q5.extBut D.TOi2.symm
   have zlt:z<p5.objs.size:=ao ez5
   show wpAny (model prog w) A (Builtin.SmallTypes.ownedTupleHandOut (.ref z) (.ref p5.objs.size) >>= _) _ _ _
   refine ac ?_
   unfold Builtin.SmallTypes.ownedTupleHandOut
   have f6:IsZip (p5.push { cls:= .type "tuple",data:= .seq #[x,y]}) z TI TO .ellipsis:=ae _ ez5
   refine ac (bd f6 (by simp) fun p7 f7 q7=>?_)
   have f7:IsZip p7 z TI TO (rawInt p5.objs.size):=f7
   refine bd f7 (by simp) fun p8 f8 q8=>?_
   have f8:IsZip p8 z TI TO (rawInt p5.objs.size):=f8
   have up:∀ c o,c≠z->p5.get? c=some o->p8.get? c=some o:=fun c o n1 e=>q8.extBut _ _ n1 (q7.extBut _ _ n1 (ae _ e))
   have eT:IsPair p8 p5.objs.size x y:=q8.extBut _ _ (b8 zlt) (q7.extBut _ _ (b8 zlt) (ak _ rfl))
   have sz8:p8.objs.size=p5.objs.size+1:=by rw[q8.1,q7.1,br]
   rw[sz] at f8 eT sz8
   refine af ⟨_,rfl,(?_:Q (.ref p5.objs.size) _)⟩
   rw[sz]
   exact k p8 f8 (up _ _ D.TOz eO5) (r15.at fun o e=>up _ o D.i1z e) (r25.at fun o e=>up _ o D.i2z e) eT sz8 fun c o n1 n2 n3 n4 e=>up c o n1 (kp5 c o n1 n2 n3 n4 e)))
theorem jL8 {t1 t2:Bool}{z TI TO i1 i2 l1 l2:Addr}{k1 k2:Nat}{xs ys:Array Value}{a b:Value}{Q:Fin->Shared->Prop}(hh:A.handled=none)(D:ZipApart z TI TO i1 i2 l1 l2)
  (ez:IsZip s.heap z TI TO .none) (eI:IsPair s.heap TI (.ref i1) (.ref i2)) (eO:IsPair s.heap TO a b) (g1:ItAt t1 s.heap i1 l1 k1) (g2:ItAt t2 s.heap i2 l2 k2) (o1:ObAt t1 s.heap l1 xs) (o2:ObAt t2 s.heap l2 ys) (hend:xs[k1]?=none\/ys[k2]?=none)
  (k:∀ h' e,(∀ c o,c≠z->c≠TO->c≠i1->c≠i2->s.heap.get? c=some o->h'.get? c=some o)->(∃ o,h'.get? e=some o/\o.cls= .type "StopIteration")->E (.ref e) { s with heap:=h'}):
  wpAny (model prog w) A (Builtin.«zip.__next__» ⟨[.ref z],[]⟩) Q E s:=by
 show wpAny (model prog w) A (field (.ref z) 2 >>= _) _ _ _
 refine ac (aR ez rfl (x:= .bool false) rfl (?_:wpAny (model prog w) A (field (.ref z) 3 >>= _) _ _ _))
 refine ac (aR ez rfl (x:= .ref TI) rfl (ac (cw eI rfl (?_:wpAny (model prog w) A (Builtin.SmallTypes.ownedTupleIsFree (.ref z) >>= _) _ _ _))))
 refine ac (by
  unfold Builtin.SmallTypes.ownedTupleIsFree
  refine ac (aR ez rfl (x:= .none) rfl (af ?_))
  simp only [ig]
  refine ac (dz (ac (aR ez rfl (x:= .ref TO) rfl (ac (bd ez (by simp) fun p1 f1 q1=>?_)))))
  have f1:IsZip p1 z TI TO .ellipsis:=f1
  refine ac (by
   simp only [List.zipIdx_cons,List.zipIdx_nil,gA,List.forIn_nil]
   refine ac (ac (ge (?_:wpAny (model prog w) A (Builtin.SmallTypes.nextOf (.ref i1) >>= _) _ _ _)))
   cases hx:xs[k1]? with
   | none=>
    refine ac (next0 hh (g1.but q1.extBut D.i1z) (o1.but q1.extBut D.l1z) hx fun p2 e q2 ⟨u,eu,cu⟩=>?_)
    have f2:IsZip p2 z TI TO .ellipsis:=q2 _ _ D.i1z.symm f1
    have nz:e≠z:=fun v=>by subst v; rw[f2] at eu; cases eu; simp at cu
    exact bd f2 (by simp) fun p3 _ q3=>k p3 e (fun c o n1 _ n3 _ v=>q3.extBut _ _ n1 (q2 _ _ n3 (q1.extBut _ _ n1 v))) ⟨u,q3.extBut _ _ nz eu,cu⟩
   | some x=>
    have hy:ys[k2]?=none:=by
     rcases hend with v | v
     ·rw[hx] at v; cases v
     ·exact v
    refine ac (next1 (g1.but q1.extBut D.i1z) (o1.but q1.extBut D.l1z) hx fun p2 r2 q2=>af ?_)
    have eO2:IsPair p2 TO a b:=q2.extBut _ _ D.TOi1 (q1.extBut _ _ D.TOz eO)
    refine ac (cw eO2 rfl (ac (fb eO2 fun p3 eO3 q3=>ac (gQ (af ?_)))))
    refine ac (ac (ge (?_:wpAny (model prog w) A (Builtin.SmallTypes.nextOf (.ref i2) >>= _) _ _ _)))
    refine ac (next0 hh (((g2.but q1.extBut D.i2z).but q2.extBut D.i12.symm).but q3.extBut D.TOi2.symm) (((o2.but q1.extBut D.l2z).but q2.extBut D.l2i1).but q3.extBut D.l2TO) hy fun p4 e q4 ⟨u,eu,cu⟩=>?_)
    have f4:IsZip p4 z TI TO .ellipsis:=q4 _ _ D.i2z.symm (q3.extBut _ _ D.TOz.symm (q2.extBut _ _ D.i1z.symm f1))
    have nz:e≠z:=fun v=>by subst v; rw[f4] at eu; cases eu; simp at cu
    exact bd f4 (by simp) fun p5 _ q5=>k p5 e (fun c o n1 n2 n3 n4 v=>q5.extBut _ _ n1 (q4 _ _ n4 (q3.extBut _ _ n2 (q2.extBut _ _ n3 (q1.extBut _ _ n1 v))))) ⟨u,q5.extBut _ _ nz eu,cu⟩))
theorem jFD {t1 t2:Bool}{z TI TO i1 i2 l1 l2:Addr}{k1 k2:Nat}{xs ys:Array Value}{x y a b:Value}{Q:Option Value->Shared->Prop}(D:ZipApart z TI TO i1 i2 l1 l2)
  (ez:IsZip s.heap z TI TO .none) (eI:IsPair s.heap TI (.ref i1) (.ref i2)) (eO:IsPair s.heap TO a b) (g1:ItAt t1 s.heap i1 l1 k1) (g2:ItAt t2 s.heap i2 l2 k2) (o1:ObAt t1 s.heap l1 xs) (o2:ObAt t2 s.heap l2 ys) (hx:xs[k1]?=some x) (hy:ys[k2]?=some y)
  (k:∀ h',IsZip h' z TI TO (rawInt s.heap.objs.size)->IsPair h' TO x y->ItAt t1 h' i1 l1 (k1+1)->ItAt t2 h' i2 l2 (k2+1)->IsPair h' s.heap.objs.size x y->h'.objs.size=s.heap.objs.size+1->
   (∀ c o,c≠z->c≠TO->c≠i1->c≠i2->s.heap.get? c=some o->h'.get? c=some o)->Q (some (.ref s.heap.objs.size)) { s with heap:=h'}):
  wpAny (model prog w) A (pyNext (.ref z)) Q E s:=by
 have ty:s.TypeIs (.ref z) "zip" :=⟨_,ez,rfl⟩
 unfold pyNext
 exact ac (cI (ba (name:=Str.ofString "__next__") ty F.slot_zip_next (bf F.slot_zip_next ty F.entry_zip_next (jIC D ez eI eO g1 g2 o1 o2 hx hy fun h' b1 b2 b3 b4 b5 b6 b7=>af (k h' b1 b2 b3 b4 b5 b6 b7)) (F.args_zip_next_1 _))))
theorem jFE {t1 t2:Bool}{z TI TO i1 i2 l1 l2:Addr}{k1 k2:Nat}{xs ys:Array Value}{a b:Value}{Q:Option Value->Shared->Prop}(hh:A.handled=none)(D:ZipApart z TI TO i1 i2 l1 l2)
  (ez:IsZip s.heap z TI TO .none) (eI:IsPair s.heap TI (.ref i1) (.ref i2)) (eO:IsPair s.heap TO a b) (g1:ItAt t1 s.heap i1 l1 k1) (g2:ItAt t2 s.heap i2 l2 k2) (o1:ObAt t1 s.heap l1 xs) (o2:ObAt t2 s.heap l2 ys) (hend:xs[k1]?=none\/ys[k2]?=none)
  (k:∀ h',(∀ c o,c≠z->c≠TO->c≠i1->c≠i2->s.heap.get? c=some o->h'.get? c=some o)->Q none { s with heap:=h'}):wpAny (model prog w) A (pyNext (.ref z)) Q E s:=by
 have ty:s.TypeIs (.ref z) "zip" :=⟨_,ez,rfl⟩
 unfold pyNext
 refine ac (cI (ba (name:=Str.ofString "__next__") ty F.slot_zip_next (bf F.slot_zip_next ty F.entry_zip_next (jL8 hh D ez eI eO g1 g2 o1 o2 hend fun h' e kp ⟨u,eu,cu⟩=>?_) (F.args_zip_next_1 _))))
 exact ac (eN (T:= "StopIteration") (b:=true) ⟨u,eu,cu⟩ gO (af (k _ kp)))
end
def qV (tp:Bool)(a:Addr):Obj:=match tp with
 | false=> { cls:= .type "list_iterator",data:= .fields #[.ref a, .int 0 0]}
 | true=> { cls:= .type "tuple_iterator",data:= .fields #[.ref a, .int 0 0]}
theorem jBX (tp:Bool)(a:Addr):(qV tp a).isFreed=false:=by cases tp <;> rfl
theorem ObAt.push {tp:Bool}{h:Heap}{a:Addr}{xs:Array Value}(x:ObAt tp h a xs)(o:Obj):ObAt tp (h.push o) a xs:=by
 cases tp with
 | false=>exact Heap.IsList.push x o
 | true=>exact Heap.IsTuple.push x o
theorem jBS {prog:Program}{w:World}{A:Around}{E:Value->Shared->Prop}{s:Shared}{tp:Bool}{a:Addr}{xs:Array Value}{Q:Value->Shared->Prop}(h:ObAt tp s.heap a xs)(q:Q (.ref s.heap.objs.size) { s with heap:=s.heap.push (qV tp a)}):
  wpAny (model prog w) A (pyIter (.ref a)) Q E s:=by
 cases tp with
 | false=>exact cg h q
 | true=>exact wpAny_pyIter_tuple h q
def zp1 (t1:Bool)(h:Heap)(l1:Addr):Heap:=h.push (qV t1 l1)
def zp2 (t1 t2:Bool)(h:Heap)(l1 l2:Addr):Heap:=(zp1 t1 h l1).push (qV t2 l2)
def zp3 (t1 t2:Bool)(h:Heap)(l1 l2:Addr):Heap:=(zp2 t1 t2 h l1 l2).push { cls:= .type "tuple",data:= .seq #[.ref h.objs.size, .ref (zp1 t1 h l1).objs.size]}
def zp4 (t1 t2:Bool)(h:Heap)(l1 l2:Addr):Heap:=(zp3 t1 t2 h l1 l2).push { cls:= .type "tuple",data:= .seq #[.none, .none]}
def zp5 (t1 t2:Bool)(h:Heap)(l1 l2:Addr):Heap:=(zp4 t1 t2 h l1 l2).push { cls:= .type "zip",data:= .fields #[.none, .bool false, .bool false, .ref (zp2 t1 t2 h l1 l2).objs.size, .ref (zp3 t1 t2 h l1 l2).objs.size]}
theorem jHY (t1 t2:Bool)(l1 l2:Addr)(xs ys:Array Value):
  Meets (Builtin.«zip.__new__» ⟨[.type "zip", .ref l1, .ref l2],[]⟩) (fun _ R s=>ObAt t1 s.heap l1 xs/\ObAt t2 s.heap l2 ys/\R (.ok (.ret (.ref (zp4 t1 t2 s.heap l1 l2).objs.size))) { s with heap:=zp5 t1 t2 s.heap l1 l2}):=
 .of_wp fun prog w A R s h=>by
  obtain⟨hp,g,d,tk,os⟩:=s
  obtain⟨a1,a2,q⟩:=h
  have sub:=sub_zip
  have e1:ObAt t1 (Shared.heap ⟨hp,g,d,tk,os⟩) l1 xs:=a1
  have e2:ObAt t2 (Shared.heap ⟨hp.push (qV t1 l1),g,d,tk,os⟩) l2 ys:=ObAt.push a2 _
  wp_walk using jBS e1,jBS e2
  exact⟨_,rfl,q⟩
theorem ItAt.new (tp:Bool){h:Heap}{it a:Addr}(e:h.get? it=some (qV tp a)):ItAt tp h it a 0:=by
 cases tp with
 | false=>exact⟨_,e,rfl,rfl⟩
 | true=>exact⟨_,e,rfl,rfl⟩
theorem jKV {prog:Program}{w:World}{A:Around}{E:Value->Shared->Prop}{s:Shared}{t1 t2:Bool}{l1 l2:Addr}{xs ys:Array Value}{Q:Value->Shared->Prop}(a1:ObAt t1 s.heap l1 xs)(a2:ObAt t2 s.heap l2 ys)
  (k:∀ h',IsZip h' (s.heap.objs.size+4) (s.heap.objs.size+2) (s.heap.objs.size+3) .none->IsPair h' (s.heap.objs.size+2) (.ref s.heap.objs.size) (.ref (s.heap.objs.size+1))->
   IsPair h' (s.heap.objs.size+3) .none .none->ItAt t1 h' s.heap.objs.size l1 0->ItAt t2 h' (s.heap.objs.size+1) l2 0->(∀ c o,s.heap.get? c=some o->h'.get? c=some o)->Q (.ref (s.heap.objs.size+4)) { s with heap:=h'}):
  wpAny (model prog w) A (call (.type "zip") [.ref l1, .ref l2]) Q E s:=by
 refine callType_new F.called_zip (by decide) (F.typeCall_zip_2 _ _) (F.newCall_zip_2 _ _) (fun obj=>F.args_object_init_3 obj _ _) F.entry_zip_new (jHY t1 t2 l1 l2 xs ys) ⟨a1,a2,?_⟩
 have z1:(zp1 t1 s.heap l1).objs.size=s.heap.objs.size+1:=br ..
 have z2:(zp2 t1 t2 s.heap l1 l2).objs.size=s.heap.objs.size+2:=(br ..).trans (bO (· +1) z1)
 have z3:(zp3 t1 t2 s.heap l1 l2).objs.size=s.heap.objs.size+3:=(br ..).trans (bO (· +1) z2)
 have z4:(zp4 t1 t2 s.heap l1 l2).objs.size=s.heap.objs.size+4:=(br ..).trans (bO (· +1) z3)
 have y5:(zp5 t1 t2 s.heap l1 l2).get? (zp4 t1 t2 s.heap l1 l2).objs.size=some { cls:= .type "zip",data:= .fields #[.none, .bool false, .bool false, .ref (zp2 t1 t2 s.heap l1 l2).objs.size, .ref (zp3 t1 t2 s.heap l1 l2).objs.size]} :=ak _ rfl
 have y4:(zp5 t1 t2 s.heap l1 l2).get? (zp3 t1 t2 s.heap l1 l2).objs.size=some { cls:= .type "tuple",data:= .seq #[.none, .none]} :=ae _ (ak _ rfl)
 have y3:(zp5 t1 t2 s.heap l1 l2).get? (zp2 t1 t2 s.heap l1 l2).objs.size=some { cls:= .type "tuple",data:= .seq #[.ref s.heap.objs.size, .ref (zp1 t1 s.heap l1).objs.size]} :=ae _ (ae _ (ak _ rfl))
 have y2:(zp5 t1 t2 s.heap l1 l2).get? (zp1 t1 s.heap l1).objs.size=some (qV t2 l2):=ae _ (ae _ (ae _ (ak _ (jBX _ _))))
 have y1:(zp5 t1 t2 s.heap l1 l2).get? s.heap.objs.size=some (qV t1 l1):=ae _ (ae _ (ae _ (ae _ (ak _ (jBX _ _)))))
 have up:∀ c o,s.heap.get? c=some o->(zp5 t1 t2 s.heap l1 l2).get? c=some o:=fun c o e=>ae _ (ae _ (ae _ (ae _ (ae _ e))))
 rw[z2,z3,z4] at y5
 rw[z1,z2] at y3
 rw[z3] at y4
 rw[z1] at y2
 show _/\_
 rw[z4]
 exact⟨⟨_,y5,rfl⟩,k _ y5 y3 y4 (.new t1 y1) (.new t2 y2) up⟩
def Sq (tp:Bool)(K:W.Frag)(H:Hp)(a:Addr)(xs:List V):Prop:=match tp with
 | false=>SqL K H a xs
 | true=>SqT K H a xs
theorem Inv.sq {X:Cx}{ad:List (Addr×Obj)}{σ:St}{H:Hp}{s:Shared}{tp:Bool}{a:Addr}{xs:List V}(I:Inv X ad σ H s)(h:Sq tp X.K H a xs):∃ its:List Value,Vals xs its/\ObAt tp s.heap a its.toArray/\xs.length<=sizeLine:=by
 cases tp with
 | false=>
  obtain⟨its,r,p,z⟩:=I.list h
  exact⟨its,r,p.isList,z⟩
 | true=>exact I.tuple h
theorem Inv.sq_inj {X:Cx}{ad:List (Addr×Obj)}{σ:St}{H:Hp}{s:Shared}{tp:Bool}{a:Addr}{xs ys:List V}(I:Inv X ad σ H s)(h:Sq tp X.K H a xs)(h':Sq tp X.K H a ys):xs=ys:=by
 cases tp with
 | false=>exact I.list_inj h h'
 | true=>exact I.tuple_inj h h'
def Itz (t1 t2:Bool)(K:W.Frag)(l1 l2:Addr):It:=
 ⟨fun i H=>∃ xs ys x y,Sq t1 K H l1 xs/\Sq t2 K H l2 ys/\xs[i]?=some x/\ys[i]?=some y,
  fun i H v H'=>∃ T x y,H T=none/\v= .ref T/\H'=upd H T (.tup [x,y])/\∀ xs ys,Sq t1 K H l1 xs->Sq t2 K H l2 ys->xs[i]?=some x/\ys[i]?=some y,
  fun i H=>∃ xs ys,Sq t1 K H l1 xs/\Sq t2 K H l2 ys/\(xs.length<=i\/ys.length<=i)⟩
theorem jLC {P:Program}{w:World}{K:W.Frag}{elts:List Expr}{x1:Nat}{tp:Pos}(t1 t2:Bool)(l1 l2 z TI TO i1 i2:Addr)(D:ZipApart z TI TO i1 i2 l1 l2):
  Turn P w K (.Tuple elts x1 tp) (Itz t1 t2 K l1 l2) [z,TO,i1,i2,TI] z (fun i h=>IsZip h z TI TO .none/\IsPair h TI (.ref i1) (.ref i2)/\(∃ a b,IsPair h TO a b)/\ItAt t1 h i1 l1 i/\ItAt t2 h i2 l2 i) where
 mem:=by simp
 obj:=fun i h st b hb=>by
  obtain⟨hz,hTI,⟨a,c,hTO⟩,y1,y2⟩:=st
  simp only [am,ar,aX] at hb
  rcases hb with rfl | rfl | rfl | rfl | rfl
  ·exact⟨_,hz,fun v q=>by cases q⟩
  ·exact⟨_,hTO,fun v q=>by cases q⟩
  ·exact y1.obj
  ·exact y2.obj
  ·exact⟨_,hTI,fun v q=>by cases q⟩
 keep:=fun i h h' st k=>by
  obtain⟨hz,hTI,⟨a,c,hTO⟩,h1,h2⟩:=st
  exact⟨k z (by simp) _ hz,k TI (by simp) _ hTI,⟨a,c,k TO (by simp) _ hTO⟩,h1.at fun o e=>k i1 (by simp) o e,h2.at fun o e=>k i2 (by simp) o e⟩
 item:=by
  intro X hP hw hK hc i ad s σ H E I hf st hg
  subst hP hw hK
  obtain⟨xs,ys,x,y,hq1,hq2,hx,hy⟩:=hg
  obtain⟨hz,hTI,⟨a,c,hTO⟩,h1,h2⟩:=st
  obtain⟨its1,r1,p1,_⟩:=I.sq hq1
  obtain⟨its2,r2,p2,_⟩:=I.sq hq2
  obtain⟨u,hu,ru⟩:=r1.get hx
  obtain⟨v,hv,rv⟩:=r2.get hy
  refine jFD D hz hTI hTO h1 h2 p1 p2 (x:=u) (y:=v) (by simpa using hu) (by simpa using hv) fun h' a1 a2 a3 a4 a5 a6 a7=>?_
  refine⟨_,rfl,wpAny_letOwnedTupleGo_zip (s:= { s with heap:=h'}) a1 fun h'' b1 sb=>?_⟩
  have fresh:H s.heap.objs.size=none:=I.fresh
  have nch:∀ b∈([z,TO,i1,i2]:List Addr),FpOk X ad H b:=fun b hb=>hf b (by
   simp only [am,ar,aX] at hb ⊢
   rcases hb with q | q | q | q
   ·exact .inl q
   ·exact .inr (.inl q)
   ·exact .inr (.inr (.inl q))
   ·exact .inr (.inr (.inr (.inl q))))
  have ntr:∀ b o,H b=some o->b∉([z,TO,i1,i2]:List Addr):=fun b o e hb=>by
   have:=(nch b hb).1
   rw[e] at this; cases this
  have kp:∀ b o,b∉([z,TO,i1,i2]:List Addr)->s.heap.get? b=some o->h''.get? b=some o:=fun b o hb e=>by
   simp only [am,ar,aX,gL] at hb
   exact(sb.2 b hb.1).trans (a7 b o hb.1 hb.2.1 hb.2.2.1 hb.2.2.2 e)
  have nz:s.heap.objs.size≠z:=b8 (ao hz)
  have hT2:h''.get? s.heap.objs.size=some { cls:= .type "tuple",data:= .seq #[u,v]} :=(sb.2 _ nz).trans a5
  have I2:Inv X ad σ (upd H s.heap.objs.size (.tup [x,y])) { s with heap:=h''} :=by
   refine I.step (g':=s.gens) (d':=s.drawn) (t':=s.toks) (ch:=[z,TO,i1,i2]) (fun b hb=>?_) (fun b o _ _ hb e _=>kp b o hb e) (fun b o _ _ hb e _=>⟨o.slots,kp b o hb e⟩)
    (fun b o _ e n=>by rw[jD (aF (ao e))]; exact n) (fun b o hb e=>⟨o,kp b o hb e⟩) (fun b ws e=>by rw[jD (jF e fresh)]; exact e) (fun b o ws e=>by rw[jD (jF e fresh)]; exact e)
    (fun b ps e=>⟨#[],by rw[jD (jF e fresh),e]; simp⟩) (fun m hm=>?_) (fun b o e=>?_) I.bare
   ·obtain⟨f0,f1,f2,f3,f4,f5⟩:=nch b hb
    exact⟨f3,f1,f4,f5⟩
   ·obtain⟨o,es,ep,ho,r⟩:=hm
    exact⟨o,es,ep,kp _ o (fun hb=>(nch _ hb).2.1 rfl) ho,r⟩
   ·by_cases hb:b=s.heap.objs.size
    ·subst hb
     rw[jA] at e
     cases e
     exact⟨by rw[cA]; show 2<=_; decide,[u,v], .cons ru (.cons rv .nil),0,hT2⟩
    ·rw[jD hb] at e
     refine(I.hok b o e).stay (fun c w hc q=>kp c w ?_ q) (fun c q=>by rw[jD (jF q fresh)]; exact q) (fun c ws q=>by rw[jD (jF q fresh)]; exact q)
     rcases hc with rfl | hc
     ·exact ntr _ _ e
     ·exact ntr _ _ hc
  refine⟨.ref s.heap.objs.size,_,I2,rfl,⟨_,x,y,fresh,rfl,rfl,fun xs' ys' q1 q2=>⟨by rw[I.sq_inj q1 hq1]; exact hx,by rw[I.sq_inj q2 hq2]; exact hy⟩⟩,⟨b1,?_,⟨u,v,?_⟩,?_,?_⟩,fun b hb=>?_⟩
  ·exact kp TI _ (by simp [D.TIz,D.TITO,D.TIi1,D.TIi2]) hTI
  ·exact(sb.2 TO D.TOz).trans a2
  ·exact a3.at fun o e=>(sb.2 i1 D.i1z).trans e
  ·exact a4.at fun o e=>(sb.2 i2 D.i2z).trans e
  ·rw[jD (fun q=>by
    obtain⟨o,eo⟩:∃ o,s.heap.get? b=some o:=by
     simp only [am,ar,aX] at hb
     rcases hb with rfl | rfl | rfl | rfl | rfl
     ·exact⟨_,hz⟩
     ·exact⟨_,hTO⟩
     ·obtain⟨o,e,_⟩:=h1.obj; exact⟨o,e⟩
     ·obtain⟨o,e,_⟩:=h2.obj; exact⟨o,e⟩
     ·exact⟨_,hTI⟩
    exact absurd (ao eo) (by rw[q]; exact bG _))]
   exact(hf b hb).1
 done:=by
  intro X hP hw hK hc i ad s σ H E I hf st hg
  subst hP hw hK
  obtain⟨xs,ys,hq1,hq2,hend⟩:=hg
  obtain⟨hz,hTI,⟨a,c,hTO⟩,h1,h2⟩:=st
  obtain⟨its1,r1,p1,_⟩:=I.sq hq1
  obtain⟨its2,r2,p2,_⟩:=I.sq hq2
  have e1:=r1.length
  have e2:=r2.length
  refine jFE (I.ok.hd hc) D hz hTI hTO h1 h2 p1 p2 (by
   rcases hend with q | q
   ·exact .inl (by simp; omega)
   ·exact .inr (by simp; omega)) fun h' kp=>⟨rfl,?_⟩
  have nch:∀ b∈([z,TO,i1,i2]:List Addr),FpOk X ad H b:=fun b hb=>hf b (by
   simp only [am,ar,aX] at hb ⊢
   rcases hb with q | q | q | q
   ·exact .inl q
   ·exact .inr (.inl q)
   ·exact .inr (.inr (.inl q))
   ·exact .inr (.inr (.inr (.inl q))))
  have kp2:∀ b o,b∉([z,TO,i1,i2]:List Addr)->s.heap.get? b=some o->h'.get? b=some o:=fun b o hb e=>by
   simp only [am,ar,aX,gL] at hb
   exact kp b o hb.1 hb.2.1 hb.2.2.1 hb.2.2.2 e
  have ntr:∀ b o,H b=some o->b∉([z,TO,i1,i2]:List Addr):=fun b o e hb=>by
   have:=(nch b hb).1
   rw[e] at this; cases this
  refine I.step (g':=s.gens) (d':=s.drawn) (t':=s.toks) (ch:=[z,TO,i1,i2]) (fun b hb=>?_) (fun b o _ _ hb e _=>kp2 b o hb e) (fun b o _ _ hb e _=>⟨o.slots,kp2 b o hb e⟩)
   (fun b o _ e n=>n) (fun b o hb e=>⟨o,kp2 b o hb e⟩) (fun b ws e=>e) (fun b o ws e=>e) (fun b ps e=>⟨#[],by rw[e]; simp⟩) (fun m hm=>?_) (fun b o e=>?_) I.bare
  ·obtain⟨f0,f1,f2,f3,f4,f5⟩:=nch b hb
   exact⟨f3,f1,f4,f5⟩
  ·obtain⟨o,es,ep,ho,r⟩:=hm
   exact⟨o,es,ep,kp2 _ o (fun hb=>(nch _ hb).2.1 rfl) ho,r⟩
  ·refine(I.hok b o e).stay (fun c w hc q=>kp2 c w ?_ q) (fun _ q=>q) fun _ _ q=>q
   rcases hc with rfl | hc
   ·exact ntr _ _ e
   ·exact ntr _ _ hc
 self:=fun _ _ _ _ _ st h=>wpAny_pyIter_zip st.1 h
def iZip (K:W.Frag)(ta:TA):TI:=fun σ H R=>ta σ H fun vs H1=>∃ t1 t2 l1 l2,vs=[.ref l1, .ref l2]/\(∃ xs,Sq t1 K H1 l1 xs)/\(∃ ys,Sq t2 K H1 l2 ys)/\R (Itz t1 t2 K l1 l2) H1
theorem jR0 {a b:Expr}{ta:TA}{p pos:Pos}{elts:List Expr}{x1:Nat}{tp:Pos}(hg:Gl X "zip")(hm:X.mg "zip" =none)(ha:PA X [a,b] ta)(hv:bootBuiltins "zip" =some (.type "zip"):=by decide+kernel)
  (he:starEach [a,b] X.env=(false,eval a X.env)::starEach [b] X.env:=by rfl) (hpl:(backTo pos (starEach [b] X.env)).any (·.1)=false:=by rfl):
  PI X (.Tuple elts x1 tp) (.Call (.Name "zip" p) [a,b] [] pos) (iZip X.K ta):=by
 intro ad s σ H R I h
 refine Call_ (jCX I hg hm hv (bN (ir (ha pos ad s σ H _ I h) fun us s1 ⟨vs,H1,I1,r1,q1⟩=>?_) he hpl))
 obtain⟨t1,t2,l1,l2,rfl,⟨xs,hq1⟩,⟨ys,hq2⟩,q⟩:=q1
 obtain⟨u,v,rfl,ru,rv⟩:=r1.two
 cases ru
 cases rv
 obtain⟨its1,_,p1,_⟩:=I1.sq hq1
 obtain⟨its2,_,p2,_⟩:=I1.sq hq2
 have lt1:l1<s1.heap.objs.size:=p1.lt
 have lt2:l2<s1.heap.objs.size:=p2.lt
 refine jKV p1 p2 fun h' a1 a2 a3 a4 a5 kp=>?_
 have I2:Inv X ad σ H1 { s1 with heap:=h'} :=I1.kept (t':=s1.toks) kp
 have D:ZipApart (s1.heap.objs.size+4) (s1.heap.objs.size+2) (s1.heap.objs.size+3) s1.heap.objs.size (s1.heap.objs.size+1) l1 l2:=zipApart_new lt1 lt2
 refine wpAny_pyIter_zip a1 ⟨s1.heap.objs.size+4,[s1.heap.objs.size+4,s1.heap.objs.size+3,s1.heap.objs.size,s1.heap.objs.size+1,s1.heap.objs.size+2],_,Itz t1 t2 X.K l1 l2,H1,rfl,I2,jLC t1 t2 l1 l2 _ _ _ _ _ D,⟨a1,a2,⟨_,_,a3⟩,a4,a5⟩,fun b hb=>?_,q⟩
 have hge:s1.heap.objs.size<=b:=by
  simp only [am,ar,aX] at hb
  rcases hb with rfl | rfl | rfl | rfl | rfl
  ·exact dF _ 4
  ·exact dF _ 3
  ·exact aq _
  ·exact dF _ 1
  ·exact dF _ 2
 exact I1.fpOk hge (I1.hok.fresh hge)
structure JE (X:Cx)(e:Expr)(t:TE):Prop where
 h:PE X e t
structure JA (X:Cx)(es:List Expr)(t:TA):Prop where
 h:PA X es t
structure JT (X:Cx)(e:Expr)(t:TT):Prop where
 h:PT X e t
structure JTs (X:Cx)(e:List Expr)(t:TT):Prop where
 h:PTs X e t
structure JS (X:Cx)(e:Stmt)(t:TS):Prop where
 h:PS X e t
structure JSs (X:Cx)(e:List Stmt)(t:TS):Prop where
 h:PSs X e t
structure JG (X:Cx)(e:Expr)(t:TG):Prop where
 h:PG X e t
structure JGs (X:Cx)(e:List Expr)(t:TGs):Prop where
 h:PGs X e t
structure JI (X:Cx)(tg e:Expr)(t:TI):Prop where
 h:PI X tg e t
structure JO (X:Cx)(e:Option Expr)(t:TO):Prop where
 h:PO X e t
structure Loc1 (X:Cx)(x:Str):Prop where
 a:Loc X.env.scope x
 b:X.fn x=true\/X.env.scope.names.lookup x=some .local
structure Vis1 (X:Cx)(x:Str):Prop where
 a:Vis X.env.scope x
structure Gl1 (X:Cx)(x:Str):Prop where
 a:Gl X x
section
variable {o:Option Expr}{l:Nat}
structure SwOk (e:Expr)(o:Option Expr):Prop where
 h:∀ l env,swapsWith e o l env=pure false
theorem jQM {op:Operator} :SwOk (.BinOp a op b pos) o:=⟨fun _ _=>rfl⟩
theorem jQL {ops:List CmpOp} :SwOk (.Compare a ops xs pos) o:=⟨fun _ _=>rfl⟩
theorem kI {kw:List Keyword} :SwOk (.Call a xs kw pos) o:=⟨fun _ _=>rfl⟩
theorem qF:SwOk (.Subscript a b pos) o:=⟨fun _ _=>rfl⟩
theorem jNF {x1} :SwOk (.Tuple xs x1 pos) o:=⟨fun _ _=>rfl⟩
theorem jG2:SwOk (.List xs pos) o:=⟨fun _ _=>rfl⟩
theorem jNO {op:Operator} :jAW (.BinOp a op b pos):=fun _ _=>rfl
theorem jB8 {kw:List Keyword} :jAW (.Call a xs kw pos):=fun _ _=>rfl
theorem jO {i:Int}{k} :jAW (.Constant (.int i) k pos):=fun _ _=>rfl
theorem jDR {x:Str} :jAW (.Name x pos):=fun _ _=>rfl
structure FoOk (iter:Expr):Prop where
 h:∀ env x,foldedSetIterable iter env x=pure x
theorem qC {kw:List Keyword} :FoOk (.Call a xs kw pos):=⟨fun _ _=>rfl⟩
theorem jAN {x:Str} :FoOk (.Name x pos):=⟨fun _ _=>rfl⟩
theorem jO1:FoOk (.Subscript a b pos):=⟨fun _ _=>rfl⟩
structure TvOk (e:Expr):Prop where
 h:∀ env whole,isTrue e env whole=(do let v <- whole; standAt e.pos; holding [v] (truthy v))
theorem jU {kw:List Keyword} :TvOk (.Call a xs kw pos):=⟨fun _ _=>rfl⟩
theorem jBP {x:Str} :TvOk (.Name x pos):=⟨fun _ _=>rfl⟩
end
variable {te:TE}{x:Str}
section
variable {e o:Expr}{ta tb to:TE}{t:TA}{p cpos apos:Pos}{T:String}{id:String}
theorem jv (i:Nat)(hN:X.N[i]?=some x)(hv:Vis1 X x)(hd:(x==("__debug__" :Str))=false:=by decide)(hcd:(x==("__classdict__" :Str))=false:=by decide):JE X (.Name x pos) (tVar i):=⟨jGL hN hv.a hd hcd⟩
theorem jE {i j} :JE X (.Constant (.int i) j pos) (tC (.int i)):=⟨jY⟩
theorem qU {i j} :JE X (.Constant (.bool i) j pos) (tC (.bl i)):=⟨pe_bl⟩
theorem y6 {j} :JE X (.Constant .none j pos) (tC .non):=⟨jR8⟩
theorem jP {i j} :JE X (.Constant (.str i) j pos) (tC (.str i)):=⟨jR5⟩
theorem yF {v:V}{u:Value}(hg:Gl1 X x)(hm:X.mg x=none)(hv:bootBuiltins x=some u)(r:RelV v u)(hn:x≠ "__name__" :=by decide)(hd:(x==("__debug__" :Str))=false:=by decide):JE X (.Name x pos) (tC v):=⟨jP7 hg.a hm hv r hn hd⟩
theorem yL {op:Operator}{r:R2}(ho:OpR X (binaryOp op) r)(ha:JE X a ta)(hb:JE X b tb):JE X (.BinOp a op b pos) (tOp r ta tb):=⟨y9 ho ha.h hb.h⟩
theorem x9 {op:UnaryOp}{r:V->Hp->VK->Prop}(ho:UnR X (unaryOp op) r)(ha:JE X a ta):JE X (.UnaryOp op a pos) (tUn r ta):=⟨pe_un ho ha.h⟩
theorem jKC (ha:JE X a ta):JE X (.UnaryOp .Not a pos) (tNotV ta):=⟨jR7 ha.h⟩
theorem y0 {op:CmpOp}{r:R2}(ho:OpR X (compareOp op) r)(ha:JE X a ta)(hb:JE X b tb)(hm:behindInMarks op b=false):JE X (.Compare a [op] [b] pos) (tOp r ta tb):=⟨jP5 ho ha.h hb.h hm⟩
theorem jBK {rest:List Expr}(ha:JE X a ta)(hb:JE X (.BoolOp .And (b::rest) pos) tb):JE X (.BoolOp .And (a::b::rest) pos) (tAndV ta tb):=⟨jRB ha.h hb.h⟩
theorem je_or {rest:List Expr}(ha:JE X a ta)(hb:JE X (.BoolOp .Or (b::rest) pos) tb):JE X (.BoolOp .Or (a::b::rest) pos) (tOrV ta tb):=⟨pe_or ha.h hb.h⟩
theorem jB3 {op}(ha:JE X a ta):JE X (.BoolOp op [a] pos) ta:=⟨jR6 ha.h⟩
theorem jDZ {lo hi:Option Expr}{tl th:TO}{r:V->Option Int->Option Int->Hp->VK->Prop}(hr:SlR X r)(he:JE X e te)(hl:JO X lo tl)(hu:JO X hi th):JE X (.Subscript e (.Slice lo hi none p2) pos) (tSl r te tl th):=⟨jLR hr he.h hl.h hu.h⟩
theorem jT {r:R2}(hr:IxR X r)(ha:JE X a ta)(hb:JE X b tb)(hs:jAW b):JE X (.Subscript a b pos) (tOp r ta tb):=⟨pe_ix hr ha.h hb.h hs⟩
theorem kY {T}{r:List V->Hp->VK->Prop}(hc:yR X (.type T) r)(hg:Gl1 X x)(hm:X.mg x=none)(hv:bootBuiltins x=some (.type T))(ha:JA X (e::es) t)(he:starEach (e::es) X.env=(false,eval e X.env)::starEach es X.env)(hn:x≠ "__name__" :=by decide)(hdb:(x==("__debug__" :Str))=false:=by decide)
  (hpl:(backTo pos (starEach es X.env)).any (·.1)=false:=by rfl):JE X (.Call (.Name x p) (e::es) [] pos) (tCB r t):=⟨jBI hc hg.a hm hv ha.h hn hdb he hpl⟩
theorem jH {id}{r:List V->Hp->VK->Prop}(hc:yR X (.builtin id) r)(hg:Gl1 X x)(hm:X.mg x=none)(hv:bootBuiltins x=some (.builtin id))(ha:JA X (e::es) t)(he:starEach (e::es) X.env=(false,eval e X.env)::starEach es X.env)(hn:x≠ "__name__" :=by decide)(hdb:(x==("__debug__" :Str))=false:=by decide)
  (hpl:(backTo pos (starEach es X.env)).any (·.1)=false:=by rfl):JE X (.Call (.Name x p) (e::es) [] pos) (tCB r t):=⟨jDV hc hg.a hm hv ha.h hn hdb he hpl⟩
theorem j7:JA X [] tNil:=⟨yM⟩
theorem j4 (ha:JE X e te)(hr:JA X es t)(hs:starEach (e::es) X.env=(false,eval e X.env)::starEach es X.env):JA X (e::es) (tCons te t):=⟨kJ ha.h hr.h hs⟩
theorem jN {op:CmpOp}{r:R2}(ho:OpR X (compareOp op) r)(ha:JE X a ta)(hb:JE X b tb)(hm:behindInMarks op b=false):JT X (.Compare a [op] [b] pos) (tTest (tOp r ta tb)):=⟨jCP ho ha.h hb.h hm⟩
theorem jZ (h:JE X e te)(he:TvOk e):JT X e (tB te):=⟨jQV h.h (he.h _)⟩
theorem yB {tA:TT}(ha:JT X a tA):JT X (.UnaryOp .Not a pos) (tNot tA):=⟨jQW ha.h⟩
theorem yV:JTs X [] qI:=⟨jJ7⟩
theorem jBW {t:TT}(h:JT X e t):JTs X [e] t:=⟨jJ6 h.h⟩
theorem kB {i:Nat}(hN:X.N.Nodup)(hi:X.N[i]?=some x)(hx:Loc1 X x):JG X (.Name x pos) (kX i):=⟨jDU hN hi hx.a hx.b⟩
theorem jAH {tg:Expr}(hg:Gl1 X "range")(hm:X.mg "range" =none)(ha:JA X [a] t)(hs:starEach [a] X.env=(false,eval a X.env)::starEach [] X.env):JI X tg (.Call (.Name "range" p) [a] [] pos) (iRng1 t):=⟨jBH hg.a hm ha.h hs⟩
theorem jPU {tg:Expr}(hl:JE X a ta):JI X tg a (iList X.K ta):=⟨jP0 hl.h⟩
theorem qT {tg:Expr}(hl:JE X a ta):JI X tg a (iTup X.K ta):=⟨jR1 hl.h⟩
theorem jNX {elts:List Expr}{x1:Nat}{tp:Pos}(hg:Gl1 X "zip")(hm:X.mg "zip" =none)(ha:JA X [a,b] t)(he:starEach [a,b] X.env=(false,eval a X.env)::starEach [b] X.env)(hv:bootBuiltins "zip" =some (.type "zip"):=by decide+kernel)
  (hpl:(backTo pos (starEach [b] X.env)).any (·.1)=false:=by rfl):JI X (.Tuple elts x1 tp) (.Call (.Name "zip" p) [a,b] [] pos) (iZip X.K t):=⟨jR0 hg.a hm ha.h hv he hpl⟩
theorem jFQ:JO X none jIL:=⟨jOX⟩
theorem jDY (h:JE X e te):JO X (some e) (tPart te):=⟨jOW h.h⟩
theorem kP {i:Nat}{pos':Pos}(hN:X.N.Nodup)(hi:X.N[i]?=some x)(hx:Loc1 X x)(he:JE X e te)(hs:SwOk e (some (.Name x pos'))):JS X (.Assign [.Name x pos'] e pos) (tAsg te (kX i)):=⟨qL hN hi hx.a he.h (hs.h _ _) hx.b⟩
theorem jQ (he:JE X e te):JS X (.Return (some e) pos) (tRet te):=⟨jC5 he.h⟩
theorem yN (he:JE X e te)(hs:SwOk e none):JS X (.Expr e pos) (tDrop te):=⟨jOV he.h (hs.h _ _)⟩
theorem jI:JSs X [] tNext:=⟨jDT⟩
theorem jC {st:Stmt}{t:TS}(h1:JS X st t):JSs X [st] t:=⟨jAM h1.h⟩
theorem j8 {st:Stmt}{rest:List Stmt}{t u:TS}(h1:JS X st t)(h2:JSs X rest u):JSs X (st::rest) (tSeq t u):=⟨y8 h1.h h2.h⟩
theorem jR {c:Expr}{a b:List Stmt}{tc:TT}{t u:TS}(hc:JT X c tc)(ha:JSs X a t)(hb:JSs X b u):JS X (.If c a b pos) (tIfS tc t u):=⟨ps_if hc.h ha.h hb.h⟩
theorem jK8 {tg iter:Expr}{body:List Stmt}{wi:TI}{g:TG}{tb:TS}(hp:PassesOwn (model X.prog X.w) X.A X.env X.xe)(hc:X.calm=true)(hi:JI X tg iter wi)(hg:JG X tg g)(hb:JSs X body tb)(hs:FoOk iter):JS X (.For tg iter body [] pos) (tFor wi g tb):=⟨jNP hp hc hi.h hg.h hb.h (hs.h _)⟩
theorem je_bm {T:String}{name:Str}{r}(pa:PlainAttrs T)(slot:Slot T name id)(hty:typeOf (.builtin id)=pure (.type "method_descriptor"))(hm:MtR X id r)(ho:JE X o to)(ha:JA X (e::es) t)
  (hs:starEach (e::es) X.env=(false,eval e X.env)::starEach es X.env)
  (hbase:attributeBase o name X.env (eval o X.env)=eval o X.env:=by rfl)
  (hfew:((backTo cpos (starEach (e::es) X.env)).all (fun x=>!x.1)&&(backToKw cpos (keywordEach [] X.env)).all (fun x=>x.1.isSome)
   &&decide ((e::es).length+([]:List Keyword).length+(if ([]:List Keyword).isEmpty then 0 else 1)<30))=true:=by rfl)
  (hline:(apos.endLine==cpos.line)=true:=by rfl) (hplain:(backTo cpos (starEach es X.env)).any (·.1)=false:=by rfl):
  JE X (.Call (.Attribute o name apos) (e::es) [] cpos) (tBM X.K T r to t):=⟨pe_bm pa slot hty hm ho.h ha.h hbase hfew hline hs hplain⟩
theorem yE {tg iter elt:Expr}{ifs:List Expr}{sc:Scope}{wi:TI}{g:TG}{tt:TT}{m:List (Option Nat)}{Nc:List Str}(hc:X.calm=true)(hi:JI X tg iter wi)(hkind:sc.kind= .function)(hcell:∀ y∈sc.names,y.2≠ .cell)(hnames:∀ y∈sc.names,y.2= .local->sc.names.lookup y.1=some .local)
  (hfree:∀ y∈sc.names,y.2= .free->X.env.scope.names.lookup y.1=some .cell\/X.env.scope.names.lookup y.1=some .free) (hm:jB6 X sc Nc m)
  (hg:∀ cl C fp s H,JG (blk X sc cl C Nc fp s H) tg g) (ht:∀ cl C fp s H,JTs (blk X sc cl C Nc fp s H) ifs tt) (he:∀ cl C fp s H,JE (blk X sc cl C Nc fp s H) elt te)
  (hs:FoOk iter):JE X (.ListComp elt [⟨tg,iter,ifs,0⟩] sc pos) (tComp m wi g tt te):=⟨jFG hc hi.h hkind hcell hnames hfree hm (fun cl C fp s H=>(hg cl C fp s H).h) (fun cl C fp s H=>(ht cl C fp s H).h) (fun cl C fp s H=>(he cl C fp s H).h) (hs.h _)⟩
end
variable {P:Program}{mg:Str->Option Value}{base:Heap}{N:List Str}{qual:Str}{sc:Scope}{f:Addr}{cdv:Value}{outer:List Env}{H:Hp}{E:XK}
section
variable {K:W.Frag}
theorem gl_d (h:sc.names.lookup x=some .globalImplicit):Gl1 (cxOf CX0 P w K mg base N qual sc f cdv A outer s H E).nox x:=⟨h⟩
theorem gD (h:sc.names.lookup x=some .globalImplicit:=by decide+kernel):Gl1 (cxOf CX0 P w K mg base N qual sc f cdv A outer s H E).nox x:=gl_d h
theorem vis_l (h:sc.names.lookup x=some .local):Vis1 (cxOf CX0 P w K mg base N qual sc f cdv A outer s H E).nox x:=⟨.inl h⟩
theorem vL (h:sc.names.lookup x=some .local:=by decide+kernel):Vis1 (cxOf CX0 P w K mg base N qual sc f cdv A outer s H E).nox x:=vis_l h
theorem vis_c (h:sc.names.lookup x=some .cell):Vis1 (cxOf CX0 P w K mg base N qual sc f cdv A outer s H E).nox x:=⟨.inr (.inl h)⟩
theorem vC (h:sc.names.lookup x=some .cell:=by decide+kernel):Vis1 (cxOf CX0 P w K mg base N qual sc f cdv A outer s H E).nox x:=vis_c h
end
theorem jA7 {env:Env}{x:Str}{k:NameKind}(hk:k≠ .free):∀ {l:List (Str×NameKind)},l.lookup x=some k->
  (l.map fun (n,k)=>if (k==NameKind.free&&env.scope.kind== .function&&env.kindOf n==some .cell) then (n,NameKind.cell) else (n,k)).lookup x=some k
 | [],h=>by cases h
 | (n,k')::r,h=>by
  have ih:= @jA7 env x k hk r
  rw[aY] at h
  rw[be]
  dsimp only
  by_cases hb:(k'==NameKind.free&&env.scope.kind== .function&&env.kindOf n==some .cell)=true
  ·rw[aB hb,aY]
   cases hx:x==n with
   | true=>
    rw[hx] at h
    have e:k'=k:=aM h
    simp only [aV] at hb
    exact absurd (e.symm.trans (eq_of_beq hb.1.1)) hk
   | false=>rw[hx] at h; exact ih h
  ·rw[av hb,aY]
   cases hx:x==n with
   | true=>rw[hx] at h; exact h
   | false=>rw[hx] at h; exact ih h
variable {cl:List (Str×Addr)}{C:Addr}{Nc:List Str}{fp:List Addr}
theorem gl_b (h:sc.names.lookup x=some .globalImplicit:=by decide+kernel):Gl1 (blk X sc cl C Nc fp s H) x:=⟨jA7 (by decide) h⟩
theorem kO (h:sc.names.lookup x=some .local:=by decide+kernel):Vis1 (blk X sc cl C Nc fp s H) x:=⟨.inl (jA7 (by decide) h)⟩
theorem yI (h:sc.names.lookup x=some .free:=by decide+kernel):Vis1 (blk X sc cl C Nc fp s H) x:=⟨.inr (jB2 h)⟩
theorem qO (h:sc.names.lookup x=some .local:=by decide+kernel):Loc1 (blk X sc cl C Nc fp s H) x:=⟨.inl (jA7 (by decide) h), .inr (jA7 (by decide) h)⟩
section
variable {K:W.Frag}
theorem loc_l (h:sc.names.lookup x=some .local):Loc1 (cxOf CX0 P w K mg base N qual sc f cdv A outer s H E).nox x:=⟨.inl h, .inl rfl⟩
theorem lL (h:sc.names.lookup x=some .local:=by decide+kernel):Loc1 (cxOf CX0 P w K mg base N qual sc f cdv A outer s H E).nox x:=loc_l h
theorem loc_c (h:sc.names.lookup x=some .cell:=by decide+kernel):Loc1 (cxOf CX0 P w K mg base N qual sc f cdv A outer s H E).nox x:=⟨.inr h, .inl rfl⟩
end
structure JW (X:Cx)(e:Expr)(t:TT):Prop where
 h:PW X e t
section
variable {rest:List Expr}{tA tB':TT}
theorem jDX (ha:JT X a tA):JW X (.BoolOp .And [a] pos) tA:=⟨jOP ha.h⟩
theorem qS (ha:JT X a tA):JW X (.BoolOp .Or [a] pos) tA:=⟨jQS ha.h⟩
theorem jGX (ha:JT X a tA)(hb:JW X (.BoolOp .And (b::rest) pos) tB'):JW X (.BoolOp .And (a::b::rest) pos) (tAnd tA tB'):=⟨jQT ha.h hb.h⟩
theorem xD (ha:JT X a tA)(hb:JW X (.BoolOp .Or (b::rest) pos) tB'):JW X (.BoolOp .Or (a::b::rest) pos) (tOr tA tB'):=⟨pw_or ha.h hb.h⟩
theorem jt_w (h:JW X a tA):JT X a tA:=⟨h.h.pt⟩
theorem jCZ:JGs X [] gNil:=⟨jP2⟩
structure AsOk (e:Expr):Prop where
 h:∀ es env,assignEach (e::es) env=(false,assign e env)::assignEach es env
theorem yY {x:Str} :AsOk (.Name x pos):=⟨fun _ _=>rfl⟩
theorem yO {e:Expr}{es:List Expr}{t:TG}{u:TGs}(h1:JG X e t)(h2:JGs X es u)(hs:AsOk e):JGs X (e::es) (qP t u):=⟨jLQ h1.h h2.h (by rw[hs.h]; rfl)⟩
theorem jGZ {es:List Expr}{k:Nat}{t:TGs}{n:Nat}(hc:X.calm=true)(h:JGs X es t)(hn:(assignEach es X.env).length=n:=by rfl)(hst:(assignEach es X.env).findIdx? (·.1)=none:=by rfl):JG X (.Tuple es k pos) (gTup X.K n t):=⟨jR2 hc h.h hn hst⟩
theorem jFK {op:CmpOp}{x:Str} :behindInMarks op (.Name x pos)=false:=by cases op <;> rfl
end
theorem jAT {X:Cx}{sc:Scope}{cl:List (Str×Addr)}{C:Addr}{Nc:List Str}{fp:List Addr}{s:Shared}{H:Hp}{x y:Str}{p1 p2 pos:Pos}{k:Nat}{i j:Nat}(hc:X.calm=true)(hN:Nc.Nodup)(hi:Nc[i]?=some x)(hj:Nc[j]?=some y)(hx:sc.names.lookup x=some .local)(hy:sc.names.lookup y=some .local):
  JG (blk X sc cl C Nc fp s H) (.Tuple [.Name x p1, .Name y p2] k pos) (gTup X.K 2 (qP (kX i) (qP (kX j) gNil))):=
 jGZ (X:=blk X sc cl C Nc fp s H) hc (yO (kB hN hi (qO hx)) (yO (kB hN hj (qO hy)) jCZ yY) yY)
variable {m:List (Option Nat)}{g:TG}{tt:TT}{H1:Hp}{Q:VK}
section
variable {K:W.Frag}{σ:St}
theorem jH9 {t1 t2:Bool}{l1 l2:Addr}{xs ys:List V}(hn:xs.length<sizeLine)(Pv:Addr->Nat->St->Hp->List V->Prop)(h0:∀ D,H1 D=none->Pv D 0 (blkσ m σ) (upd H1 D (.lst [])) [])
  (hD:∀ D i σ' H' zs,H1 D=none->Pv D i σ' H' zs->Sq t1 K H' l1 xs/\Sq t2 K H' l2 ys/\H' D=some (.lst zs)/\zs.length<=i)
  (hs:∀ D i σ' H' zs x y T,H1 D=none->xs[i]?=some x->ys[i]?=some y->H' T=none->Pv D i σ' H' zs->g (.ref T) σ' (upd H' T (.tup [x,y])) fun σ2 H2=>tt σ2 H2 fun b H3=>if b=true then te σ2 H3 fun v H4=>H4 D=some (.lst zs)/\Pv D (i+1) σ2 (upd H4 D (.lst (zs++[v]))) (zs++[v]) else Pv D (i+1) σ2 H3 zs)
  (hd:∀ D σ' H' zs,H1 D=none->Pv D (min xs.length ys.length) σ' H' zs->Q (.ref D) H'):qZ m g tt te σ Q (Itz t1 t2 K l1 l2) H1:=by
 intro D hDn
 refine⟨fun i k σ' H' zs=>k=min xs.length ys.length - i/\i<=min xs.length ys.length/\Pv D i σ' H' zs,⟨_,rfl,bi _,h0 D hDn⟩,?_⟩
 rintro i k σ' H' zs ⟨rfl,hi,p⟩
 obtain⟨s1,s2,q1,q2⟩:=hD D i σ' H' zs hDn p
 refine⟨q1,by omega,?_⟩
 by_cases hlt:i<min xs.length ys.length
 ·have a1:i<xs.length:=by omega
  have a2:i<ys.length:=by omega
  refine .inr ⟨⟨xs,ys,xs[i],ys[i],s1,s2,by simp [a1],by simp [a2]⟩,Pv D (i+1),fun σ2 H2 zs z=>⟨min xs.length ys.length - (i+1),by omega,rfl,hlt,z⟩,fun v H'' y=>?_⟩
  obtain⟨T,x,y,e1,e2,e3,e4⟩:=y
  subst e2 e3
  obtain⟨z1,z2⟩:=e4 xs ys s1 s2
  exact hs D i σ' _ zs x y T hDn z1 z2 e1 p
 ·have e:i=min xs.length ys.length:=by omega
  subst e
  exact .inl ⟨⟨xs,ys,s1,s2,by omega⟩,hd D σ' H' zs hDn p⟩
end
theorem jDW:OpR (blk X sc cl C Nc fp s H) (compareOp .In) (rIn X.K false):=jEL
theorem jA3:IxR (blk X sc cl C Nc fp s H) (rIxT X.K):=kR
def Ext (H H':Hp):Prop:=∀ b o,H b=some o->H' b=some o
theorem Ext.refl (H:Hp):Ext H H:=fun _ _ h=>h
theorem Ext.trans {H H1 H2:Hp}(a:Ext H H1)(b:Ext H1 H2):Ext H H2:=fun c o h=>b c o (a c o h)
theorem Ext.new {H H1:Hp}{l:Addr}(a:Ext H H1)(hl:H1 l=none)(o:HO):Ext H (upd H1 l o):=fun c u h=>by
 have:=a c u h
 rw[jD (jF this hl)]
 exact this
theorem Ext.updNew {H H1:Hp}{l:Addr}(a:Ext H H1)(hl:H l=none)(o:HO):Ext H (upd H1 l o):=fun c u h=>by
 rw[jD (jF h hl)]
 exact a c u h
def TupR (H:Hp)(xs:List V)(Q:VK):Prop:=∀ r H',H' r=some (.tup xs)->Ext H H'->Q (.ref r) H'
theorem TupR.new {H:Hp}{xs:List V}{Q:VK}(q:TupR H xs Q){p:Addr}(hp:H p=none):Q (.ref p) (upd H p (.tup xs)):=q p _ jA ((Ext.refl H).new hp _)
theorem TupR.old {H:Hp}{xs:List V}{Q:VK}(q:TupR H xs Q){p:Addr}(hp:H p=some (.tup xs)):Q (.ref p) H:=q p H hp (Ext.refl H)
def rCatU:R2:=fun x y H Q=>∃ a b xs ys,x= .ref a/\y= .ref b/\H a=some (.tup xs)/\H b=some (.tup ys)/\xs.length+ys.length<=sizeLine/\TupR H (xs++ys) Q
theorem jAR:OpR X (binaryOp .Add) rCatU:=by
 intro ad s σ H x y v u Q I rx ry h
 obtain⟨a,b,xs,ys,rfl,rfl,ha,hb,hz,q⟩:=h
 by_cases hx:xs=[]
 ·subst hx
  cases rx
  cases ry
  obtain⟨_,its,r1,n1,e1⟩:=I.hok a _ ha
  obtain⟨_,its2,r2,n2,e2⟩:=I.hok b _ hb
  cases r1
  exact concat_meets ⟨_,e1,rfl⟩ ⟨_,e2,rfl⟩ gj seq_tuple_add d0 dS (dJ _ _) (AutoSeq1.tuple___add___tuple_tuple_0 a _ n1 b its2.toArray n2 (by simp)) ⟨e1,e2, .ref b,H,I,rfl,q.old hb⟩
 ·refine jPA ad s σ H _ _ v u Q I rx ry ⟨a,b,xs,ys,rfl,rfl,SqT.of ha,SqT.of hb,hx,hz,fun e=>?_,fun _ p hp=>q.new hp⟩
  subst e
  rw[bH] at q
  exact q.old ha
theorem jCD:fillsNumberSlot (.type "tuple") "mul" =pure false:=
 PySem.fillsNumberSlot_seq (id:= "tuple.__mul__") (r:=some (.builtin "tuple.__rmul__")) gx.lookup (by decide+kernel) gl.lookup (by decide+kernel)
theorem jEH:seqRepeat? (.type "tuple")=pure (some (.builtin "tuple.__mul__")):=by
 unfold seqRepeat?
 rw[PySem.seqSlot_of (T:= "tuple") (name:= "__mul__") (id:= "tuple.__mul__") gx.lookup (by decide+kernel),PySem.seqSlot_of (T:= "tuple") (name:= "__rmul__") (id:= "tuple.__rmul__") gl.lookup (by decide+kernel)]
 rfl
theorem jHN (a:Int)(t:Tok)(l:Addr)(items:Array Value)(n:Nat):
  Meets (Builtin.«int.__rmul__» ⟨[.int a t, .ref l],[]⟩) (fun _ R s=>s.heap.get? l=some { cls:= .type "tuple",dict:=none,data:= .seq items n,slots:=#[]} /\R (.ok (.ret Value.notImplemented)) s):=
 .of_wp fun prog w A R s h=>by
  obtain⟨hp,g,d,tk,os⟩:=s
  obtain⟨hl,h⟩:=h
  wp_walk
  exact⟨_,rfl,h⟩
section
variable (l:Addr)(items:Array Value)(n:Nat)(x:Int)(u:Tok)(h1:¬ (decide (x< -(2 ^ 63)) || decide (x ≥ 2 ^ 63))=true)
include h1
theorem jHX (h2:(items.isEmpty || x==1)=true):
  Meets (Builtin.«tuple.__mul__» ⟨[.ref l, .int x u],[]⟩) (fun _ R s=>s.heap.get? l=some { cls:= .type "tuple",dict:=none,data:= .seq items n,slots:=#[]} /\R (.ok (.ret (.ref l))) s):=
 .of_wp fun prog w A R s h=>by
  obtain⟨hp,g,d,tk,os⟩:=s
  obtain⟨hl,h⟩:=h
  have f1:=gm
  wp_walk using bC hl
  refine ff (aw h1) ?_
  wp_walk using bC hl
  exact⟨_,rfl,h⟩
theorem jHW (h2:¬ (items.isEmpty || x==1)=true)(h3:(decide (x<=0) || items.isEmpty)=true):
  Meets (Builtin.«tuple.__mul__» ⟨[.ref l, .int x u],[]⟩) (fun _ R s=>s.heap.get? l=some { cls:= .type "tuple",dict:=none,data:= .seq items n,slots:=#[]} /\R (.ok (.ret (.ref s.heap.objs.size))) { s with heap:=s.heap.push { cls:= .type "tuple",data:= .seq #[]}}):=
 .of_wp fun prog w A R s h=>by
  obtain⟨hp,g,d,tk,os⟩:=s
  obtain⟨hl,h⟩:=h
  have f1:=gm
  wp_walk using bC hl
  refine ff (aw h1) ?_
  wp_walk using bC hl
  exact⟨_,rfl,h⟩
theorem jHV (h2:¬ (items.isEmpty || x==1)=true)(h3:¬ (decide (x<=0) || items.isEmpty)=true)(h4:¬ (items.size:Int)*x>(2 ^ 63 - 1) / 8)(h5:¬ Builtin.Tuple.tupleTooMany ((items.size:Int)*x)=true)(h6:(List.foldl (fun x1 x2=>x1++x2) #[] (replicate x.toNat items)).size<=sizeLine):
  Meets (Builtin.«tuple.__mul__» ⟨[.ref l, .int x u],[]⟩) (fun _ R s=>s.heap.get? l=some { cls:= .type "tuple",dict:=none,data:= .seq items n,slots:=#[]} /\R (.ok (.ret (.ref s.heap.objs.size))) { s with heap:=s.heap.push { cls:= .type "tuple",data:= .seq (List.foldl (fun x1 x2=>x1++x2) #[] (replicate x.toNat items))}}):=
 .of_wp fun prog w A R s h=>by
  obtain⟨hp,g,d,tk,os⟩:=s
  obtain⟨hl,h⟩:=h
  have f1:=gm
  wp_walk using bC hl
  refine ff (aw h1) ?_
  wp_walk using bC hl
  refine ff (aw h4) ?_
  wp_walk using bC hl
  exact⟨_,rfl,h⟩
end
def rRepT:R2:=fun x y H Q=>∃ a k xs,x= .ref a/\y= .int k/\H a=some (.tup xs)/\ -(2 ^ 63)<=k/\k<2 ^ 63/\xs.length*k.toNat<=sizeLine/\TupR H (replicate k.toNat xs).flatten Q
theorem jP8:OpR X (binaryOp .Mult) rRepT:=by
 intro ad s σ H x y v u Q I rx ry h
 obtain⟨a,k,xs,rfl,rfl,ha,h1,h2,hz,q⟩:=h
 cases rx
 obtain⟨t,rfl⟩:=ry
 obtain⟨_,its,r,n,e⟩:=I.hok a _ ha
 have hl:=r.length
 have fit:¬ (decide (k< -(2 ^ 63)) || decide (k ≥ 2 ^ 63))=true:=by
  simp only [de,cF]
  omega
 refine wpAny_binaryOp_repeat_ref (T:= "tuple") (U:= "int") (by decide) ⟨_,e,rfl⟩ (fun s'=>typeIs_int s' k t) jCD F.fills_int_mul F.slot_int_rmul jEH F.slot_int_index.lookup
  (cV F.slot_int_rmul (typeIs_int s k t) F.entry_int_rmul (F.args_int_rmul_2 _ _) (jHN k t a its.toArray n) ⟨e,rfl,⟨_,e,rfl⟩,?_⟩)
 have hsl:(sizeLine:Nat)<=(2 ^ 63 - 1) / 8:=by decide
 by_cases c1:(its.toArray.isEmpty || k==1)=true
 ·refine cV F.slot_tuple_mul ⟨_,e,rfl⟩ F.entry_tuple_mul (F.args_tuple_mul_2 _ _) (jHX a its.toArray n k t fit c1) ⟨e, .ref a,H,I,rfl,q.old ?_⟩
  rw[ha]
  congr 2
  rw[de] at c1
  rcases c1 with c | c
  ·have:its=[]:=by simpa using c
   subst this
   have:xs=[]:=by simpa using hl
   subst this
   simp
  ·have:k=1:=eq_of_beq c
   subst this
   show xs=(replicate 1 xs).flatten
   simp
 ·by_cases c2:(decide (k<=0) || its.toArray.isEmpty)=true
  ·refine cV F.slot_tuple_mul ⟨_,e,rfl⟩ F.entry_tuple_mul (F.args_tuple_mul_2 _ _) (jHW a its.toArray n k t fit c1 c2) ⟨e,?_⟩
   refine⟨.ref s.heap.objs.size,_,I.laid (t':=s.toks) (o:= .tup []) (fun b ob q=>ae _ q) (aq _) ⟨bi _,[], .nil,TupO.new _ _⟩,rfl,?_⟩
   have k0:k.toNat=0:=by
    rw[de] at c2
    rcases c2 with c | c
    ·have:=ai c
     omega
    ·exact absurd (by rw[c]; rfl) c1
   have e0:(replicate k.toNat xs).flatten=[]:=by rw[k0]; rfl
   rw[e0] at q
   exact q.new (I.hok.fresh (aq _))
  ·have f0:List.foldl (fun x1 x2=>x1++x2) #[] (replicate k.toNat its.toArray)=(replicate k.toNat its).flatten.toArray:=by
    have:=jEV its k.toNat []
    rw[List.nil_append] at this
    exact this
   have kp:0<k:=by
    simp only [de,cF,gL] at c2
    omega
   have ek:((its.toArray.size:Nat):Int)*k=((xs.length*k.toNat:Nat):Int):=by
    rw[aA,<- hl,Int.natCast_mul]
    congr 1
    omega
   refine cV F.slot_tuple_mul ⟨_,e,rfl⟩ F.entry_tuple_mul (F.args_tuple_mul_2 _ _) (jHV a its.toArray n k t fit c1 c2 (by rw[ek]; omega) ?_ ?_) ⟨e,?_⟩
   ·rw[ek]
    unfold Builtin.Tuple.tupleTooMany
    simp only [cF]
    omega
   ·rw[f0,aA,jK2,<- hl,Nat.mul_comm]
    exact hz
   ·rw[f0]
    exact⟨.ref s.heap.objs.size,_,I.laid (t':=s.toks) (o:= .tup (replicate k.toNat xs).flatten) (fun b ob q=>ae _ q) (aq _) ⟨by rw[jK2,Nat.mul_comm]; exact hz,_,r.rep k.toNat,TupO.new _ _⟩,rfl,q.new (I.hok.fresh (aq _))⟩
theorem jBZ {prog:Program}{w:World}{A:Around}{E:Value->Shared->Prop}{s:Shared}{t sl:Addr}{items:Array Value}{n:Nat}{vl vu:Value}{lo hi:Option Int}{Q:Value->Shared->Prop}
  (e0:s.heap.get? t=some { cls:= .type "tuple",data:= .seq items n}) (hs:s.heap.IsSliceOf sl vl vu .none) (pl:IsPart vl lo) (pu:IsPart vu hi)
  (hw:HT.sIx items.size 0 lo=0/\HT.sIx items.size items.size hi=items.size) (h:Q (.ref t) s):wpAny (model prog w) A (getItem (.ref t) (.ref sl)) Q E s:=by
 have ht:IsTup s.heap t items:=⟨_,e0,rfl,n,rfl⟩
 obtain⟨os,hos,hcs,hds⟩:=id hs
 have hTs:s.TypeIs (.ref sl) "slice" :=⟨os,hos,hcs⟩
 unfold getItem
 try with_reducible refine aO ?_
 first | refine ac (af ?_) | skip
 refine ac (fY ht.typeIs (by decide) (ac (ba (name:=Str.ofString "__getitem__") ht.typeIs aS
  (bf aS ht.typeIs fj (?_:wpAny (model prog w) _ (Builtin.Tuple.tupleItemsOf (.ref t) >>= _) _ _ s) (fH _ _)))))
 refine ac (tupleItemsOf_ ht (ac (cU hTs ?_)))
 rw[aB (by decide)]
 refine ac (HT.sliceApplied_gen hs pl pu ?_)
 have yes:(((HT.sIx items.size 0 lo:Nat):Int)==0&&(1:Int)==1&&(HT.sIx items.size items.size hi - HT.sIx items.size 0 lo)==items.size)=true:=by
  rw[hw.1,hw.2]
  simp
 show wpAny (model prog w) _ (if (((HT.sIx items.size 0 lo:Nat):Int)==0&&(1:Int)==1&&(HT.sIx items.size items.size hi - HT.sIx items.size 0 lo)==items.size)=true then _ else _) _ _ s
 rw[aB yes]
 have ex:∀ {A:Around}{Q:Bool->Shared->Prop},Q true s->wpAny (model prog w) A (Builtin.Tuple.tupleIsExact (.ref t)) Q E s:=fun q=>by
  unfold Builtin.Tuple.tupleIsExact
  exact ac (cU ⟨_,e0,rfl⟩ (af q))
 refine ac (ex ?_)
 rw[aB rfl]
 exact ac (dz (af ⟨_,rfl,af h⟩))
def rSlU:V->Option Int->Option Int->Hp->VK->Prop:=fun x lo hi H Q=>∃ a xs,x= .ref a/\H a=some (.tup xs)/\TupR H (cutV xs lo hi) Q
theorem jFB:SlR X rSlU:=by
 intro ad s σ H x v vl vu lo hi sl Q I rx hs pl pu h
 obtain⟨a,xs,rfl,hx,q⟩:=h
 by_cases hw:HT.sIx xs.length 0 lo=0/\HT.sIx xs.length xs.length hi=xs.length
 ·cases rx
  obtain⟨_,its,r,n,e⟩:=I.hok a _ hx
  have hlen:its.toArray.size=xs.length:=by rw[aA]; exact r.length.symm
  refine⟨"tuple",_,aS.lookup,⟨_,e,rfl⟩,jBZ e hs pl pu (by rw[hlen]; exact hw) ⟨.ref a,H,I,rfl,q.old ?_⟩⟩
  rw[hx]
  congr 2
  unfold cutV
  rw[hw.1,hw.2]
  simp
 ·exact jQO ad s σ H _ v vl vu lo hi sl Q I rx hs pl pu ⟨a,xs,rfl,SqT.of hx,hw,fun p hp=>q.new hp⟩
theorem Inv.big' {ad:List (Addr×Obj)}{σ:St}{H:Hp}{s:Shared}(I:Inv X ad σ H s):sysModules<s.heap.objs.size:=cX (by decide) (I.mod.glob.keeps I.bk).lt
def jQK:TE:=fun _ H Q=>∀ p,H p=none->Q (.ref p) (upd H p (.dK []))
theorem je_dict0 {pos:Pos} :JE X (.Dict [] [] pos) jQK:=⟨fun ad s σ H Q I h=>
 wpAny_Dict_empty ⟨.ref s.heap.objs.size,_,I.laid (a:=s.heap.objs.size) (o:= .dK []) (t':=s.toks) (fun _ _ q=>ae _ q) (aq _)
  ⟨bi _,bD.mpr (bo (aF I.big')),[], .nil,Heap.DictOf.new s.heap⟩,rfl,h _ (I.hok.fresh (aq _))⟩⟩
theorem jH2 {a b c:Expr}{ta tb tc:TE}{pos:Pos}{op op':CmpOp}{r r':R2}(ho:OpR X (compareOp op) r)(ho':OpR X (compareOp op') r')(ha:JE X a ta)(hb:JE X b tb)(hc:JE X c tc)
  (hm:lastMarks [op,op'] [b,c]=false:=by with_unfolding_all rfl):JE X (.Compare a [op,op'] [b,c] pos) (jNE r r' ta tb tc):=⟨jLW ho ho' ha.h hb.h hc.h hm⟩
theorem yG {x:Str}{v:V}{u:Value}{pos:Pos}(hg:Gl1 X x)(hm:X.mg x=some u)(r:RelV v u)(hd:(x==("__debug__" :Str))=false:=by decide):JE X (.Name x pos) (tC v):=⟨jP3 hg.a hm r hd⟩
theorem jK9 {tg a b:Expr}{t:TA}{p pos:Pos}(hg:Gl1 X "range")(hm:X.mg "range" =none)(ha:JA X [a,b] t)(hs:starEach [a,b] X.env=(false,eval a X.env)::starEach [b] X.env)(hs2:starEach [b] X.env=(false,eval b X.env)::starEach [] X.env):
  JI X tg (.Call (.Name "range" p) [a,b] [] pos) (iRng2 t):=⟨jJC hg.a hm ha.h (by rw[hs,hs2]; rfl) hs2⟩
theorem jER {tg e:Expr}{te:TE}{g:TG}{pos:Pos}(he:JE X e te)(hg:JG X tg g)(hs:swapsWithSole [tg] e pos.line X.env=pure false:=by rfl)(hw:swappedStores [tg] e X.env=pure none:=by rfl)
  (h1:(assignEach [tg] X.env).map (·.2)=[assign tg X.env]:=by rfl):JS X (.Assign [tg] e pos) (tAsg te g):=⟨jNQ he.h hg.h hs hw h1⟩
section
variable {K:W.Frag}{σ:St}
theorem jCF {a:Addr}{xs:List V}(hn:xs.length<sizeLine)(Pv:Addr->Nat->St->Hp->List V->Prop)(h0:∀ D,H1 D=none->Pv D 0 (blkσ m σ) (upd H1 D (.lst [])) [])
  (hD:∀ D i σ' H' zs,H1 D=none->Pv D i σ' H' zs->H' a=some (.tup xs)/\H' D=some (.lst zs)/\zs.length<=i)
  (hs:∀ D i σ' H' zs x,H1 D=none->xs[i]?=some x->Pv D i σ' H' zs->g x σ' H' fun σ2 H2=>tt σ2 H2 fun b H3=>if b=true then te σ2 H3 fun v H4=>H4 D=some (.lst zs)/\Pv D (i+1) σ2 (upd H4 D (.lst (zs++[v]))) (zs++[v]) else Pv D (i+1) σ2 H3 zs)
  (hd:∀ D σ' H' zs,H1 D=none->Pv D xs.length σ' H' zs->Q (.ref D) H'):qZ m g tt te σ Q (Itt K a) H1:=by
 intro D hDn
 refine⟨fun i k σ' H' zs=>k=xs.length - i/\i<=xs.length/\Pv D i σ' H' zs,⟨_,rfl,bi _,h0 D hDn⟩,?_⟩
 rintro i k σ' H' zs ⟨rfl,hi,p⟩
 obtain⟨s1,q1,q2⟩:=hD D i σ' H' zs hDn p
 refine⟨q1,by omega,?_⟩
 by_cases hlt:i<xs.length
 ·refine .inr ⟨⟨xs,xs[i],SqT.of s1,by simp [hlt]⟩,Pv D (i+1),fun σ2 H2 zs z=>⟨xs.length - (i+1),by omega,rfl,hlt,z⟩,fun v H'' y=>?_⟩
  obtain⟨e1,e2⟩:=y
  subst e1
  exact hs D i σ' _ zs v hDn (e2 xs (SqT.of s1)) p
 ·have e:i=xs.length:=by omega
  subst e
  exact .inl ⟨⟨xs,SqT.of s1,aq _⟩,hd D σ' H' zs hDn p⟩
end
inductive Tr where
 | non
 | bl (b:Bool)
 | int (i:Int)
 | str (x:Str)
 | lst (ts:List Tr)
 | tup (ts:List Tr)
mutual
def TAt (H:Hp):Tr->V->Prop
 | .non,v=>v= .non
 | .bl b,v=>v= .bl b
 | .int i,v=>v= .int i
 | .str x,v=>v= .str x
 | .lst ts,v=>∃ a vs,v= .ref a/\H a=some (.lst vs)/\TsAt H ts vs
 | .tup ts,v=>∃ a vs,v= .ref a/\H a=some (.tup vs)/\TsAt H ts vs
def TsAt (H:Hp):List Tr->List V->Prop
 | [],vs=>vs=[]
 | t::ts,vs=>∃ v r,vs=v::r/\TAt H t v/\TsAt H ts r
end
mutual
def dep:Tr->Nat
 | .lst ts=>deps ts+1
 | .tup ts=>deps ts+1
 | _=>0
def deps:List Tr->Nat
 | []=>0
 | t::ts=>max (dep t) (deps ts)
end
mutual
def eqT:Tr->Tr->Bool
 | .non, .non=>true
 | .bl a, .bl b=>a==b
 | .bl a, .int b=>(if a then 1 else 0)==b
 | .int a, .bl b=>a==(if b then 1 else 0)
 | .int a, .int b=>a==b
 | .str a, .str b=>a==b
 | .lst a, .lst b=>eqTs a b
 | .tup a, .tup b=>eqTs a b
 | _,_=>false
def eqTs:List Tr->List Tr->Bool
 | [],[]=>true
 | a::as,b::bs=>eqT a b&&eqTs as bs
 | _,_=>false
end
mutual
theorem jMR:∀ t:Tr,eqT t t=true
 | .non=>by simp [eqT]
 | .bl b=>by simp [eqT]
 | .int i=>by simp [eqT]
 | .str x=>by simp [eqT]
 | .lst ts=>by rw[eqT]; exact jD5 ts
 | .tup ts=>by rw[eqT]; exact jD5 ts
theorem jD5:∀ ts:List Tr,eqTs ts ts=true
 | []=>by simp [eqTs]
 | t::ts=>by rw[eqTs,jMR t,jD5 ts]; rfl
end
mutual
theorem TAt.ext {H H':Hp}(e:Ext H H'):∀ {t:Tr}{v:V},TAt H t v->TAt H' t v
 | .non,_,h=>h
 | .bl _,_,h=>h
 | .int _,_,h=>h
 | .str _,_,h=>h
 | .lst ts,_,⟨a,vs,q,h,r⟩=>⟨a,vs,q,e _ _ h,TsAt.ext e r⟩
 | .tup ts,_,⟨a,vs,q,h,r⟩=>⟨a,vs,q,e _ _ h,TsAt.ext e r⟩
theorem TsAt.ext {H H':Hp}(e:Ext H H'):∀ {ts:List Tr}{vs:List V},TsAt H ts vs->TsAt H' ts vs
 | [],_,h=>h
 | t::ts,_,⟨v,r,q,h,s⟩=>⟨v,r,q,TAt.ext e h,TsAt.ext e s⟩
end
mutual
theorem TAt.inj {H:Hp} :∀ {t u:Tr}{v:V},TAt H t v->TAt H u v->t=u
 | .non,u,_,h,h'=>by
  cases (show _=V.non from h)
  cases u with
  | non=>rfl
  | bl b=>cases (show V.non=_ from h')
  | int b=>cases (show V.non=_ from h')
  | str b=>cases (show V.non=_ from h')
  | lst ts=>obtain⟨_,_,q,_⟩:=h'; cases q
  | tup ts=>obtain⟨_,_,q,_⟩:=h'; cases q
 | .bl b,u,_,h,h'=>by
  cases (show _=V.bl b from h)
  cases u with
  | non=>cases (show V.bl b=_ from h')
  | bl b=>cases (show V.bl _=V.bl b from h'); rfl
  | int i=>cases (show V.bl b=V.int i from h')
  | str i=>cases (show V.bl b=V.str i from h')
  | lst ts=>obtain⟨_,_,q,_⟩:=h'; cases q
  | tup ts=>obtain⟨_,_,q,_⟩:=h'; cases q
 | .int b,u,_,h,h'=>by
  cases (show _=V.int b from h)
  cases u with
  | non=>cases (show V.int b=_ from h')
  | bl i=>cases (show V.int b=V.bl i from h')
  | int b=>cases (show V.int _=V.int b from h'); rfl
  | str i=>cases (show V.int b=V.str i from h')
  | lst ts=>obtain⟨_,_,q,_⟩:=h'; cases q
  | tup ts=>obtain⟨_,_,q,_⟩:=h'; cases q
 | .str b,u,_,h,h'=>by
  cases (show _=V.str b from h)
  cases u with
  | non=>cases (show V.str b=_ from h')
  | bl i=>cases (show V.str b=V.bl i from h')
  | int i=>cases (show V.str b=V.int i from h')
  | str b=>cases (show V.str _=V.str b from h'); rfl
  | lst ts=>obtain⟨_,_,q,_⟩:=h'; cases q
  | tup ts=>obtain⟨_,_,q,_⟩:=h'; cases q
 | .lst ts,u,_,⟨a,vs,q,h,r⟩,h'=>by
  subst q
  cases u with
  | non=>cases (show V.ref a=_ from h')
  | bl i=>cases (show V.ref a=V.bl i from h')
  | int i=>cases (show V.ref a=V.int i from h')
  | str i=>cases (show V.ref a=V.str i from h')
  | lst us=>
   obtain⟨a',vs',q',h2,r'⟩:=h'
   cases q'
   rw[h] at h2
   cases h2
   rw[TsAt.inj r r']
  | tup us=>
   obtain⟨a',vs',q',h2,r'⟩:=h'
   cases q'
   rw[h] at h2
   cases h2
 | .tup ts,u,_,⟨a,vs,q,h,r⟩,h'=>by
  subst q
  cases u with
  | non=>cases (show V.ref a=_ from h')
  | bl i=>cases (show V.ref a=V.bl i from h')
  | int i=>cases (show V.ref a=V.int i from h')
  | str i=>cases (show V.ref a=V.str i from h')
  | lst us=>
   obtain⟨a',vs',q',h2,r'⟩:=h'
   cases q'
   rw[h] at h2
   cases h2
  | tup us=>
   obtain⟨a',vs',q',h2,r'⟩:=h'
   cases q'
   rw[h] at h2
   cases h2
   rw[TsAt.inj r r']
theorem TsAt.inj {H:Hp} :∀ {ts us:List Tr}{vs:List V},TsAt H ts vs->TsAt H us vs->ts=us
 | [],us,_,h,h'=>by
  cases (show _=[] from h)
  cases us with
  | nil=>rfl
  | cons u us=>obtain⟨_,_,q,_⟩:=h'; cases q
 | t::ts,us,_,⟨v,r,q,h,s⟩,h'=>by
  subst q
  cases us with
  | nil=>cases (show v::r=[] from h')
  | cons u us=>
   obtain⟨v',r',q,h2,s2⟩:=h'
   cases q
   rw[TAt.inj h h2,TsAt.inj s s2]
end
theorem TsAt.len {H:Hp} :∀ {ts:List Tr}{vs:List V},TsAt H ts vs->vs.length=ts.length
 | [],_,h=>by cases (show _=[] from h); rfl
 | t::ts,_,⟨v,r,q,_,s⟩=>by rw[q,bB,bB,TsAt.len s]
theorem TsAt.get {H:Hp} :∀ {ts:List Tr}{vs:List V},TsAt H ts vs->∀ {i:Nat}{v:V},vs[i]?=some v->∃ t,ts[i]?=some t/\TAt H t v
 | [],_,h,i,v,e=>by cases (show _=[] from h); cases e
 | t::ts,_,⟨v,r,q,h,s⟩,0,v',e=>by subst q; cases e; exact⟨t,rfl,h⟩
 | t::ts,_,⟨v,r,q,h,s⟩,i+1,v',e=>by subst q; exact TsAt.get s (i:=i) e
theorem jQ2 {ts:List Tr}{t:Tr}(h:t∈ts):dep t<=deps ts:=by
 induction ts with
 | nil=>cases h
 | cons a r ih=>
  rw[deps]
  rcases am.mp h with q | q
  ·subst q; omega
  ·have:=ih q; omega
section
variable {ad:List (Addr×Obj)}{σ:St}
end
section
variable {tg iter elt:Expr}{ifs:List Expr}{wi:TI}
end
section
variable {sc2:Scope}{cl2:List (Str×Addr)}{C2:Addr}{Nc2:List Str}{fp2:List Addr}{s2:Shared}{H2:Hp}
end
def jON:V->List V->Hp->VK->Prop:=fun x vs H Q=>∃ p xs y,x= .ref p/\vs=[y]/\H p=some (.lst xs)/\qQ y=true/\xs.all qQ=true/\Q (.int ((xs.countP fun z=>eqV z y:Nat):Int)) H
theorem jJX:MtM X "list.count" jON:=by
 intro ad s σ H x vs v us Q I rx rv h
 obtain⟨p,xs,y,rfl,rfl,hp,fy,fs,q⟩:=h
 cases rx
 obtain⟨u,rfl,ru⟩:=rv.one
 obtain⟨z,its,n,r,hl,e0⟩:=I.lstM hp
 refine cV F.slot_list_count ⟨_,e0,rfl⟩ F.entry_list_count (F.args_list_count_2 _ _) (SeqAt.list_countAt p its.toArray n none #[] u (eqU y)) ⟨e0,fun w hw=>jB0 ru fy r fs w (by simpa using hw),?_⟩
 refine⟨.int _,H,I.tok _,⟨s.toks,rfl⟩,?_⟩
 rw[show its.toArray.toList.countP (eqU y)=xs.countP (fun z=>eqV z y) from jDK r fs]
 exact q
def rAny (K:W.Frag):List V->Hp->VK->Prop:=fun xs H Q=>∃ (p:Addr) (bs:List Bool),xs=[.ref p]/\SqL K H p (bs.map V.bl)/\Q (.bl (bs.any id)) H
theorem jD8 (hc:X.calm=true):yR X (.builtin "any") (rAny X.K):=by
 intro ad s σ H xs us Q I r h
 obtain⟨p,bs,rfl,hq,q⟩:=h
 obtain⟨u,rfl,rx⟩:=r.one
 cases rx
 obtain⟨its,r',pl,hz⟩:=I.list hq
 have hlen:=r'.length
 rw[ag] at hlen
 refine call_any_walk (cg pl.isList ?_)
 have hne:p≠s.heap.objs.size:=by
  obtain⟨o,ho,_⟩:=pl.isList
  exact aF (ao ho)
 refine⟨s.heap.objs.size,_,_,_,_,_,fun i=>bs.getD i true,rfl,hG (by simpa using I.ok.hd hc) _ p hne its.toArray,⟨⟨_,ak _ rfl,rfl,rfl⟩,pl.isList.push _⟩,fun i v z Q' E' hP hQ'=>?_,fun h' tk hk=>?_⟩
 ·have hi:its[i]?=some v:=by simpa using hP
  have hb:i<bs.length:=by
   rw[hlen]
   exact(ay.mp hi).1
  obtain⟨u,hu,ru⟩:=r'.get (i:=i) (x:= .bl (bs[i])) (by simp [hb])
  rw[hi] at hu
  cases hu
  cases ru
  have e:bs.getD i true=bs[i]:=by simp [List.getD,hb]
  have hQ2:Q' (bs.getD i true) z:=hQ'
  rw[e] at hQ2
  exact af hQ2
 ·have e:(List.range its.toArray.size).any (fun i=>bs.getD i true)=bs.any id:=by
   rw[aA,<- hlen]
   rw[ck,bZ,bZ]
   constructor
   ·rintro ⟨i,hi,hb⟩
    have hi:=bj.mp hi
    exact⟨bs[i],bK hi,by simpa [List.getD,hi] using hb⟩
   ·rintro ⟨b,hb,hq⟩
    obtain⟨i,hi,rfl⟩:=cL hb
    exact⟨i,bj.mpr hi,by simpa [List.getD,hi] using hq⟩
  rw[e]
  exact⟨.bl _,H,I.kept (t':=tk) fun b o e=>hk b o (by
   intro z
   have z:b=s.heap.objs.size:=by simpa using z
   exact absurd (ao e) (by rw[z]; exact bG _)) (ae _ e),rfl,q⟩
theorem jF0:yR X (.builtin "sorted") (fun xs H Q=>∃ (p:Addr) (ks:List Int),xs=[.ref p]/\SqL X.K H p (ks.map V.int)/\ks.length<64/\
  ∀ (l:Addr) (ns:List Int),H l=none->ns.Pairwise (· <= ·)->ns.Perm ks->Q (.ref l) (upd H l (.lst (ns.map V.int)))):=by
 intro ad s σ H xs us Q I r h
 obtain⟨p,ks,rfl,hp,hn,q⟩:=h
 obtain⟨u,rfl,rx⟩:=r.one
 cases rx
 obtain⟨its,r',pl,hz⟩:=I.list hp
 have hlen:=r'.length
 rw[ag] at hlen
 refine sorted_ints pl.isList (jAP r') (by omega) fun out ns' a1 a2 a3=>?_
 obtain⟨e,he⟩:=sortedAll_at s.heap its out
 have hz:(ns'.map V.int).length<=sizeLine:=by
  rw[ag,a2.length_eq,cA]
  omega
 have I2:Inv X ad σ (upd H (s.heap.objs.size+1) (.lst (ns'.map V.int))) { s with heap:=sortedAll s.heap its out} :=I.laid (t':=s.toks) (fun b o e=>sortedAll_old e) (cR _) ⟨hz,out.toList,e,jAA a1,by rw[dB]; exact he⟩
 exact⟨.ref _,_,I2,rfl,q _ ns' (I.hok.fresh (cR _)) a3 a2⟩
theorem jCC {prog:Program}{w:World}{A:Around}{E:Value->Shared->Prop}{s:Shared}{sl:Addr}{vs:Value}{n:Nat}{Q:Int×Int×Nat->Shared->Prop}(hs:s.heap.IsSliceOf sl .none .none vs)(ps:IsPart vs (some (-1)))
  (h:Q (((n:Int) - 1), -1,n) s):wpAny (model prog w) A (Builtin.Slice.sliceApplied (.ref sl) (pure (n:Int))) Q E s:=by
 obtain⟨os,hos,hcs,hds⟩:=id hs
 unfold Builtin.Slice.sliceApplied Builtin.Slice.sliceFields
 refine ac (ac (aR hos hds (x:= .none) rfl (ac (aR hos hds (x:= .none) rfl (ac (aR hos hds (x:=vs) rfl (af ?_)))))))
 refine ac (HT.slicePart_ ps ?_)
 show wpAny _ _ (if ((-1:Int)==0)=true then _ else _) _ _ s
 rw[av (by decide)]
 refine ac (fF (ac (fF (ac (af ?_)))))
 show wpAny _ _ (pure (((n:Int) - 1),(-1:Int),Builtin.Slice.slicePlaces ((n:Int) - 1) (-1) (-1))) _ _ s
 have e:Builtin.Slice.slicePlaces ((n:Int) - 1) (-1) (-1)=n:=by
  unfold Builtin.Slice.slicePlaces
  rw[av (by decide)]
  have:(-(-1:Int))=1:=rfl
  rw[this]
  split <;> omega
 rw[e]
 exact af h
theorem jB4 {α β:Type}{f:α->Option β}{g:α->β} :∀ {l:List α},(∀ k∈l,f k=some (g k))->l.filterMap f=l.map g
 | [],_=>rfl
 | a::r,h=>by
  rw[dH,h a aJ,be,jB4 fun k hk=>h k (aI _ hk)]
theorem jLJ (xs:List Value):((List.range xs.length).filterMap fun (k:Nat)=>xs.toArray[(((xs.length:Int) - 1)+(k:Int)*(-1)).toNat]?)=xs.reverse:=by
 rw[jB4 (g:=fun k=>xs.reverse.getD k .none) fun k hk=>?_]
 ·apply List.ext_getElem
  ·simp
  ·intro i h1 h2
   have h3:i<xs.length:=by simpa using h2
   simp [List.getD,h3]
 ·have hk:=bj.mp hk
  have e1:(((xs.length:Int) - 1)+(k:Int)*(-1)).toNat=xs.length - 1 - k:=by omega
  rw[e1]
  have h1:xs.length - 1 - k<xs.length:=by omega
  simp [List.getD,hk,h1]
theorem jBY {prog:Program}{w:World}{A:Around}{E:Value->Shared->Prop}{s:Shared}{t sl:Addr}{its:List Value}{n:Nat}{vs:Value}{Q:Value->Shared->Prop}
  (e0:s.heap.get? t=some { cls:= .type "tuple",data:= .seq its.toArray n}) (hs:s.heap.IsSliceOf sl .none .none vs) (ps:IsPart vs (some (-1))) (hz:its.length<=sizeLine)
  (h:Q (.ref s.heap.objs.size) { s with heap:=s.heap.push { cls:= .type "tuple",data:= .seq its.reverse.toArray}}):wpAny (model prog w) A (getItem (.ref t) (.ref sl)) Q E s:=by
 have ht:IsTup s.heap t its.toArray:=⟨_,e0,rfl,n,rfl⟩
 obtain⟨os,hos,hcs,hds⟩:=id hs
 have hTs:s.TypeIs (.ref sl) "slice" :=⟨os,hos,hcs⟩
 have htake:sizeOk (.seq its.reverse.toArray):=by
  show its.reverse.toArray.size<=sizeLine
  rw[aA,dI]
  exact hz
 unfold getItem
 try with_reducible refine aO ?_
 first | refine ac (af ?_) | skip
 refine ac (fY ht.typeIs (by decide) (ac (ba (name:=Str.ofString "__getitem__") ht.typeIs aS
  (bf aS ht.typeIs fj (?_:wpAny (model prog w) _ (Builtin.Tuple.tupleItemsOf (.ref t) >>= _) _ _ s) (fH _ _)))))
 refine ac (tupleItemsOf_ ht (ac (cU hTs ?_)))
 rw[aB (by decide)]
 refine ac (jCC (n:=its.toArray.size) hs ps ?_)
 have hno:¬ ((((its.toArray.size:Int) - 1)==0&&(-1:Int)==1&&its.toArray.size==its.toArray.size)=true):=by
  intro q
  rw[aV,aV] at q
  exact absurd q.1.2 (by decide)
 show wpAny _ _ (if (((its.toArray.size:Int) - 1)==0&&(-1:Int)==1&&its.toArray.size==its.toArray.size)=true then _ else _) _ _ s
 rw[av hno,aA,jLJ]
 first
  | exact ac (m:=Builtin.Tuple.tupleExact _) (aW (af ⟨_,rfl,af h⟩) htake)
  | exact ac (m:=Builtin.Tuple.tupleExact _) (aW (ac (af (af ⟨_,rfl,af h⟩))) htake)
  | exact ac (ac (m:=Builtin.Tuple.tupleExact _) (aW (af (af ⟨_,rfl,af h⟩)) htake))
  | exact ac (ac (m:=Builtin.Tuple.tupleExact _) (aW (af ⟨_,rfl,af h⟩) htake))
def tRev (te:TE)(ts:TO):TE:=fun σ H Q=>te σ H fun x H1=>ts σ H1 fun o H2=>o=some (-1)/\∃ a xs,x= .ref a/\H2 a=some (.tup xs)/\TupR H2 xs.reverse Q
theorem jRY {e st:Expr}{te:TE}{ts:TO}{p2 pos:Pos}(he:JE X e te)(hst:JO X (some st) ts):JE X (.Subscript e (.Slice none none (some st) p2) pos) (tRev te ts):=⟨by
 intro ad s σ H Q I h
 refine Subscript_ (ir (he.h ad s σ H _ I h) fun v s1 ⟨x,H1,I1,r1,q1⟩=>?_)
 refine wpAny_Slice ?_
 rw[evalPart_none]
 refine af (af (ir (hst.h ad s1 σ H1 _ I1 q1) fun vst s2 ⟨o,H2,I2,ps,eo,a,xs,ex,hx,q⟩=>?_))
 subst eo
 subst ex
 cases r1
 have I4:Inv X ad σ H2 { s2 with heap:=s2.heap.push { cls:= .type "slice",data:= .fields #[.none, .none,vst]}} :=I2.kept (t':=s2.toks) fun b ob q=>ae _ q
 obtain⟨hz,its,r,n,e0⟩:=I4.hok a _ hx
 have hlen:=r.length
 show wpAny (model X.prog X.w) X.A (subscriptTail e (.Slice none none (some st) p2) (.ref a) (.ref s2.heap.objs.size)) (EP X ad σ Q) X.xe { s2 with heap:=s2.heap.push { cls:= .type "slice",data:= .fields #[.none, .none,vst]}}
 refine tail_any (ops:=[.ref a, .ref s2.heap.objs.size]) ⟨_,e0,rfl⟩ aS.lookup ?_ (by with_unfolding_all rfl)
 refine jBY e0 (Heap.IsSliceOf.new ..) ps (by omega) ?_
 refine⟨.ref _,_,I4.laid (t':=s2.toks) (o:= .tup xs.reverse) (fun b ob q=>ae _ q) (aq _) ⟨by rw[dI]; exact hz,its.reverse,r.reverse,TupO.new _ _⟩,rfl,q.new (I4.hok.fresh (aq _))⟩⟩
theorem jMD {c:Expr}{body:List Stmt}{tc:TT}{tb:TS}{pos:Pos}(hp:PassesOwn (model X.prog X.w) X.A X.env X.xe)(hc:JT X c tc)(hb:JSs X body tb):JS X (.While c body [] pos) (jNB tc tb):=⟨jLK hp hc.h hb.h⟩
theorem jNR {op:CmpOp}{a b:Expr}{pos:Pos} :behindInMarks op (.Subscript a b pos)=false:=by cases op <;> rfl
theorem jPX {o e:Expr}{es:List Expr}{to:TE}{t:TA}{cpos apos:Pos}{id:String}{T:String}{name:Str}{r}(pa:PlainAttrs T)(slot:Slot T name id)(hty:typeOf (.builtin id)=pure (.type "method_descriptor"))(hm:MtR (blk X sc cl C Nc fp s H) id r)(ho:JE (blk X sc cl C Nc fp s H) o to)(ha:JA (blk X sc cl C Nc fp s H) (e::es) t)
  (hs:starEach (e::es) (blk X sc cl C Nc fp s H).env=(false,eval e (blk X sc cl C Nc fp s H).env)::starEach es (blk X sc cl C Nc fp s H).env)
  (hbase:attributeBase o name (blk X sc cl C Nc fp s H).env (eval o (blk X sc cl C Nc fp s H).env)=eval o (blk X sc cl C Nc fp s H).env:=by rfl)
  (hfew:((backTo cpos (starEach (e::es) (blk X sc cl C Nc fp s H).env)).all (fun x=>!x.1)&&(backToKw cpos (keywordEach [] (blk X sc cl C Nc fp s H).env)).all (fun x=>x.1.isSome)
   &&decide ((e::es).length+([]:List Keyword).length+(if ([]:List Keyword).isEmpty then 0 else 1)<30))=true:=by rfl)
  (hline:(apos.endLine==cpos.line)=true:=by rfl) (hplain:(backTo cpos (starEach es (blk X sc cl C Nc fp s H).env)).any (·.1)=false:=by rfl):
  JE (blk X sc cl C Nc fp s H) (.Call (.Attribute o name apos) (e::es) [] cpos) (tBM X.K T r to t):=je_bm pa slot hty hm ho ha hs hbase hfew hline hplain
end L2
namespace L2
open PySem
theorem jOJ {es:List Expr}{env:Env}{pos:Pos}{ks:List (Option Expr)}{vs:List Expr} :starEach (.Dict ks vs pos::es) env=(false,eval (.Dict ks vs pos) env)::starEach es env:=rfl
def LstR (H:Hp)(xs:List V)(Q:VK):Prop:=∀ r H',H' r=some (.lst xs)->Ext H H'->H r=none->Q (.ref r) H'
theorem LstR.new {H:Hp}{xs:List V}{Q:VK}(q:LstR H xs Q){p:Addr}(hp:H p=none):Q (.ref p) (upd H p (.lst xs)):=q p _ jA ((Ext.refl H).new hp _) hp
def tTupU (t:TA):TE:=fun σ H Q=>t σ H fun xs H1=>xs.length<=sizeLine/\TupR H1 xs Q
def tLstU (t:TA):TE:=fun σ H Q=>t σ H fun xs H1=>xs.length<=sizeLine/\LstR H1 xs Q
def jQJ:TE:=fun _ H Q=>∀ r H',H' r=some (.dK [])->Ext H H'->Q (.ref r) H'
section
variable {X:Cx}{es:List Expr}{t:TA}{pos:Pos}
theorem jM {x1}(h:JA X es t):JE X (.Tuple es x1 pos) (tTupU t):=⟨fun ad s σ H Q I hq=>by
 refine wpAny_Tuple_spliced (ir (h.h pos ad s σ H _ I hq) fun us s1 ⟨xs,H1,I1,r,z,q⟩=>⟨by rw[<- r.length]; exact z,?_⟩)
 have hf:H1 s1.heap.objs.size=none:=I1.hok.fresh (aq _)
 exact⟨.ref s1.heap.objs.size,upd H1 s1.heap.objs.size (.tup xs),I1.laid (t':=s1.toks) (fun b u e=>ae _ e) (aq _) ⟨z,us,r,TupO.new _ _⟩,rfl,q.new hf⟩⟩
theorem kN (h:JA X es t):JE X (.List es pos) (tLstU t):=⟨fun ad s σ H Q I hq=>by
 refine wpAny_List_spliced (ir (h.h pos ad s σ H _ I hq) fun us s1 ⟨xs,H1,I1,r,z,q⟩=>⟨by rw[<- r.length]; exact z,?_⟩)
 have hf:H1 s1.heap.objs.size=none:=I1.hok.fresh (aq _)
 exact⟨.ref s1.heap.objs.size,upd H1 s1.heap.objs.size (.lst xs),I1.laid (t':=s1.toks) (fun b u e=>ae _ e) (aq _) ⟨z,us,0,r,ak _ rfl⟩,rfl,q.new hf⟩⟩
theorem jMH:JE X (.Dict [] [] pos) jQJ:=⟨fun ad s σ H Q I h=>je_dict0.h ad s σ H Q I fun p hp=>h p _ jA ((Ext.refl H).new hp _)⟩
theorem jI9:yR X (.type "list") (fun xs H Q=>∃ p ys,xs=[.ref p]/\H p=some (.tup ys)/\LstR H ys Q):=by
 intro ad s σ H xs us Q I r h
 obtain⟨p,ys,rfl,hp,q⟩:=h
 exact jF1 ad s σ H _ us Q I r ⟨p,ys,rfl, .inr (SqT.of hp),fun l hl=>q.new hl⟩
theorem jLY:OpR X (binaryOp .Add) (fun x y H Q=>∃ l b xs zs,x= .ref l/\y= .ref b/\H l=some (.lst xs)/\H b=some (.lst zs)/\xs.length+zs.length<=sizeLine/\LstR H (xs++zs) Q):=by
 intro ad s σ H x y v u Q I rx ry h
 obtain⟨l,b,xs,zs,rfl,rfl,h1,h2,h3,q⟩:=h
 exact jRH ad s σ H _ _ v u Q I rx ry ⟨l,b,xs,zs,rfl,rfl,h1,h2,h3,fun p hp=>q.new hp⟩
end
end L2
namespace L2
open PySem PySem.Spec PyProof.Rows
variable {X:Cx}
theorem jFV {prog:Program}{w:World}{A:Around}{E:Value->Shared->Prop}{s:Shared}{l:Addr}{vs:List Value}{n:Nat}{Q:List Value->Shared->Prop}(ho:s.heap.get? l=some { cls:= .type "tuple",data:= .seq vs.toArray n})
  (h:Q vs { s with heap:=(s.heap.push (seqObj "list" #[] 0)).update s.heap.objs.size (Obj.mapSeq (· ++vs.toArray))}) (hsz:vs.length<=sizeLine):
  wpAny (model prog w) A (collect (.ref l)) Q E s:=by
 unfold collect
 refine ac (gK (bI entry_proto_collect' ?_))
 show wpAny _ _ (do again (.builtin "list.__iadd__" ⟨[<- newList [], .ref l],[]⟩)) _ _ s
 refine ac (wpAny_newList (af ⟨Code.quiet_builtin _ (by decide+kernel),bI entry_list_iadd' ?_⟩))
 show wpAny _ _ (Builtin.List.listExtendWith (.ref s.heap.objs.size) (.ref l) (.ref s.heap.objs.size)) _ _ { s with heap:=s.heap.push (seqObj "list" #[] 0)}
 unfold Builtin.List.listExtendWith
 have ho':(s.heap.push (seqObj "list" #[] 0)).get? l=some { cls:= .type "tuple",data:= .seq vs.toArray n} :=ae _ ho
 refine ac (cU (T:= "tuple") ⟨_,ho',rfl⟩ ?_)
 have ht:(Value.type "tuple" ==Value.type "tuple")=true:=by rfl
 rw[aB (by rw[ht,ii])]
 refine ac (listItems_at ho' rfl ?_)
 refine ac (listItems_at (xs:=#[]) (n:=0) (ak _ rfl) rfl ?_)
 rw[av (by simp)]
 refine ac (listUpdate_at (xs:=#[]) (n:=0) (ak _ rfl) rfl ?_ (bi _) (by show (#[]++vs.toArray).size<=sizeLine+1; simp only [Array.size_append,aA,List.length_nil]; omega))
 refine af ?_
 show wpAny (model prog w) A (do
   let o <- load s.heap.objs.size
   match o.data with
   | .seq xs _=>pure xs.toList
   | _=>unsupported "internal:collect") Q E { s with heap:=(s.heap.push (seqObj "list" #[] 0)).update s.heap.objs.size (Obj.mapSeq (· ++vs.toArray))}
 refine ac (gu (get?_update_seq (ak _ rfl) _) ?_)
 show wpAny _ _ (pure ((#[]:Array Value)++vs.toArray).toList) Q E _
 rw[show ((#[]:Array Value)++vs.toArray).toList=vs by simp]
 exact af h
theorem jHK {prog:Program}{w:World}{A:Around}{E:Value->Shared->Prop}{s:Shared}{l:Addr}{vs:List Value}{ns:List Int}{n:Nat}{Q:Value->Shared->Prop}(ho:s.heap.get? l=some { cls:= .type "tuple",data:= .seq vs.toArray n})(hI:IntsAre vs ns)(h64:vs.length<64)
  (h:∀ (out:Array Value) (ns':List Int),IntsAre out.toList ns'->ns'.Perm ns->ns'.Pairwise (· <= ·)->Q (.ref (s.heap.objs.size+1)) { s with heap:=sortedAll s.heap vs out}):
  wpAny (model prog w) A (call (.builtin "sorted") [.ref l]) Q E s:=by
 refine fV kind_sorted plain_sorted entry_sorted (args_sorted1 _) ?_
 unfold Builtin.«sorted»
 refine ac (m:=checkCount "sorted" 1 1 _) (af ?_)
 refine ac (jFV ho ?_ (by rw[cA]; omega))
 refine ac (wpAny_newList ?_ (by rw[cA]; omega))
 have hsz:((s.heap.push (seqObj "list" #[] 0)).update s.heap.objs.size (Obj.mapSeq (· ++vs.toArray))).objs.size=s.heap.objs.size+1:=by
  rw[eQ,size_push']
 have hoL:(((s.heap.push (seqObj "list" #[] 0)).update s.heap.objs.size (Obj.mapSeq (· ++vs.toArray))).push (seqObj "list" vs.toArray 0)).get? (s.heap.objs.size+1)=some (seqObj "list" vs.toArray 0):=by
  rw[<- hsz]; exact ak _ rfl
 show wpAny _ _ _ _ _ { s with heap:=((s.heap.push (seqObj "list" #[] 0)).update s.heap.objs.size (Obj.mapSeq (· ++vs.toArray))).push (seqObj "list" vs.toArray 0)}
 rw[hsz]
 refine ac (aO (bf slot_list_sort ⟨_,hoL,rfl⟩ entry_list_sort (list_sort_tree hoL hI h64 fun out ns' a1 a2 a3=>⟨_,rfl,?_⟩) (args_list_sort _)))
 exact af ⟨_,rfl,h out ns' a1 a2 a3⟩
theorem jEZ:yR X (.builtin "sorted") (fun xs H Q=>∃ (p:Addr) (ks:List Int),xs=[.ref p]/\H p=some (.tup (ks.map V.int))/\ks.length<64/\
  ∀ (l:Addr) (ns:List Int),H l=none->ns.Pairwise (· <= ·)->ns.Perm ks->Q (.ref l) (upd H l (.lst (ns.map V.int)))):=by
 intro ad s σ H xs us Q I r h
 obtain⟨p,ks,rfl,hp,hn,q⟩:=h
 obtain⟨u,rfl,rx⟩:=r.one
 cases rx
 obtain⟨_,its,r',n,e0⟩:=I.hok p _ hp
 have hlen:=r'.length
 rw[ag] at hlen
 refine jHK e0 (jAP r') (by omega) fun out ns' a1 a2 a3=>?_
 obtain⟨e,he⟩:=sortedAll_at s.heap its out
 have hz:(ns'.map V.int).length<=sizeLine:=by
  rw[ag,a2.length_eq,cA]
  omega
 have I2:Inv X ad σ (upd H (s.heap.objs.size+1) (.lst (ns'.map V.int))) { s with heap:=sortedAll s.heap its out} :=I.laid (t':=s.toks) (fun b o e=>sortedAll_old e) (cR _) ⟨hz,out.toList,e,jAA a1,by rw[dB]; exact he⟩
 exact⟨.ref _,_,I2,rfl,q _ ns' (I.hok.fresh (cR _)) a3 a2⟩
section
variable {sc:Scope}{cl:List (Str×Addr)}{C:Addr}{Nc:List Str}{fp:List Addr}{s:Shared}{H:Hp}
end
end L2
namespace L2
open PySem
variable {X:Cx}
section
variable {tg iter elt:Expr}{ifs:List Expr}{sc:Scope}{pos:Pos}{wi:TI}{g:TG}{tt:TT}{te:TE}{m:List (Option Nat)}{Nc:List Str}
theorem jN1 (hc:X.calm=true)(hi:PI X tg iter wi)(hkind:sc.kind= .function)(hcell:∀ y∈sc.names,y.2≠ .cell)(hnames:∀ y∈sc.names,y.2= .local->sc.names.lookup y.1=some .local)
  (hfree:∀ y∈sc.names,y.2= .free->X.env.scope.names.lookup y.1=some .cell\/X.env.scope.names.lookup y.1=some .free) (hm:jB6 X sc Nc m)
  (hg:∀ cl C fp s H,PG (blk X sc cl C Nc fp s H) tg g) (ht:∀ cl C fp s H,PTs (blk X sc cl C Nc fp s H) ifs tt) (he:∀ cl C fp s H,PE (blk X sc cl C Nc fp s H) elt te)
  (hs:∀ x,foldedSetIterable iter X.env x=pure x) {fpos:Pos}{use:Option (Value->Sem Unit)}{R:Value->Shared->Prop}{ad:List (Addr×Obj)}{s:Shared}{σ:St}{H:Hp}{Q:VK}(I:Inv X ad σ H s) (h:tComp m wi g tt te σ H Q)
  (fin:∀ (D C:Addr) (H5:Hp) (z1:Shared) (r:Flow),(∃ mm,z1.heap.Ns C mm)->FpOk X ad H5 C->(∀ h',Heap.SameBut C z1.heap h'->Inv X ad σ H5 { z1 with heap:=h'})->Q (.ref D) H5->compPost (model X.prog X.w) X.A X.xe use R (.ref D) C (.ok r) z1):
  wpAny (model X.prog X.w) X.A (comprehension (.ListComp elt [⟨tg,iter,ifs,0⟩] sc pos) sc X.env fpos (newList []) false (eval iter X.env) use) R X.xe s:=
 jE5 (tf:=fun _=>te) hc hi hkind hcell hnames hfree hm hg ht (fun cl C fp s H _ _ _ _=>he cl C fp s H) hs I h fin
theorem jOU {i:Nat}{x:Str}{pos' spos:Pos}(hN:X.N.Nodup)(hi':X.N[i]?=some x)(hx:Loc X.env.scope x)(hf:X.fn x=true\/X.env.scope.names.lookup x=some .local)(hsw:swapsWith (.ListComp elt [⟨tg,iter,ifs,0⟩] sc pos) (some (.Name x pos')) spos.line X.env=pure true)
  (hc:X.calm=true) (hi:PI X tg iter wi) (hkind:sc.kind= .function) (hcell:∀ y∈sc.names,y.2≠ .cell) (hnames:∀ y∈sc.names,y.2= .local->sc.names.lookup y.1=some .local)
  (hfree:∀ y∈sc.names,y.2= .free->X.env.scope.names.lookup y.1=some .cell\/X.env.scope.names.lookup y.1=some .free) (hm:jB6 X sc Nc m)
  (hg:∀ cl C fp s H,PG (blk X sc cl C Nc fp s H) tg g) (ht:∀ cl C fp s H,PTs (blk X sc cl C Nc fp s H) ifs tt) (he:∀ cl C fp s H,PE (blk X sc cl C Nc fp s H) elt te)
  (hs:∀ x,foldedSetIterable iter X.env x=pure x):PS X (.Assign [.Name x pos'] (.ListComp elt [⟨tg,iter,ifs,0⟩] sc pos) spos) (tAsg (tComp m wi g tt te) (kX i)):=by
 intro ad s σ H D I h
 rw[exec_Assign_Name_used _ _ _ _ hsw]
 refine ac (df (ac ?_))
 show wpAny _ _ (do let _ <- comprehension (.ListComp elt [⟨tg,iter,ifs,0⟩] sc pos) sc X.env _ (newList []) false (eval iter X.env) (some (assign (.Name x pos') X.env))) _ _ _
 refine ac (aZ (jN1 (R:=fun _ s'=>SP X ad D .next s') hc hi hkind hcell hnames hfree hm hg ht he hs ⟨I.ok,I.os,I.bare,I.base,I.loc,I.cell,I.free,I.freeC,I.pin,I.hok,I.len⟩ h ?_) (fun _ s' hq=>af (af hq)) fun _ _ e=>e)
 intro D' C H5 z1 r ⟨mm,hn⟩ fC sb q
 have I1:=sb _ (fZ C z1.heap)
 refine wpAny_assign_Name (jED (v:= .ref D') I1 hN hi' hx rfl (fun s2 I2 ⟨a,sa,ha⟩=>?_) hf)
 obtain⟨f0,f1,f2,f3,f4,f5⟩:=fC
 have hCa:C≠a:=by
  rcases ha with rfl | ha
  ·exact f1
  ·exact(f4 _ _ ha).symm
 refine⟨mm,hn.sameBut sa hCa,fun h' sb2=>⟨_,H5,?_,q⟩⟩
 refine I2.call' (s':= { s2 with heap:=h'}) (ch:=[C]) rfl ?_ (I2.hok.sameBut sb2 f0) I2.bare (fun b hb=>?_)
 ·have ne:∀ {b:Addr},b∉ [C]->b≠C:=fun h e=>h (by rw[e]; exact aG.mpr rfl)
  refine⟨fun b o e n hf hx=>(sb2.2 b (ne hx)).trans e,fun b o e n hf hx=>⟨o.slots,(sb2.2 b (ne hx)).trans e⟩,fun b o e n hx=>n,fun b o e hx=>⟨o,(sb2.2 b (ne hx)).trans e⟩,fun b xs e=>e,fun b o u e=>e,fun b ps e=>⟨#[],by rw[Array.append_empty]; exact e⟩⟩
 ·cases aG.mp hb
  exact⟨f3,f1,f4,f5⟩
end
structure SwC (e:Expr)(x:Str)(pos' spos:Pos)(X:Cx):Prop where
 h:swapsWith e (some (.Name x pos')) spos.line X.env=pure true
theorem jPT {i:Nat}{x:Str}{pos' spos pos:Pos}{tg iter elt:Expr}{ifs:List Expr}{sc:Scope}{wi:TI}{g:TG}{tt:TT}{te:TE}{m:List (Option Nat)}{Nc:List Str}(hN:X.N.Nodup)(hi':X.N[i]?=some x)(hx:Loc1 X x)(hsw:SwC (.ListComp elt [⟨tg,iter,ifs,0⟩] sc pos) x pos' spos X)
  (hc:X.calm=true) (hi:JI X tg iter wi) (hkind:sc.kind= .function) (hcell:∀ y∈sc.names,y.2≠ .cell) (hnames:∀ y∈sc.names,y.2= .local->sc.names.lookup y.1=some .local)
  (hfree:∀ y∈sc.names,y.2= .free->X.env.scope.names.lookup y.1=some .cell\/X.env.scope.names.lookup y.1=some .free) (hm:jB6 X sc Nc m)
  (hg:∀ cl C fp s H,JG (blk X sc cl C Nc fp s H) tg g) (ht:∀ cl C fp s H,JTs (blk X sc cl C Nc fp s H) ifs tt) (he:∀ cl C fp s H,JE (blk X sc cl C Nc fp s H) elt te)
  (hs:FoOk iter):JS X (.Assign [.Name x pos'] (.ListComp elt [⟨tg,iter,ifs,0⟩] sc pos) spos) (tAsg (tComp m wi g tt te) (kX i)):=
 ⟨jOU hN hi' hx.a hx.b hsw.h hc hi.h hkind hcell hnames hfree hm (fun cl C fp s H=>(hg cl C fp s H).h) (fun cl C fp s H=>(ht cl C fp s H).h) (fun cl C fp s H=>(he cl C fp s H).h) (hs.h _)⟩
end L2
namespace L2
open PySem PySem.Spec PyProof.Rows
variable {prog:Program}{w:World}{A:Around}{E:Value->Shared->Prop}
theorem jH5 {it l:Addr}{xs:Array Value}(ne:l≠it):∀ (n i:Nat) (s:Shared) (Q:List Value->Shared->Prop),s.heap.IsListIter it l i->s.heap.IsList l xs->i+n<=xs.size->
  (∀ h',h'.IsListIter it l (i+n)->Heap.SameBut it s.heap h'->Q ((xs.toList.drop i).take n) { s with heap:=h'})->wpAny (model prog w) A (draw (.ref it) n) Q E s
 | 0,i,s,Q,g,_,_,k=>by
  refine(?_:wpAny _ _ (pure []) Q E s)
  exact af (by simpa using k s.heap g (fZ ..))
 | n+1,i,s,Q,g,o,le,k=>by
  have lt:i<xs.size:=by omega
  refine(?_:wpAny _ _ (pyNext (.ref it) >>= _) Q E s)
  refine ac (wpAny_pyNext_list_item g o (x:=xs[i]) (by simp [lt]) fun p1 g1 q1=>?_)
  refine ac (aO (jH5 ne n (i+1) _ _ g1 (o.extBut q1.extBut ne) (by omega) fun p2 g2 q2=>af ?_))
  have hd:xs.toList.drop i=xs[i]::xs.toList.drop (i+1):=by simp [fQ,lt]
  have:=k p2 (by rw[show i+(n+1)=i+1+n by omega]; exact g2) (q1.trans q2)
  rw[hd,gR] at this
  exact this
theorem jCK {s:Shared}{l:Addr}{xs:Array Value}{Q:List Value->Shared->Prop}(hh:A.handled=none)(o:s.heap.IsList l xs)
  (k:∀ h',Heap.ExtBut s.heap.objs.size s.heap h'->Q xs.toList { s with heap:=h'}):wpAny (model prog w) A (unpackItems (.ref l) xs.size none) Q E s:=by
 have ne:l≠s.heap.objs.size:=by obtain⟨u,hu,_⟩:=o; exact aF (ao hu)
 unfold unpackItems
 refine ac (by
  unfold notIterableAtAll
  refine ac (gE o.typeIs slot_list_iter.lookup (af ?_))
  simp only [hU,if_false]
  refine ac (aO (cg o ?_))
  refine ac (aO (jH5 ne xs.size 0 _ _ ⟨_,ak _ rfl,rfl,rfl⟩ (o.push _) (by omega) fun p1 g1 q1=>?_))
  have hall:List.take xs.size (List.drop 0 xs.toList)=xs.toList:=by rw[List.drop_zero]; exact bx (by simp)
  rw[hall,av (by simp)]
  have o1:p1.IsList l xs:=(o.push _).extBut q1.extBut ne
  refine ac (aO (wpAny_pyNext_list_end hh g1 o1 (by simp) fun p2 e2=>?_))
  simp only [Option.isSome_none,hU,if_false]
  exact af (k p2 fun b u hb e=>e2 b u hb (q1.extBut b u hb (ae _ e))))
variable {X:Cx}
def gLst (K:W.Frag)(n:Nat)(t:TGs):TG:=fun v σ H Q=>∃ a xs,v= .ref a/\SqL K H a xs/\xs.length=n/\t xs σ H Q
theorem jR4 {es:List Expr}{k:Nat}{t:TGs}{n:Nat}{pos:Pos}(hc:X.calm=true)(h:PGs X es t)
  (hn:(assignEach es X.env).length=n:=by rfl) (hst:(assignEach es X.env).findIdx? (·.1)=none:=by rfl):PG X (.Tuple es k pos) (gLst X.K n t):=by
 intro ad s σ H v u Q I r hw
 obtain⟨a,xs,e1,hq,hl,hw⟩:=hw
 subst e1
 cases r
 obtain⟨its,rv,ht,hz⟩:=I.list hq
 rw[assign_Tuple]
 refine ac (df ?_)
 unfold unpack
 rw[hn,hst,show n=its.toArray.size by rw[aA,<- rv.length,hl]]
 refine ac (aO (jCK (I.ok.hd hc) ht.isList fun h' hx=>?_))
 have I1:Inv X ad σ H { s with heap:=h'} :=I.kept (t':=s.toks) fun b o e=>hx b o (aF (ao e)) e
 exact h ad _ σ H xs _ Q I1 (by simpa using rv) hw
theorem jKB {P:Program}{w:World}{K:W.Frag}{mg:Str->Option Value}{base:Heap}{N:List Str}{qual:Str}{sc:Scope}{f:Addr}{cdv:Value}{A:Around}{outer:List Env}{s:Shared}{H:Hp}{E:XK}{x y:Str}{p1 p2 pos:Pos}{k i j:Nat}(hN:N.Nodup)(hi:N[i]?=some x)(hj:N[j]?=some y)(hx:sc.names.lookup x=some .local)(hy:sc.names.lookup y=some .local):
  JG (cxOf CX0 P w K mg base N qual sc f cdv A outer s H E).nox (.Tuple [.Name x p1, .Name y p2] k pos) (gLst K 2 (qP (kX i) (qP (kX j) gNil))):=
 ⟨jR4 (X:=(cxOf CX0 P w K mg base N qual sc f cdv A outer s H E).nox) rfl (yO (kB hN hi (loc_l hx)) (yO (kB hN hj (loc_l hy)) jCZ yY) yY).h⟩
variable {s:Shared}
structure NoteX (fs R:List Addr)(h h':Heap):Prop where
 keep:∀ b o,h.get? b=some o->b∉fs->b∉R->h'.get? b=some o
 slot:∀ b o,h.get? b=some o->b∉R->∃ sl,h'.get? b=some { o with slots:=sl}
 size:h.objs.size<=h'.objs.size
def ExcX (h:Heap)(x C T:Addr):Prop:=∃ vs oT ts,h.get? x=some { cls:= .ref C,data:= .fields vs} /\vs.size=6/\vs[1]?=some (.ref T)/\vs[2]?=some .none/\T≠x/\h.get? T=some oT/\oT.data= .fields ts/\ts[3]?=some .none
theorem jH4 {env:Env}{outer:List Env}{L x C:Addr}{base:Heap}{vs:Array Value}{head:Value}{had:Bool}{Q:Unit->Shared->Prop}(hfr:A.frames=some (env::outer))(hl:s.heap.FunFrames base (env::outer))(hf:env.frame=some L)
  (hx:s.heap.get? x=some { cls:= .ref C,data:= .fields vs}) (v6:vs.size=6) (v2:vs[2]?=some .none)
  (h:∀ h' T,NoteX (frs (env::outer)) [x] s.heap h'->ExcX h' x C T->s.heap.objs.size<=T->Q () { s with heap:=h'}):
  wpAny (model prog w) A (do let a <- frameOf env; let pl <- entryPlaceOf L had; let b <- EntryCells.newEntry head a .none (rawInt L) .none pl; setField (.ref x) 1 b) (fun _ s'=>wpAny (model prog w) A (setFlight (.ref x) none) Q E s') E s:=by
 have xf:x∉frs (env::outer):=fun hm=>by
  obtain⟨_,o,ho,hn⟩:=hl.mem hm
  rw[hx] at ho
  cases ho
  exact hn _ rfl
 refine ac (wpAny_frameOf_fun hfr hl hf fun h1 so=>ac (wpAny_entryPlaceOf fun pl hpl=>?_))
 have hx1:=(so.2.1 x xf).trans hx
 unfold EntryCells.newEntry newFields
 refine ac (aW ?_ (hpl.sizeOk5 _ _ _ _ _))
 generalize hts:([head, .ref L, .none,rawInt L, .none]++(if pl.isEmpty then replicate 6 Value.none else pl)).toArray=ts
 have ts3:3<ts.size:=by
  rw[<- hts]
  simp
 have h2x:=ae (h:=h1) { cls:= .type "traceback",data:= .fields ts} hx1
 have h2T:(h1.push { cls:= .type "traceback",data:= .fields ts}).get? h1.objs.size=some { cls:= .type "traceback",data:= .fields ts} :=ak h1 rfl
 have sz2:(h1.push { cls:= .type "traceback",data:= .fields ts}).objs.size=h1.objs.size+1:=br ..
 have nTx:h1.objs.size≠x:=b8 (ao hx1)
 have k2:∀ b o,h1.get? b=some o->(h1.push { cls:= .type "traceback",data:= .fields ts}).get? b=some o:=fun b o e=>ae _ e
 generalize h1.push { cls:= .type "traceback",data:= .fields ts} =h2 at h2x h2T sz2 k2 ⊢
 refine dC h2x rfl (by omega) ?_
 have h3x:=bE (Obj.mapFields (·.setIfInBounds 1 (Value.ref h1.objs.size))) h2x rfl
 have h3o:∀ b,b≠x->(h2.update x (Obj.mapFields (·.setIfInBounds 1 (Value.ref h1.objs.size)))).get? b=h2.get? b:=fun b n=>bw _ _ (bo n)
 have h3T:=(h3o _ nTx).trans h2T
 have sz3:(h2.update x (Obj.mapFields (·.setIfInBounds 1 (Value.ref h1.objs.size)))).objs.size=h2.objs.size:=eQ ..
 generalize h2.update x (Obj.mapFields (·.setIfInBounds 1 (Value.ref h1.objs.size)))=h3 at h3x h3o h3T sz3 ⊢
 have w1:(vs.setIfInBounds 1 (Value.ref h1.objs.size))[1]?=some (.ref h1.objs.size):=by simp [v6]
 have w2:(vs.setIfInBounds 1 (Value.ref h1.objs.size))[2]?=some .none:=by rw[eE (by decide)]; exact v2
 unfold setFlight
 refine ac (aR (x:= .ref h1.objs.size) h3x rfl w1 ?_)
 rw[aB (show (Value.ref h1.objs.size != Value.none)=true by rfl)]
 refine dC h3T rfl ts3 ?_
 have h4T:=bE (Obj.mapFields (·.setIfInBounds 3 Value.none)) h3T rfl
 have h4o:∀ b,b≠h1.objs.size->(h3.update h1.objs.size (Obj.mapFields (·.setIfInBounds 3 Value.none))).get? b=h3.get? b:=fun b n=>bw _ _ (bo n)
 have sz4:(h3.update h1.objs.size (Obj.mapFields (·.setIfInBounds 3 Value.none))).objs.size=h3.objs.size:=eQ ..
 have sz1:=so.1
 refine h (h3.update h1.objs.size (Obj.mapFields (·.setIfInBounds 3 Value.none))) h1.objs.size ⟨fun b o hb n1 n2=>?_,fun b o hb n2=>?_,by omega⟩ ⟨_,_,_,(h4o x (bo nTx)).trans h3x,by simp [v6],w1,w2,nTx,h4T,rfl,?_⟩ (by omega)
 ·have hb1:=(so.2.1 b n1).trans hb
  have nx:b≠x:=fun z=>n2 (by rw[z]; exact aG.mpr rfl)
  rw[h4o b (aF (ao hb1)),h3o b nx]
  exact k2 b o hb1
 ·obtain⟨sl,hb1⟩:=so.2.2 b o hb
  have nx:b≠x:=fun z=>n2 (by rw[z]; exact aG.mpr rfl)
  refine⟨sl,?_⟩
  rw[h4o b (aF (ao hb1)),h3o b nx]
  exact k2 b _ hb1
 ·simp [ts3]
theorem jK3 {env:Env}{outer:List Env}{L x C t:Addr}{base:Heap}{Q:Unit->Shared->Prop}(hfr:A.frames=some (env::outer))(hl:s.heap.FunFrames base (env::outer))(hf:env.frame=some L)
  (hx:s.heap.get? x=some { cls:= .ref C,data:= .fields #[.ref t, .none, .none, .none, .bool false, .none]})
  (h:∀ h' T,NoteX (frs (env::outer)) [x] s.heap h'->ExcX h' x C T->s.heap.objs.size<=T->Q () { s with heap:=h'}):wpAny (model prog w) A (leaving env (.ref x)) Q E s:=by
 unfold leaving noteFrame
 simp only [hf]
 refine ac (ac (aR (x:=Value.none) hx rfl rfl ?_))
 rw[av (by decide)]
 exact jH4 hfr hl hf hx rfl rfl h
theorem jGO {env:Env}{outer:List Env}{L x C T:Addr}{base:Heap}{Q:Unit->Shared->Prop}(hfr:A.frames=some (env::outer))(hl:s.heap.FunFrames base (env::outer))(hf:env.frame=some L)(hx:ExcX s.heap x C T)
  (h:∀ h' T',NoteX (frs (env::outer)) [x,T] s.heap h'->ExcX h' x C T'->s.heap.objs.size<=T'->Q () { s with heap:=h'}):
  wpAny (model prog w) A (noteFrame (.ref x) env) (fun _ s'=>wpAny (model prog w) A (setFlight (.ref x) none) Q E s') E s:=by
 obtain⟨vs,oT,ts,hx,v6,v1,v2,nTx,hT,hd,t3⟩:=hx
 have t3s:3<ts.size:=(dy.mp t3).1
 unfold noteFrame
 simp only [hf]
 refine ac (aR hx rfl v1 ?_)
 rw[aB (show (Value.ref T != Value.none)=true by rfl)]
 refine ac (aR hT hd t3 ?_)
 rw[av (show ¬ ((Value.none==rawInt L)=true) by simp [rawInt])]
 refine ac (dC hT hd t3s ?_)
 have uo:∀ b,b≠T->(s.heap.update T (Obj.mapFields (·.setIfInBounds 3 Value.none))).get? b=s.heap.get? b:=fun b n=>bw _ _ (bo n)
 have us:(s.heap.update T (Obj.mapFields (·.setIfInBounds 3 Value.none))).objs.size=s.heap.objs.size:=eQ ..
 have nT:∀ b o,s.heap.get? b=some o->(∀ vs,o.data≠ .fields vs)->b≠T:=fun b o hb hn z=>by
  rw[z,hT] at hb
  cases hb
  exact hn _ hd
 generalize s.heap.update T (Obj.mapFields (·.setIfInBounds 3 Value.none))=h1 at uo us ⊢
 refine jH4 (s:= { s with heap:=h1}) (C:=C) hfr (hl.of_keeps fun b o hb hn=>⟨o,(uo b (nT b o hb hn)).trans hb,rfl⟩) hf ((uo x (bo nTx)).trans hx) v6 v2 fun h' T' n e z=>h h' T' ⟨fun b o hb m1 m2=>?_,fun b o hb m2=>?_,by have:=n.size; show s.heap.objs.size<=_; rw[<- us]; exact this⟩ e (by rw[<- us]; exact z)
 ·have b1:b≠T:=fun z=>m2 (by rw[z]; simp)
  have b2:b≠x:=fun z=>m2 (by rw[z]; simp)
  exact n.keep b o ((uo b b1).trans hb) m1 (by simpa using b2)
 ·have b1:b≠T:=fun z=>m2 (by rw[z]; simp)
  have b2:b≠x:=fun z=>m2 (by rw[z]; simp)
  exact n.slot b o ((uo b b1).trans hb) (by simpa using b2)
abbrev bmVE:List Value:=[.type "ValueError", .type "Exception", .type "BaseException", .type "object"]
def ExcK (K:W.Frag)(C:Addr):Prop:=∃ (nm q:Str) (N:Addr) (bs bm:List Value) (hdct:Bool) (sn:List Str) (sub:List Value) (ab:Bool) (col:Option Bool) (dd:Option Addr) (k0 k1 k2 k3 k5:Option Value) (mN:Str->Option Value),
 mN "__init__" =none/\bm.contains (.type "BaseException")=true/\∀ h:Heap,K.In h->h.get? C=some (excClassObj nm q C N bs bm hdct sn sub ab col dd k0 k1 k2 k3 k5 "ValueError.__new__")/\h.Ns N mN/\OwnTail h bmVE bm
variable {x:Str}{C:Addr}{e:Expr}{t:TA}{np cpos pos:Pos}
section
variable {W:Hp->Prop}
theorem jJ8 (hc:X.calm=true)(ek:ExcK X.K C)(hg:Gl X x)(hm:X.mg x=some (.ref C))(ha:PA X [e] t)
  (hx:∀ ad σ H s h' a us,Inv X ad σ H s->Heap.MadeExcOf s.heap h' a (.ref C) us->W H->X.xe (.ref a) { s with heap:=h'})
  (hd:(x==("__debug__" :Str))=false:=by decide) (he:starEach [e] X.env=(false,eval e X.env)::starEach [] X.env:=by rfl) (hpl:(backTo cpos (starEach [e] X.env)).any (·.1)=false:=by rfl):
  PS X (.Raise (some (.Call (.Name x np) [e] [] cpos)) none pos) (fun _ σ H=>t σ H fun vs H1=>vs.length<=sizeLine/\W H1):=by
 intro ad s σ H D I h
 obtain⟨nm,q,N,bs,bm,hdct,sn,sub,ab,col,dd,k0,k1,k2,k3,k5,mN,hni,hb,hK⟩:=ek
 refine wpAny_Raise_call_subU (C:=C) (N:=N) (bs:=bs) (bm:=bm) (hdct:=hdct) (sn:=sn) (sub:=sub) (ab:=ab) (col:=col) (dd:=dd) (k0:=k0) (k1:=k1) (k2:=k2) (k3:=k3) (k5:=k5) (nm:=nm) (q:=q) fN (by decide) fN hb (I.ok.hd hc) hpl hni (jBV I hg hm ⟨rfl,?_⟩ hd)
 obtain⟨y,r,hy⟩:∃ y r,backTo cpos (starEach [e] X.env)=(false,y)::r:=by
  rw[he]
  exact⟨_,_,rfl⟩
 have h2:=ha cpos ad s σ H _ I h
 rw[hy] at h2 ⊢
 refine dq (ir h2 fun us s1 ⟨vs,H1,I1,r1,z,w1⟩=>?_)
 obtain⟨c1,c2,c3⟩:=hK s1.heap I1.kIn
 exact⟨rfl,by rw[<- r1.length]; exact z,c1,c2,c3,fun h' a m=>hx ad σ H1 s1 h' a us I1 m w1⟩
end
theorem HOk.note {P:Program}{w:World}{H:Hp}{h h':Heap}{fs R:List Addr}(x:HOk P w H h)(n:NoteX fs R h h')(hf:∀ b∈fs,H b=none)(hR:∀ b∈R,H b=none):HOk P w H h':=fun a o e=>
 (x a o e).stay (fun b u hb q=>n.keep b u q (fun z=>by
   have:=hf b z
   rcases hb with rfl | hb
   ·rw[e] at this; cases this
   ·rw[hb] at this; cases this) (fun z=>by
   have:=hR b z
   rcases hb with rfl | hb
   ·rw[e] at this; cases this
   ·rw[hb] at this; cases this)) (fun _ q=>q) fun _ _ q=>q
theorem ObjOk.is {P:Program}{w:World}{H:Hp}{h:Heap}{a:Addr}{o:HO}(x:ObjOk P w H h a o):∃ u,h.get? a=some u:=by
 cases o with
 | lst xs=>obtain⟨_,_,_,_,e⟩:=x; exact⟨_,e⟩
 | tup xs=>obtain⟨_,_,_,_,e⟩:=x; exact⟨_,e⟩
 | dK iq=>obtain⟨_,_,_,_,o,_,_,e,_⟩:=x; exact⟨_,e⟩
 | dT iq=>obtain⟨_,_,_,_,o,_,_,e,_⟩:=x; exact⟨_,e⟩
 | set S n=>obtain⟨o,_,_,_,e,_⟩:=x; exact⟨_,e⟩
 | ins C dx fs=>obtain⟨_,_,_,e,_⟩:=x; exact⟨_,e⟩
 | own y=>exact x
 | xd fs=>obtain⟨_,⟨_,_,_,e,_⟩,_⟩:=x; exact⟨_,e⟩
 | rng lo hi=>obtain⟨_,_,_,e⟩:=x; exact⟨_,e⟩
 | frz ob u=>obtain⟨e,_⟩:=x; exact⟨_,e⟩
 | tbl ps=>exact⟨_,x⟩
 | met f y=>exact⟨_,x⟩
 | ext φ=>obtain⟨_,q,_⟩:=x; exact q
def CXX (P:Program)(w:World)(C:Addr):CXT:=fun outer H s E e s'=>∃ x T H',e= .ref x/\s'.os=s.os/\AllBare s'.gens/\Un (frs outer) [] H H' s.heap s'.heap/\HOk P w H' s'.heap/\s.heap.get? x=none/\s.heap.objs.size<=T/\H' x=none/\H' T=none/\ExcX s'.heap x C T/\E e (some x) H'
theorem xe_cx {P:Program}{w:World}{K:W.Frag}{mg:Str->Option Value}{base:Heap}{N:List Str}{qual:Str}{sc:Scope}{f:Addr}{cdv:Value}{A:Around}{outer:List Env}{s:Shared}{H:Hp}{E:XK}{C:Addr}
  {ad:List (Addr×Obj)}{σ:St}{H1:Hp}{s1:Shared}{h':Heap}{a:Addr}{us:List Value}(I:Inv (cxOf (CXX P w C) P w K mg base N qual sc f cdv A outer s H E) ad σ H1 s1) (m:Heap.MadeExcOf s1.heap h' a (.ref C) us) (w1:∀ a,E (.ref a) (some a) H1):
  (cxOf (CXX P w C) P w K mg base N qual sc f cdv A outer s H E).xe (.ref a) { s1 with heap:=h'} :=by
 obtain⟨t,ha,ht,_⟩:=m.there
 have fr:=I.ok.frames
 have st:s1.heap.FunFrames base (PyProof.Rows.envOfC qual sc s.heap.objs.size f cdv::outer):=I.stack
 have an:=m.new
 have sz:s.heap.objs.size<=s1.heap.objs.size:=I.sz
 have aH:H1 a=none:=by
  cases q:H1 a with
  | none=>rfl
  | some o=>
   obtain⟨u,hu⟩:=(I.hok a o q).is
   rw[an] at hu
   cases hu
 have hs:s.heap.objs.size<h'.objs.size:=by
  obtain⟨mm,⟨o,es,ep,hL,_⟩,_⟩:=I.loc
  exact ao (m.keeps _ _ hL)
 refine jK3 (s:= { s1 with heap:=h'}) (base:=base) fr (st.of_keeps fun b o hb _=>⟨o,m.keeps b o hb,rfl⟩) rfl ha fun h2 T n e z=>?_
 have z:h'.objs.size<=T:=z
 have un:Un (frs outer) [] H H1 s.heap s1.heap:=I.base
 have nl:∀ b o,s.heap.get? b=some o->b∉frs outer->b∉frs (PyProof.Rows.envOfC qual sc s.heap.objs.size f cdv::outer):=fun b o hb n1 hm=>by
  rcases am.mp (show b∈s.heap.objs.size::frs outer from hm) with q | q
  ·exact absurd (ao hb) (by rw[q]; exact bG _)
  ·exact n1 q
 have na:∀ b o,s.heap.get? b=some o->b∉ [a]:=fun b o hb hm=>by
  obtain⟨o',q⟩:=un.there b o hb (by simp)
  rw[aG.mp hm,an] at q
  cases q
 refine⟨a,T,H1,rfl,I.os,I.bare,⟨fun b o hb n1 n2 n3=>?_,fun b o hb n1 n2 n3=>?_,un.free,fun b o hb n3=>?_,un.tups,un.frzs,un.tbls⟩,?_,?_,by omega,aH,(I.hok.kept m.keeps).fresh z,e,w1 a⟩
 ·exact n.keep b o (m.keeps _ _ (un.keep b o hb n1 n2 n3)) (nl b o hb n2) (na b o hb)
 ·obtain⟨sl,q⟩:=un.slot b o hb n1 n2 n3
  obtain⟨sl2,q2⟩:=n.slot b _ (m.keeps _ _ q) (na b o hb)
  exact⟨sl2,q2⟩
 ·obtain⟨o',q⟩:=un.there b o hb n3
  obtain⟨sl2,q2⟩:=n.slot b _ (m.keeps _ _ q) (na b o hb)
  exact⟨_,q2⟩
 ·refine(I.hok.kept m.keeps).note n (fun b hb=>I.stkFree b hb) fun b hb=>?_
  rw[aG.mp hb]
  exact aH
 ·cases q:s.heap.get? a with
  | none=>rfl
  | some o=>exact absurd (aG.mpr rfl) (na a o q)
variable {M:Model}{h:Heap}
section
variable {g:Array GenState}{d:Drawn}{tk:Nat}{os:OsState}
theorem jMB {nm q nm' q':Str}{C N B N' x:Addr}{bs bm bs' bm':List Value}{hdct hdct':Bool}{sn sn':List Str}{sub sub':List Value}{ab ab':Bool}{col col':Option Bool}{dd dd':Option Addr}{k0 k1 k2 k3 k5 j0 j1 j2 j3 j5:Option Value}{ni ni':String}{ox:Obj}{Q:Bool->Shared->Prop}
  (hC:h.get? C=some (excClassObj nm q C N bs bm hdct sn sub ab col dd k0 k1 k2 k3 k5 ni)) (hB:h.get? B=some (excClassObj nm' q' B N' bs' bm' hdct' sn' sub' ab' col' dd' j0 j1 j2 j3 j5 ni')) (hx:h.get? x=some ox) (hc:ox.cls= .ref C)
  (hb:bm'.contains (.type "BaseException")=true) (hin:bm.contains (.ref B)=true) (z:Q true ⟨h,g,d,tk,os⟩):wpAny M A (excMatches (.ref x) (.ref B)) Q E ⟨h,g,d,tk,os⟩:=by
 have b1:(Value.ref B::bm').contains (.type "BaseException")=true:=by rw[hV,hb,ii]
 have b2:(Value.ref C::bm).contains (.ref B)=true:=by rw[hV,hin,ii]
 have f0:=tc_notTuple
 unfold excMatches
 repeat (first | (with_reducible refine wpAny_loadPart_at hx ?_; rw[hc]) | with_reducible refine wpAny_loadPart_at hB ?_ | (with_reducible refine wpAny_isSubtype_exc hB ?_; rw[b1]) | (with_reducible refine wpAny_isSubtype_exc hC ?_; rw[b2]) | wp_step)
 exact z
end
structure ExcIs (K:W.Frag)(C:Addr):Prop where
 ga:findIn K (.ref C) "__getattribute__" =some (some (.builtin "BaseException.__getattribute__"))
 gr:findIn K (.ref C) "__getattr__" =some none
 hc:(clsIn K C).isSome=true
 ha:findIn K (.ref C) "__class__" =some (some (.builtin "object.__class__"))
 hn:specialIn K (.builtin "object.__class__") "__get__" =some (some (.builtin "getset_descriptor.__get__"))
 tk:takesIn K (.builtin "object.__class__")=some true
 hm:mroIn K C (.type "object")=some true
 hb:mroIn K C (.type "BaseException")=some true
def excP (x C:Addr):Heap->Prop:=fun h=>∃ vs,h.get? x=some { cls:= .ref C,data:= .fields vs} /\vs[2]?=some .none
theorem excP.inst {x C:Addr}{h:Heap}(p:excP x C h):∃ ox,PySem.W.InstAt h x ox C none:=by
 obtain⟨vs,e,_⟩:=p
 exact⟨_,e,rfl,rfl,True.intro⟩
theorem jKL {K:W.Frag}{x C:Addr}{ox:Obj}{prog:Program}{w:World}{A:Around}{E:Value->Shared->Prop}{Q:Option Value->Shared->Prop}{s:Shared}(c:ExcIs K C)(X:K.In s.heap)(I:PySem.W.InstAt s.heap x ox C none)(k:Q (some (.ref C)) { s with toks:=s.toks+1}):wpAny (model prog w) A (getAttr? (.ref x) "__class__") Q E s:=by
 have hf:findObj K C none "__class__" =some (.bind (.builtin "getset_descriptor.__get__") (.builtin "object.__class__")):=by
  obtain⟨cd,hcd⟩:=cG.mp c.hc
  unfold findObj
  rw[hcd,bind_some,c.ha,bind_some]
  simp [c.hn,c.tk]
 obtain⟨hh,g,d,t,os⟩:=s
 have L0:=I.type (M:=model prog w)
 have L1:=eX (M:=model prog w) X c.ga
 have L2:=eX (M:=model prog w) X c.gr
 have L3:=PySem.W.looks_find (M:=model prog w) X I hf
 have L4:PySem.W.Looks (model prog w) hh (isInstance (.ref x) (.type "BaseException")) true:=L0.andThen (PySem.W.looks_mroIn (M:=model prog w) X c.hb)
 have e1:(onTheHeap (.ref C)&&(Value.builtin "BaseException.__getattribute__" == .builtin "object.__getattribute__"))=false:=by
  have z:(Value.builtin "BaseException.__getattribute__" == .builtin "object.__getattribute__")=false:=by decide+kernel
  rw[z,fJ]
 unfold getAttr? getAttrBy? getAttrBy
 refine ac (wpAny_mkText (ac (cI (aO (ac (L0.at (ac (L1.at ?_))))))))
 dsimp only
 rw[e1,av (by decide)]
 unfold getAttrByItsOwn hookBefore
 rw[aB (by rfl)]
 refine ac (L2.at (ac (cI (aO ?_))))
 unfold callGetattribute boundAndCalled
 rw[av (by decide),gq.ga.bind]
 refine ac (af (dP (codeAny_call_builtin gq.ga.plain PySem.F.entry_bexc_ga ?_)))
 have hk:builtinKind "BaseException.__getattribute__" =some .slot/\splitId "BaseException.__getattribute__" =some ("BaseException","__getattribute__"):=by decide+kernel
 have ha:=PySem.F.args_bexc_ga (.ref x) (.str "__class__" t)
 simp only [checkBuiltinCall,hk.1,hk.2]
 refine ac (L4.at ?_)
 rw[av (by decide)]
 refine gJ (a:=()) ha (ac (af (ac (af (ac (L0.at (ac (L3.at ?_))))))))
 refine(show wpAny _ _ (holding [.builtin "object.__class__"] (call (.builtin "getset_descriptor.__get__") [.builtin "object.__class__", .ref x, .ref C]) >>= ret) _ _ _ from ac (aO (dP ?_)))
 exact PySem.W.class_get (s:=⟨hh,g,d,t+1,os⟩) (ox:=ox) (od:=none) X I c.hm (af (PySem.W.handed_on rfl (af k)))
theorem jGV {K:W.Frag}{x C:Addr}(c:ExcIs K C):PySem.W.KitX K (.ref x) (.ref C) (excP x C) where
 ty:=fun _ _ _ p=>by
  obtain⟨ox,I⟩:=p.inst
  exact I.type
 it:=fun _ _ X _=>by
  obtain⟨cd,hcd⟩:=cG.mp c.hc
  unfold clsIn at hcd
  split at hcd
  ·rename_i c' d' cd' sl' ho
   intro A' Q' E' s' k q
   unfold isType loadHead
   exact ac (wpAny_loadPart (k _ _ (X _ _ ho)) (af q))
  ·cases hcd
 ne:=fun h tp dd its n sl X htp=>by
  obtain⟨cd,hcd⟩:=cG.mp c.hc
  refine Bool.eq_false_iff.mpr fun q=>?_
  have e:C=tp:=Value.ref.inj (fw.mp q)
  subst e
  unfold clsIn at hcd
  split at hcd
  ·rename_i c' d' cd' sl' ho
   have z:=(X _ _ ho).symm.trans htp
   cases z
  ·cases hcd
 ca:=fun {prog w A E Q s} X p k=>by
  obtain⟨ox,I⟩:=p.inst
  exact jKL c X I k
theorem jA2 {X:Cx}{C:Addr}(ci:ExcIs X.K C):yR X (.builtin "isinstance") (fun xs H Q=>∃ x c u b,xs=[.ref x,c]/\H x=some (.ext (excP x C))/\(∀ v,RelV c v->v=u)/\kitOne X.K (.ref C) u=some b/\Q (.bl b) H):=by
 intro ad s σ H xs us Q I r h
 obtain⟨x,c,u,b,rfl,hx,hu,e,q⟩:=h
 obtain⟨v,y,rfl,rv,ry⟩:=r.two
 cases (show v=Value.ref x from rv)
 cases hu y ry
 obtain⟨p,_,_⟩:=(show ObjOk X.prog X.w H s.heap x (.ext (excP x C)) from I.hok x _ hx)
 exact bA (jGV ci) I.kIn p e (fun z=>nomatch z) fun tk=>⟨.bl b,H,I.tok tk,rfl,q⟩
variable {ad:List (Addr×Obj)}{H H':Hp}
section
variable {σ:List (Option V)}{h':Heap}
theorem Inv.stepX {g':Array GenState}{t':Nat}{d':Drawn}{ch:List Addr}(I:Inv X ad σ H s)
  (hch:∀ b∈ch,X.s₀.heap.get? b=none/\b≠X.env.locals/\(∀ x c,X.env.cells.lookup x=some c->c≠b)/\∀ p∈X.pn++ad,p.1≠b)
  (keep:∀ b o,b≠X.env.locals->b∉X.fs->b∉ch->s.heap.get? b=some o->H b=none->h'.get? b=some o)
  (slot:∀ b o,b≠X.env.locals->b∈X.fs->b∉ch->s.heap.get? b=some o->H b=none->∃ sl,h'.get? b=some { o with slots:=sl}) (free:∀ b o,b∉ch->s.heap.get? b=some o->H b=none->H' b=none)
  (there:∀ b o,b∉ch->s.heap.get? b=some o->∃ o',h'.get? b=some o')
  (tups:∀ b xs,H b=some (.tup xs)->H' b=some (.tup xs)) (frzs:∀ b o u,H b=some (.frz o u)->H' b=some (.frz o u)) (tbls:∀ b ps,H b=some (.tbl ps)->∃ more,H' b=some (.tbl (ps++more)))
  (ns:∀ m,s.heap.Ns X.env.locals m->h'.Ns X.env.locals m) (hok:HOk X.prog X.w H' h') (hg:AllBare g'):
  Inv X ad σ H' { s with heap:=h',gens:=g',drawn:=d',toks:=t'} :=by
 have neL:∀ b o,X.s₀.heap.get? b=some o->b≠X.env.locals:=fun b o e=>aF (aN (ao e) I.ok.above)
 have neC:∀ b o,X.s₀.heap.get? b=some o->b∉X.ex->b∉ch:=fun b o e hx hb=>by
  have z:=(hch b hb).1
  rw[e] at z
  cases z
 have cellK:∀ x c,X.env.cells.lookup x=some c->∀ v,s.heap.IsCell c v->h'.IsCell c v:=fun x c e v ⟨o,ho,hd⟩=>by
  have nch:c∉ch:=fun z=>(hch c z).2.2.1 x c e rfl
  by_cases hc:c∈X.fs
  ·obtain⟨sl,q⟩:=slot c o (I.cne x c e) hc nch ho (I.freeC x c e)
   exact⟨_,q,hd⟩
  ·exact⟨o,keep c o (I.cne x c e) hc nch ho (I.freeC x c e),hd⟩
 refine⟨I.ok,I.os,hg,⟨fun b o e n hb hx=>?_,fun b o e n hb hx=>?_,fun b o e n hx=>?_,fun b o e hx=>?_,fun b xs e=>tups b xs (I.base.tups b xs e),fun b o xs e=>frzs b o xs (I.base.frzs b o xs e),fun b ps e=>?_⟩,?_,fun x c e=>?_,?_,fun x c e=>?_,fun p hp=>?_,hok,I.len⟩
 ·exact keep b o (neL b o e) hb (neC b o e hx) (I.base.keep b o e n hb hx) (I.base.free b o e n hx)
 ·obtain⟨sl,e1⟩:=I.base.slot b o e n hb hx
  obtain⟨sl',e2⟩:=slot b _ (neL b o e) hb (neC b o e hx) e1 (I.base.free b o e n hx)
  exact⟨sl',e2⟩
 ·obtain⟨o',e1⟩:=I.base.there b o e hx
  exact free b o' (neC b o e hx) e1 (I.base.free b o e n hx)
 ·obtain⟨o',e1⟩:=I.base.there b o e hx
  exact there b o' (neC b o e hx) e1
 ·obtain⟨m1,e1⟩:=I.base.tbls b ps e
  obtain⟨m2,e2⟩:=tbls b _ e1
  exact⟨m1++m2,by rw[e2,g5]⟩
 ·obtain⟨m,hn,hl⟩:=I.loc
  refine⟨m,ns m hn,fun i x v e1 e2 e3=>?_⟩
  obtain⟨u,r,l⟩:=hl i x v e1 e2 e3
  refine⟨u,r,?_⟩
  rcases l with l | ⟨k,c,e,z⟩
  ·exact .inl l
  ·exact .inr ⟨k,c,e,cellK x c e _ z⟩
 ·obtain⟨v,z⟩:=I.cell x c e
  exact⟨v,cellK x c e v z⟩
 ·obtain⟨m,⟨o,_,_,ho,_⟩,_⟩:=I.loc
  exact free _ o (fun z=>(hch _ z).2.1 rfl) ho I.free
 ·obtain⟨v,o,ho,hd⟩:=I.cell x c e
  exact free c o (fun z=>(hch c z).2.2.1 x c e rfl) ho (I.freeC x c e)
 ·obtain⟨e,n,ne,nf,d⟩:=I.pin p hp
  have nch:p.1∉ch:=fun z=>(hch p.1 z).2.2.2 p hp rfl
  exact⟨keep p.1 p.2 ne nf nch e n,free p.1 p.2 nch e n,ne,nf,d⟩
theorem Inv.callX {g':Array GenState}{t':Nat}{d':Drawn}{ch:List Addr}(I:Inv X ad σ H s)(u:Un (frs X.stack) ch H H' s.heap h')(hok:HOk X.prog X.w H' h')(hg:AllBare g')
  (hch:∀ b∈ch,X.s₀.heap.get? b=none/\b≠X.env.locals/\(∀ x c,X.env.cells.lookup x=some c->c≠b)/\∀ p∈X.pn++ad,p.1≠b):
  Inv X ad σ H' { s with heap:=h',gens:=g',drawn:=d',toks:=t'} :=by
 obtain⟨m,⟨o,es,ep,ho,r⟩,_⟩:=id I.loc
 obtain⟨sl,hL⟩:=u.any ho I.free fun z=>(hch _ z).2.1 rfl
 exact I.stepX (ch:=ch) hch (fun b o hL hb hc e n=>u.keep b o e n (fun z=>(am.mp (I.stkSub b z)).elim hL hb) hc) (fun b o _ _ hc e n=>u.any e n hc) (fun b o hc e n=>u.free b o e n hc) (fun b o hc e=>u.there b o e hc) u.tups u.frzs u.tbls (fun m' hm=>by
  obtain⟨o',es',ep',ho',r'⟩:=hm
  rw[ho] at ho'; cases ho'
  exact⟨_,es',ep',hL,r'⟩) hok hg
end
theorem excP.of {h:Heap}{x C T:Addr}(e:ExcX h x C T):excP x C h:=by
 obtain⟨vs,_,_,h1,_,_,h2,_⟩:=e
 exact⟨vs,h1,h2⟩
theorem excP.stay {x C:Addr}(h1 h2:Heap)(p:excP x C h1)(k:∀ o,h1.get? x=some o->h2.get? x=some o):excP x C h2:=by
 obtain⟨vs,e,c⟩:=p
 exact⟨vs,k _ e,c⟩
variable {T:Addr}
section
variable {σ:St}{h2:Heap}{x T':Addr}
theorem Inv.apart (I:Inv X ad σ H s)(hex:X.ex=[]){b:Addr}(hb:s.heap.get? b=none):X.s₀.heap.get? b=none/\b≠X.env.locals/\(∀ y c,X.env.cells.lookup y=some c->c≠b)/\∀ p∈X.pn++ad,p.1≠b:=by
 refine⟨?_,fun z=>?_,fun y c e z=>?_,fun p hp z=>?_⟩
 ·cases q:X.s₀.heap.get? b with
  | none=>rfl
  | some o=>
   obtain⟨o',e⟩:=I.base.there b o q (by rw[hex]; simp)
   rw[hb] at e
   cases e
 ·obtain⟨m,⟨o,es,ep,hL,_⟩,_⟩:=I.loc
  rw[<- z,hb] at hL
  cases hL
 ·obtain⟨v,o,ho,_⟩:=I.cell y c e
  rw[z,hb] at ho
  cases ho
 ·have:=(I.pin p hp).1
  rw[z,hb] at this
  cases this
theorem Inv.held (I:Inv X ad σ H' s)(n:NoteX (frs X.stack) [x,T] s.heap h2)(e:ExcX h2 x C T')(hx:H' x=none)(hT:H' T=none)
  (ax:X.s₀.heap.get? x=none/\x≠X.env.locals/\(∀ y c,X.env.cells.lookup y=some c->c≠x)/\∀ p∈X.pn++ad,p.1≠x)
  (aT:X.s₀.heap.get? T=none/\T≠X.env.locals/\(∀ y c,X.env.cells.lookup y=some c->c≠T)/\∀ p∈X.pn++ad,p.1≠T):
  Inv X ad σ (upd H' x (.ext (excP x C))) { s with heap:=h2} :=by
 have nx:∀ {b:Addr}{o:HO},H' b=some o->b≠x:=fun {b o} q z=>by
  rw[z,hx] at q
  cases q
 refine I.callX (g':=s.gens) (d':=s.drawn) (t':=s.toks) (ch:=[x,T]) ⟨fun b o q z n1 n2=>n.keep b o q n1 n2,fun b o q z n1 n2=>n.slot b o q n2,fun b o q z n2=>?_,fun b o q n2=>?_,fun b xs q=>by rw[jD (nx q)]; exact q,fun b o u q=>by rw[jD (nx q)]; exact q,fun b ps q=>⟨#[],by rw[jD (nx q),q]; simp⟩⟩ (fun a o q=>?_) I.bare (fun b hb=>?_)
 ·rw[jD (fun z=>n2 (by rw[z]; simp))]
  exact z
 ·obtain⟨sl,w⟩:=n.slot b o q n2
  exact⟨_,w⟩
 ·by_cases ha:a=x
  ·subst ha
   rw[jA] at q
   cases q
   obtain⟨vs,_,_,w,_⟩:=id e
   exact⟨.of e,⟨_,w⟩,excP.stay⟩
  ·rw[jD ha] at q
   have hk:=I.hok.note n I.stkFree fun b hb=>by
    rcases am.mp hb with z | z
    ·rw[z]; exact hx
    ·rw[aG.mp z]; exact hT
   exact(hk a o q).stay (fun _ _ _ w=>w) (fun b w=>by rw[jD (nx w)]; exact w) fun b xs w=>by rw[jD (nx w)]; exact w
 ·rcases am.mp hb with z | z
  ·rw[z]; exact ax
  ·rw[aG.mp z]; exact aT
end
def jAL (X:Cx)(x:Addr):Cx:= { X with A:=X.A.mark (some (.ref x)),calm:=false,xe:=fun _ _=>False}
section
variable {σ:St}{x:Addr}
theorem Cx.Ok.suite (ok:X.Ok)(x:Addr):(jAL X x).Ok:=
 ⟨ok.mod,ok.kind,ok.glob,ok.blt,ok.above,ok.inj,ok.has,ok.cab,fun z=>(nomatch z),ok.frames,ok.stk,ok.exf,ok.bs,ok.bsz,ok.noex,ok.exfs,ok.funs,ok.frf⟩
theorem Inv.suite (I:Inv X ad σ H s)(x:Addr):Inv (jAL X x) ad σ H s:=⟨I.ok.suite x,I.os,I.bare,I.base,I.loc,I.cell,I.free,I.freeC,I.pin,I.hok,I.len⟩
theorem Inv.unsuite (ok:X.Ok)(I:Inv (jAL X x) ad σ H s):Inv X ad σ H s:=⟨ok,I.os,I.bare,I.base,I.loc,I.cell,I.free,I.freeC,I.pin,I.hok,I.len⟩
end
section
variable {x:Addr}{Q:Unit->Shared->Prop}
theorem jFS (e:ExcX s.heap x C T)(h:∀ h',(∀ b o,s.heap.get? b=some o->h'.get? b=some o)->Q () { s with heap:=h'}):wpAny M A (setFlight (.ref x) none) Q E s:=by
 obtain⟨vs,oT,ts,hx,v6,v1,v2,nTx,hT,hd,t3⟩:=e
 have t3s:3<ts.size:=(dy.mp t3).1
 unfold setFlight
 refine ac (aR (x:= .ref T) hx rfl v1 ?_)
 rw[aB (show (Value.ref T != Value.none)=true by rfl)]
 refine dC hT hd t3s (h _ fun b o hb=>?_)
 by_cases hbT:b=T
 ·subst hbT
  rw[hT] at hb
  cases hb
  obtain⟨c,d,dt,sl⟩:=oT
  simp only at hd
  subst hd
  refine(bE (Obj.mapFields (·.setIfInBounds 3 Value.none)) hT rfl).trans ?_
  have e3:ts.setIfInBounds 3 Value.none=ts:=by
   apply Array.ext_getElem?
   intro i
   by_cases hi:i=3
   ·subst hi
    rw[t3]
    simp [t3s]
   ·rw[eE (bo hi)]
  show some ({ cls:=c,dict:=d,data:= .fields (ts.setIfInBounds 3 Value.none),slots:=sl} :Obj)=_
  rw[e3]
 ·exact(bw _ _ (bo hbT)).trans hb
end
def qR (K:W.Frag)(C B:Addr):Prop:=∃ (nm q nm' q':Str) (N N':Addr) (bs bm bs' bm':List Value) (hdct hdct':Bool) (sn sn':List Str) (sub sub':List Value) (ab ab':Bool) (col col':Option Bool) (dd dd':Option Addr) (k0 k1 k2 k3 k5 j0 j1 j2 j3 j5:Option Value) (ni ni':String),
 bm'.contains (.type "BaseException")=true/\bm.contains (.ref B)=true/\∀ h:Heap,K.In h->h.get? C=some (excClassObj nm q C N bs bm hdct sn sub ab col dd k0 k1 k2 k3 k5 ni)/\h.get? B=some (excClassObj nm' q' B N' bs' bm' hdct' sn' sub' ab' col' dd' j0 j1 j2 j3 j5 ni')
variable {n c:Str}{i j:Nat}{f B:Addr}{fd:FuncData}{ps:List Str}{sp:Sp}{es:List Expr}{yp gp cp ap rp hp tp:Pos}
section
variable {y g:Str}{k:Nat}{r:Expr}{te:Addr->TE}
end
variable {tg:Expr}
variable {g:TG}{iter elt:Expr}{ifs:List Expr}{sc:Scope}{wi:TI}{tt:TT}{te:TE}{m:List (Option Nat)}{Nc:List Str}
structure RoomS (k:Nat)(A:Around)(x:Addr):Prop where
 hd:A.handled=some (.ref x)
 dp:A.depth+3*k+5<recursionLimit
 un:A.units+16*k+200<cLine
theorem Room.suite {k:Nat}{A:Around}(r:Room k A)(x:Addr):RoomS k (A.mark (some (.ref x))) x:=⟨rfl,r.dp,r.un⟩
theorem RoomS.deeper {k:Nat}{A:Around}{x:Addr}(r:RoomS (k+1) A x)(env:Env):RoomS k (A.deeper env) x:=
 ⟨r.hd,by have:=r.dp; show A.depth+1+3*k+5<_; omega,by have:=r.un; show A.units+3+16*k+200<_; omega⟩
structure FnS (P:Program)(w:World)(K:W.Frag)(mg:Str->Option Value)(base:Heap)(k:Nat)(f:Addr)(fd:FuncData)(ps:List Str)(sp:Addr->Sp):Prop where
 len:∀ x vs H Q E,sp x vs H Q E->vs.length=ps.length
 run:∀ (A:Around) (outer:List Env) (s:Shared) (H:Hp) (args:Args) (us:List Value) (vs:List V) (Q:VK) (E:XK) (x:Addr),RoomS k A x->Env0 P w K mg base A outer s H->BindsTo s fd args (ps.zip us)->Vals vs us->sp x vs H Q E->
  codeAny (model P w) A (.call (.ref f) args) (CR CX0 outer P w H s Q E) s
def cxS (P:Program)(w:World)(K:W.Frag)(mg:Str->Option Value)(base:Heap)(N:List Str)(qual:Str)(scope:Scope)(f:Addr)(cd:Value)(A:Around)(outer:List Env)(s:Shared)(H:Hp)(E:XK):Cx:= { (cxOf CX0 P w K mg base N qual scope f cd A outer s H E).nox with calm:=false}
theorem jS2 {P:Program}{w:World}{K:W.Frag}{mg:Str->Option Value}{base:Heap}{k:Nat}{x qual:Str}{st:Stmt}{f:Addr}{fd:FuncData}{N ps:List Str}{sp:Addr->Sp}(F:Fun K x qual st f fd)(S:FnScope N ps (j9 st))(len:∀ x vs H Q E,sp x vs H Q E->vs.length=ps.length)
  (hbody:∀ (cdv:Value) (A:Around) (outer:List Env) (s:Shared) (H:Hp) (vs:List V) (Q:VK) (E:XK) (x:Addr),RoomS k (A.deeper (envOfC qual (j9 st) s.heap.objs.size f cdv)) x->sp x vs H Q E->
   ∃ t,PSs (cxS P w K mg base N qual (j9 st) f cdv A outer s H E) (jG st) t/\t { nx:=fun _ H'=>Q .non H',rt:=Q} (start N vs) H):
  FnS P w K mg base (k+1) f fd ps sp:=by
 obtain⟨oc,od,kV,doc,pm,an,cdv,ct,osl,rfl,lk,hcd⟩:=F.ex
 refine⟨len,fun A outer s H args us vs Q E x hr e0 hb r hsp=>?_⟩
 have hl:=len _ _ _ _ _ hsp
 have KX:K.In s.heap:=e0.mod.kin.keeps fun b o e=>(e0.bs b o e).1
 have lim:s.heap.NoLimit:=e0.mod.nolimit.keeps fun b o e=>(e0.bs b o e).1
 have hkind:∀ y∈ps.zip us,(j9 st).names.lookup y.1=some .local\/((j9 st).names.lookup y.1=some .cell/\((cellsFrom (s.heap.objs.size+1) (j9 st).names []).lookup y.1).isSome=true):=fun ⟨n,v⟩ hy=>by
  rcases S.par n (db hy).1 with q | q
  ·exact .inl q
  ·exact .inr ⟨q,dZ _ _ _ (.inl q)⟩
 refine codeAny_call_function (by have:=hr.dp; omega) (KX _ _ lk) rfl S.co S.gen rfl (g8 KX hcd) (hb _ _ _ _ ?_)
 refine fz S.kind hkind fun env he s1 z=>?_
 subst he
 refine⟨lim.keeps z.toInCall.keep,codeAny_func ?_⟩
 obtain⟨t,ht,hq⟩:=hbody cdv A outer s H vs Q E x (hr.deeper _) hsp
 have J:Inv (cxOf CX0 P w K mg base N qual (j9 st) f cdv { A with handled:=none} outer s H E) [] (start N vs) H s1:=jET S rfl ⟨e0.frames,e0.mod,e0.bs,e0.bsz,e0.funs,e0.frf,e0.hok,e0.bare⟩ hl r z
 have ok:=J.ok
 have I:Inv (cxS P w K mg base N qual (j9 st) f cdv A outer s H E) [] (start N vs) H s1:=
  ⟨⟨ok.mod,ok.kind,ok.glob,ok.blt,ok.above,ok.inj,ok.has,ok.cab,fun z=>(nomatch z),eY e0.frames,ok.stk,ok.exf,ok.bs,ok.bsz,ok.noex,ok.exfs,ok.funs,ok.frf⟩,J.os,J.bare,J.base,J.loc,J.cell,J.free,J.freeC,J.pin,J.hok,J.len⟩
 refine aZ (ht [] s1 (start N vs) H _ I hq) (fun fl s' hs=>?_) fun e s' hs=>False.elim hs
 have fin:∀ {σ':St}{H':Hp}{v:V}{u:Value},Inv (cxS P w K mg base N qual (j9 st) f cdv A outer s H E) [] σ' H' s'->RelV v u->Q v H'->CE outer P w H s Q u s':=
  fun {σ' H' v u} J rv q=>⟨v,H',J.os,J.bare,J.base,J.hok,rv,q⟩
 cases fl with
 | ret u=>
  obtain⟨v,σ',H',J,rv,q⟩:=hs
  exact fin J rv q
 | next=>
  obtain⟨σ',H',J,q⟩:=hs
  exact fin (v:=V.non) (u:=Value.none) J rfl q
 | brk=>
  obtain⟨_,_,_,q⟩:=hs
  exact False.elim q
 | cont=>
  obtain⟨_,_,_,q⟩:=hs
  exact False.elim q
variable {a:Addr}{p:Pos}
section
variable {k:Nat}{sp:Addr->Sp}
theorem jMJ (F:FnS X.prog X.w X.K X.mg X.base k f fd ps sp)(hr:RoomS k X.A a)(hg:Gl1 X x)(hm:X.mg x=some (.ref f))(hk:keepIn X.K (.ref f)=true)(hb:Binds X.K fd ps [])
  (ha:JA X (e::es) t) (he:starEach (e::es) X.env=(false,eval e X.env)::starEach es X.env) (hdb:(x==("__debug__" :Str))=false:=by decide) (hpl:(backTo pos (starEach es X.env)).any (·.1)=false:=by rfl):
  JE X (.Call (.Name x p) (e::es) [] pos) (tCall (sp a) [] E0 t):=by
 refine⟨fun ad s σ H Q I h=>?_⟩
 refine bY (jBV I hg.a hm ?_ hdb)
 refine dQ (h₀:=X.base) I.ok.mod.kin hk (ir (ha.h pos ad s σ H _ I h) fun us s1 ⟨vs,H1,I1,r,q⟩=>⟨I1.kIn,?_⟩) he hpl
 replace q:sp a (vs++[]) H1 Q E0:=q
 rw[bH] at q
 have hl:us.length=ps.length:=by rw[<- r.length]; exact F.len _ _ _ _ _ q
 have hbb:=hb s1 us I1.kIn (by rw[bH]; exact hl)
 rw[bH] at hbb
 refine dP (b9 (F.run X.A X.stack s1 H1 ⟨us,[]⟩ us vs Q E0 a hr I1.env0 hbb r q) fun r s' hq=>?_)
 cases r with
 | error e=>exact hq.elim
 | ok fl=>
  cases fl with
  | ret u=>exact I1.after hq
  | next=>exact False.elim hq
  | brk=>exact False.elim hq
  | cont=>exact False.elim hq
end
variable {P:Program}{mg:Str->Option Value}{base:Heap}{N:List Str}{qual:Str}{outer:List Env}
section
variable {CX:CXT}{K:W.Frag}{cdv:Value}{E:XK}
theorem gl_x (h:sc.names.lookup x=some .globalImplicit:=by decide+kernel):Gl1 (cxOf CX P w K mg base N qual sc f cdv A outer s H E).nox x:=⟨h⟩
theorem yS (h:sc.names.lookup x=some .local:=by decide+kernel):Vis1 (cxOf CX P w K mg base N qual sc f cdv A outer s H E).nox x:=⟨.inl h⟩
theorem jQA (h:sc.names.lookup x=some .cell):Vis1 (cxOf CX P w K mg base N qual sc f cdv A outer s H E).nox x:=⟨.inr (.inl h)⟩
theorem loc_x (h:sc.names.lookup x=some .local:=by decide+kernel):Loc1 (cxOf CX P w K mg base N qual sc f cdv A outer s H E).nox x:=⟨.inl h, .inl rfl⟩
theorem gl_s (h:sc.names.lookup x=some .globalImplicit:=by decide+kernel):Gl1 (cxS P w K mg base N qual sc f cdv A outer s H E) x:=⟨h⟩
theorem xA (h:sc.names.lookup x=some .local:=by decide+kernel):Vis1 (cxS P w K mg base N qual sc f cdv A outer s H E) x:=⟨.inl h⟩
theorem loc_s (h:sc.names.lookup x=some .local):Loc1 (cxS P w K mg base N qual sc f cdv A outer s H E) x:=⟨.inl h, .inl rfl⟩
theorem gl_u {X:Cx}{a:Addr}(h:Gl1 X x):Gl1 (jAL X a) x:=⟨h.a⟩
theorem vis_u {X:Cx}{a:Addr}(h:Vis1 X x):Vis1 (jAL X a) x:=⟨h.a⟩
end
abbrev WX:=Addr->Addr->St->Hp->Prop
def RZ (X:Cx)(ad:List (Addr×Obj))(W:WX):Value->Shared->Prop:=fun ev s2=>∃ x T C σ2 H2,ev= .ref x/\Inv X ad σ2 H2 s2/\H2 x=none/\H2 T=none/\ExcX s2.heap x C T/\
 (X.s₀.heap.get? x=none/\x≠X.env.locals/\(∀ y c,X.env.cells.lookup y=some c->c≠x)/\∀ p∈X.pn++ad,p.1≠x)/\(X.s₀.heap.get? T=none/\T≠X.env.locals/\(∀ y c,X.env.cells.lookup y=some c->c≠T)/\∀ p∈X.pn++ad,p.1≠T)/\W x C σ2 H2
abbrev TEX:=St->Hp->VK->(Addr->Addr->Hp->Prop)->Prop
abbrev TBX:=Ends->WX->St->Hp->Prop
structure JX (X:Cx)(e:Expr)(t:TEX):Prop where
 h:∀ (ad:List (Addr×Obj)) (s:Shared) (σ:St) (H:Hp) (Q:VK) (W:Addr->Addr->Hp->Prop),Inv X ad σ H s->t σ H Q W->wpAny (model X.prog X.w) X.A (eval e X.env) (EP X ad σ Q) (RZ X ad fun x C σ2 H2=>σ2=σ/\W x C H2) s
structure JB (X:Cx)(body:List Stmt)(t:TBX):Prop where
 h:∀ (ad:List (Addr×Obj)) (s:Shared) (σ:St) (H:Hp) (D:Ends) (W:WX),Inv X ad σ H s->t D W σ H->wpAny (model X.prog X.w) X.A (execs body X.env) (SP X ad D) (RZ X ad W) s
def bRet (t:TEX):TBX:=fun D W σ H=>t σ H D.rt fun x C H2=>W x C σ H2
def Dh (D:Ends)(j:Nat):Ends:= { nx:=fun σ H=>D.nx (σ.set j none) H,rt:=D.rt,bk:=fun σ H=>D.bk (σ.set j none) H,ct:=fun σ H=>D.ct (σ.set j none) H}
def tTryB (K:W.Frag)(B:Addr)(j:Nat)(tb:TBX)(ts:Addr->TS):TS:=fun D σ H=>tb D (fun x C σ2 H2=>qR K C B/\ts x (Dh D j) (σ2.set j (some (.ref x))) (upd H2 x (.ext (excP x C)))) σ H
section
variable {y g:Str}{k:Nat}{te t1:TEX}
theorem RZ.out {ad:List (Addr×Obj)}{σ:St}{W':Addr->Addr->Hp->Prop}{W:WX}{ev:Value}{s:Shared}(h:RZ X ad (fun x C σ2 H2=>σ2=σ/\W' x C H2) ev s)(k:∀ x C H2,W' x C H2->W x C σ H2):RZ X ad W ev s:=by
 obtain⟨x,T,C,σ2,H2,e1,I2,a1,a2,a3,a4,a5,rfl,a6⟩:=h
 exact⟨x,T,C,_,H2,e1,I2,a1,a2,a3,a4,a5,k _ _ _ a6⟩
theorem jDJ (h:JX X e te):JB X [.Return (some e) rp] (bRet te):=by
 refine⟨fun ad s σ H D W I hq=>eL (wpAny_Return_some (aZ (h.h ad s σ H _ _ I hq) (fun u s1 ⟨x,H1,I1,r1,q1⟩=>?_) fun ev s1 z=>z.out fun _ _ _ q=>q))⟩
 exact⟨x,σ,H1,I1,r1,q1⟩
theorem Inv.lost {ad:List (Addr×Obj)}{σ:St}{H:Hp}{s:Shared}{h':Heap}{t':Nat}{v:Option Value}{m:Str->Option Value}(I:Inv X ad σ H s)(hN:X.N.Nodup)(hj:X.N[j]?=some n)(ln:X.env.scope.names.lookup n=some .local)(hm:s.heap.Ns X.env.locals m)(hl:∀ (i:Nat) (y:Str) (v:V),X.N[i]?=some y->σ[i]?=some (some v)->Vis X.env.scope y->∃ u,RelV v u/\Look X.env s.heap m y u)
  (hn:h'.Ns X.env.locals (fun x=>if x=n then v else m x)) (sb:Heap.SameBut X.env.locals s.heap h'):Inv X ad (σ.set j none) H { s with heap:=h',toks:=t'} :=by
 refine⟨I.ok,I.os,I.bare,I.base.sameBut sb I.ok.above,⟨_,hn,fun i y v e1 e2 e3=>?_⟩,fun y c e=>?_,I.free,I.freeC,fun p hp=>?_,I.hok.sameBut sb I.free,by rw[gy]; exact I.len⟩
 ·have nij:i≠j:=fun z=>by
   subst z
   by_cases hlt:i<σ.length
   ·rw[dY hlt] at e2
    cases e2
   ·rw[bn (by rw[gy]; omega)] at e2
    cases e2
  rw[eV (bo nij)] at e2
  have yn:y≠n:=fun z=>by
   subst z
   exact nij ((List.getElem?_inj (ay.mp e1).1 hN).mp (e1.trans hj.symm))
  obtain⟨u,r,l⟩:=hl i y v e1 e2 e3
  refine⟨u,r,?_⟩
  rcases l with ⟨lk,l⟩ | ⟨lk,c,hc,o,ho,hd⟩
  ·exact .inl ⟨lk,(av yn).trans l⟩
  ·exact .inr ⟨lk,c,hc,o,(sb.2 c (I.cne y c hc)).trans ho,hd⟩
 ·obtain⟨v,o,ho,hd⟩:=I.cell y c e
  exact⟨v,o,(sb.2 c (I.cne y c e)).trans ho,hd⟩
 ·obtain⟨e,n,ne,nf,d⟩:=I.pin p hp
  exact⟨(sb.2 _ ne).trans e,n,ne,nf,d⟩
theorem jRV {body:List Stmt}{s0:Stmt}{suite:List Stmt}{tb:TBX}{ts:Addr->TS}(hN:X.N.Nodup)(hn:X.N[j]?=some n)(ln:X.env.scope.names.lookup n=some .local)(hb:JB X body tb)
  (hc:Gl1 X c) (hmc:X.mg c=some (.ref B)) (hst:X.stack=X.env::X.outer) (hfr:X.env.frame=some X.env.locals) (hs:∀ x,JSs (jAL X x) (s0::suite) (ts x)) (hdc:(c==("__debug__" :Str))=false:=by decide):
  JS X (.Try body [.ExceptHandler (some (.Name c np)) (some n) (s0::suite) hp] [] [] tp) (tTryB X.K B j tb ts):=by
 refine⟨fun ad s σ H D I h=>wpAny_Try_except (aZ (hb.h ad s σ H D _ I h) (fun fl s1 q=>?_) fun ev s2 hz=>?_)⟩
 ·cases fl with
  | next=>exact cZ q
  | brk=>exact q
  | cont=>exact q
  | ret u=>exact q
 ·obtain⟨x,T,C,σ2,H2,rfl,I2,hx,hT,ex2,ax,aT,ab,q3⟩:=hz
  have fr:=I.ok.frames
  have st2:=I2.stack
  rw[hst] at fr st2
  refine jGO (base:=X.base) fr st2 hfr ex2 fun h3 T3 n3 e3 z3=>?_
  have I3:Inv X ad σ2 (upd H2 x (.ext (excP x C))) { s2 with heap:=h3} :=I2.held (by rw[hst]; exact n3) e3 hx hT ax aT
  refine wpAny_handleBy_cons (codeAny_handlers_test (jBV (X:=jAL X x) (I3.suite x) hc.a hmc ?_ hdc)) (by intro q; cases q)
  obtain⟨nm,q,nm',q',N,N',bs,bm,bs',bm',hdct,hdct',sn,sn',sub,sub',ab,ab',col,col',dd,dd',k0,k1,k2,k3,k5,j0,j1,j2,j3,j5,ni,ni',b1,b2,hK⟩:=ab
  obtain⟨c1,c2⟩:=hK h3 I3.kIn
  obtain⟨vs3,_,_,hx3,_⟩:=id e3
  refine jMB c1 c2 hx3 rfl b1 b2 ?_
  refine codeAny_handlers_suite_as (jFS (s:= { s2 with heap:=h3}) e3 fun h4 k4=>?_)
  have I4:Inv X ad σ2 (upd H2 x (.ext (excP x C))) { s2 with heap:=h4} :=I3.kept (h':=h4) (t':=s2.toks) k4
  refine jBD (X:=jAL X x) (v:= .ref x) (I4.suite x) hN hn (.inl ln) rfl (fun s5 I5=>?_) (.inr ln)
  refine aZ ((hs x).h ad s5 _ _ (Dh D j) I5 q3) (fun fl s6 q6=>?_) fun _ _ z=>False.elim z
  have go:∀ {σ6:St}{H6:Hp}{Q:Shared->Prop},Inv (jAL X x) ad σ6 H6 s6->(∀ s7,Inv X ad (σ6.set j none) H6 s7->Q s7)->wpAny (model X.prog X.w) X.A (do bindName X.env n .none; unbindBehindTheSuite X.env n hp) (fun _ s7=>Q s7) X.xe s6:=fun {σ6 H6 Q} I6 k=>by
   have I6:=I6.unsuite I.ok
   obtain⟨m6,hn6,hl6⟩:=id I6.loc
   exact wpAny_nameGoes_keeps ln hn6 (by rw[I.ok.kind]; rfl) fun h7 v hn7 sb7=>k _ (I6.lost hN hn ln hn6 hl6 hn7 sb7)
  cases fl with
  | next=>
   obtain⟨σ6,H6,I6,d6⟩:=q6
   exact go I6 fun s7 I7=>⟨_,H6,I7,d6⟩
  | brk=>
   obtain⟨σ6,H6,I6,d6⟩:=q6
   exact go I6 fun s7 I7=>⟨_,H6,I7,d6⟩
  | cont=>
   obtain⟨σ6,H6,I6,d6⟩:=q6
   exact go I6 fun s7 I7=>⟨_,H6,I7,d6⟩
  | ret u=>
   obtain⟨v,σ6,H6,I6,r6,d6⟩:=q6
   exact go I6 fun s7 I7=>⟨v,_,H6,I7,r6,d6⟩
end
def nfP (x q:Str)(args:Arguments)(body:List Stmt)(scope:Scope)(cl:List (Str×Addr))(a c:Addr):Heap->Prop:=fun h=>∃ doc pm ctv,h.get? a=some (fnMade x q args body scope cl doc pm c ctv)
def ncP (q:Str)(c:Addr):Heap->Prop:=fun h=>h.CodeRec (.ref c) q
noncomputable abbrev onePs (pos:Pos)(c:Addr):Array Value:=#[rawInt pos.line,rawInt pos.col, .ref c]
def TabOk (H:Hp)(T:Addr)(pos:Pos)(q:Str):Prop:=H T=some (.tbl #[])\/∃ c,H T=some (.tbl (onePs pos c))/\H c=some (.ext (ncP q c))
def ExtT (T:Addr)(H H':Hp):Prop:=∀ b o,H b=some o->b≠T->H' b=some o
def BltAt (base:Heap)(mg:Str->Option Value):Prop:=∃ bm o,mg "__builtins__" =some (.ref bm)/\bm≠builtinsNs/\bm≠mainGlobals/\base.get? bm=some o/\o.cls= .type "module" /\o.dict=some builtinsNs/\o.data= .plain
theorem nfP.stay {x q:Str}{args:Arguments}{body:List Stmt}{scope:Scope}{cl:List (Str×Addr)}{a c:Addr}(h1 h2:Heap)(p:nfP x q args body scope cl a c h1)(k:∀ o,h1.get? a=some o->h2.get? a=some o):nfP x q args body scope cl a c h2:=by
 obtain⟨d,m,t,e⟩:=p
 exact⟨d,m,t,k _ e⟩
theorem ncP.stay {q:Str}{c:Addr}(h1 h2:Heap)(p:ncP q c h1)(k:∀ o,h1.get? c=some o->h2.get? c=some o):ncP q c h2:=by
 obtain⟨c',o,vs,t,e,g,r⟩:=p
 cases e
 exact⟨c,o,vs,t,rfl,k _ g,r⟩
theorem ncP.is {q:Str}{c:Addr}{h:Heap}(p:ncP q c h):∃ o,h.get? c=some o:=by
 obtain⟨c',o,vs,t,e,g,r⟩:=p
 cases e
 exact⟨o,g⟩
def tDef (x q:Str)(args:Arguments)(body:List Stmt)(scope:Scope)(cl:List (Str×Addr))(T:Addr)(pos:Pos)(j:Nat):TS:=fun D σ H=>TabOk H T pos q/\∀ a c H',H' a=some (.ext (nfP x q args body scope cl a c))->H' c=some (.ext (ncP q c))->H' T=some (.tbl (onePs pos c))->ExtT T H H'->H a=none->D.nx (σ.set j (some (.ref a))) H'
section
variable {σ:St}
theorem Inv.laidX {h':Heap}{t':Nat}{φ:Heap->Prop}{a:Addr}(I:Inv X ad σ H s)(k:∀ b u,s.heap.get? b=some u->h'.get? b=some u)(hp:s.heap.objs.size<=a)(p:φ h')(ho:∃ o,h'.get? a=some o)(st:∀ h1 h2:Heap,φ h1->(∀ o,h1.get? a=some o->h2.get? a=some o)->φ h2):Inv X ad σ (upd H a (.ext φ)) { s with heap:=h',toks:=t'} :=
 I.laid k hp ⟨p,ho,st⟩
theorem Inv.grown {h':Heap}{t':Nat}{T c:Addr}{ps more:Array Value}{φ:Heap->Prop}(I:Inv X ad σ H s)(hT:H T=some (.tbl ps))(k:Heap.ExtBut T s.heap h')(e:h'.get? T=some { cls:= .none,data:= .fields (ps++more)})
  (hc:s.heap.objs.size<=c) (p:φ h') (ho:∃ o,h'.get? c=some o) (st:∀ h1 h2:Heap,φ h1->(∀ o,h1.get? c=some o->h2.get? c=some o)->φ h2):Inv X ad σ (upd (upd H T (.tbl (ps++more))) c (.ext φ)) { s with heap:=h',toks:=t'} :=by
 have hcn:H c=none:=I.hok.fresh hc
 have nT:∀ {b:Addr},H b=none->b≠T:=fun n z=>by rw[z,hT] at n; cases n
 have cT:T≠c:=fun z=>by rw[z,hcn] at hT; cases hT
 have nc:∀ {b:Addr}{o:Obj},s.heap.get? b=some o->b≠c:=fun q z=>absurd (ao q) (by rw[z]; exact not_lt.mpr hc)
 have mc:∀ {b:Addr}{o:HO},H b=some o->b≠c:=fun q=>jF q hcn
 refine I.un ⟨fun b o q n _ _=>k b o (nT n) q,fun b o q n _ _=>⟨o.slots,k b o (nT n) q⟩,fun b o q n _=>by rw[jD (nc q),jD (nT n)]; exact n,fun b o q _=>?_,fun b xs q=>?_,fun b o u q=>?_,fun b qs q=>?_⟩ fun b o q=>?_
 ·by_cases hb:b=T
  ·rw[hb]; exact⟨_,e⟩
  ·exact⟨o,k b o hb q⟩
 ·rw[jD (mc q),jD (fun z=>by rw[z,hT] at q; cases q)]; exact q
 ·rw[jD (mc q),jD (fun z=>by rw[z,hT] at q; cases q)]; exact q
 ·by_cases hb:b=T
  ·subst hb
   rw[hT] at q
   cases q
   exact⟨more,by rw[jD cT,jA]⟩
  ·exact⟨#[],by rw[jD (mc q),jD hb,q]; simp⟩
 ·by_cases hb1:b=c
  ·subst hb1
   rw[jA] at q
   cases q
   exact⟨p,ho,st⟩
  rw[jD hb1] at q
  by_cases hb:b=T
  ·subst hb
   rw[jA] at q
   cases q
   exact e
  ·rw[jD hb] at q
   refine(I.hok b o q).stay (fun d u hd z=>k d u ?_ z) (fun d z=>?_) fun d xs z=>?_
   ·rcases hd with rfl | hd
    ·exact hb
    ·exact fun y=>by rw[y,hT] at hd; cases hd
   ·rw[jD (mc z),jD (fun y=>by rw[y,hT] at z; cases z)]; exact z
   ·rw[jD (mc z),jD (fun y=>by rw[y,hT] at z; cases z)]; exact z
theorem jQZ {x:Str}{args:Arguments}{body:List Stmt}{scope:Scope}{pos:Pos}{c0 T:Addr}{j:Nat}(hN:X.N.Nodup)(hj:X.N[j]?=some x)(lx:Loc X.env.scope x)(hcode:X.env.code= .ref c0)(CH:PySem.W.CodeHd X.base c0 T)(hbm:BltAt X.base X.mg)
  (hfree:∀ y∈scope.names,y.2= .free->X.env.scope.names.lookup y.1=some .cell\/X.env.scope.names.lookup y.1=some .free) (hdf:defaultsOf args X.env=([],[])) (han:annTrees args none X.env=[])
  (hf:X.fn x=true\/X.env.scope.names.lookup x=some .local:=by first | exact .inl rfl | exact .inr rfl | assumption):
  PS X (.FunctionDef x args body [] none [] scope none x pos) (tDef x (qualnameIn X.env x x) args body scope (kG X.env.cells scope.names []) T pos j):=by
 intro ad s σ H D I h
 obtain⟨tab,h⟩:=h
 rw[exec_def,hdf,han]
 refine ac (df (ac (aO ?_)))
 refine ac (af (ac (aO (af (aO (ac (af ?_)))))))
 have hcl:closureFor scope X.env=pure (kG X.env.cells scope.names []):=jKT fun y hy hz=>I.ok.has y.1 (hfree y hy hz)
 have hg:s.heap.Ns mainGlobals X.mg:=I.mod.glob.keeps I.bk
 have C:=CH.keeps I.bk
 have gT:∀ {ps:Array Value},H T=some (.tbl ps)->mainGlobals≠T:=fun hT z=>by
  obtain⟨o,es,ep,e,_⟩:=I.mod.glob
  have:=(I.bs _ _ e).2
  rw[z,hT] at this
  cases this
 have bT:∀ {ps:Array Value},H T=some (.tbl ps)->s.heap.BuiltinsAt X.mg T:=fun hT=>by
  obtain⟨bm,o,h1,h2,h3,h4,h5,h6,h7⟩:=hbm
  refine⟨bm,o,h1,h2,h3,fun z=>?_,(I.bs _ _ h4).1,h5,h6,h7⟩
  have:=(I.bs _ _ h4).2
  rw[z,hT] at this
  cases this
 rcases tab with hT | ⟨c,hT,hc⟩
 ·refine PySem.W.makeFunction_K hcl I.ok.glob hg hcode C (I.hok T _ hT) trivial rfl (gT hT) (bT hT) fun c ctv doc h' tk k1 k2 k3 k4 k5=>?_
  obtain⟨oc,hoc⟩:=ncP.is (q:=qualnameIn X.env x x) k4
  have I1:Inv X ad σ (upd (upd H T (.tbl (#[]++onePs pos c))) c (.ext (ncP (qualnameIn X.env x x) c))) { s with heap:=h',toks:=tk} :=I.grown hT k1 k5 k2 k4 ⟨oc,hoc⟩ ncP.stay
  have I2:=I1.laidX (t':=tk) (a:=h'.objs.size) (φ:=nfP x (qualnameIn X.env x x) args body scope (kG X.env.cells scope.names []) h'.objs.size c) (h':=h'.push (fnMade x (qualnameIn X.env x x) args body scope (kG X.env.cells scope.names []) doc ((X.mg "__name__").getD .none) c ctv)) (fun b u q=>ae _ q) (aq _) ⟨doc,_,ctv,ak _ rfl⟩ ⟨_,ak _ rfl⟩ nfP.stay
  have hcn:H c=none:=I.hok.fresh k2
  have han:H h'.objs.size=none:=I.hok.fresh (bF k2 (dD k3))
  have ca:c≠h'.objs.size:=aF k3
  have Tc:T≠c:=fun z=>by rw[z,hcn] at hT; cases hT
  have Ta:T≠h'.objs.size:=fun z=>by rw[z,han] at hT; cases hT
  refine ac (df (ac (wpAny_bindName (jBD (v:= .ref h'.objs.size) I2 hN hj lx rfl (fun s' I'=>af ⟨_,_,I',?_⟩) hf))))
  refine h _ c _ jA (by rw[jD ca,jA]) (by rw[jD Ta,jD Tc,jA,Array.empty_append]) (fun b o e n=>?_) han
  rw[jD (jF e han),jD (jF e hcn),jD n]
  exact e
 ·refine PySem.W.makeFunction_hit (cv:= .ref c) hcl I.ok.glob hg hcode C (I.hok T _ hT) (by exact trivial) (by simp [codeAmong,rawInt]) (bT hT) fun ctv doc h' tk k1 k2=>?_
  have I2:=I.laidX (t':=tk) (a:=h'.objs.size) (φ:=nfP x (qualnameIn X.env x x) args body scope (kG X.env.cells scope.names []) h'.objs.size c) (h':=h'.push (fnMade x (qualnameIn X.env x x) args body scope (kG X.env.cells scope.names []) doc ((X.mg "__name__").getD .none) c ctv)) (fun b u q=>ae _ (k1 b u q)) k2 ⟨doc,_,ctv,ak _ rfl⟩ ⟨_,ak _ rfl⟩ nfP.stay
  have han:H h'.objs.size=none:=I.hok.fresh k2
  refine ac (df (ac (wpAny_bindName (jBD (v:= .ref h'.objs.size) I2 hN hj lx rfl (fun s' I'=>af ⟨_,_,I',?_⟩) hf))))
  refine h _ c _ jA (by rw[jD (jF hc han)]; exact hc) (by rw[jD (jF hT han)]; exact hT) (fun b o e n=>?_) han
  rw[jD (jF e han)]
  exact e
end
theorem jEP {β:Type}{x:Str} :∀ {l:List (Str×β)},(∀ v,(x,v)∉l)->l.lookup x=none
 | [],_=>rfl
 | (y,v)::r,h=>by
  rw[aY,bD.mpr (fun e=>h v (by rw[e]; exact aJ))]
  exact jEP fun w hw=>h w (aI _ hw)
theorem jBU {β:Type}{x:Str} :∀ {l m:List (Str×β)},(l++m).lookup x=(l.lookup x).or (m.lookup x)
 | [],_=>rfl
 | (y,v)::r,m=>by
  rw[List.cons_append,aY,aY,jBU]
  cases x==y <;> rfl
theorem jDF:∀ {ps:List Str}{us:List Value}{i:Nat}{x:Str}{u:Value},ps.Nodup->ps[i]?=some x->us[i]?=some u->(ps.zip us).reverse.lookup x=some u
 | [],_,_,_,_,_,h,_=>by simp at h
 | _::_,[],_,_,_,_,_,h=>by simp at h
 | p::ps,w::us,0,x,u,nd,h1,h2=>by
  simp at h1 h2
  subst h1 h2
  rw[hW,d9,jBU,jEP fun v hv=>(bS.mp nd).1 (db (List.mem_reverse.mp hv)).1,aY,beq_self_eq_true]
  rfl
 | p::ps,w::us,i+1,x,u,nd,h1,h2=>by
  rw[hW,d9,jBU,jDF (i:=i) (bS.mp nd).2 (by simpa using h1) (by simpa using h2)]
  rfl
noncomputable def cxN (P:Program)(w:World)(K:W.Frag)(mg:Str->Option Value)(base:Heap)(N:List Str)(qual:Str)(scope:Scope)(f:Addr)(cd:Value)(cl:List (Str×Addr))(A:Around)(outer:List Env)(s:Shared)(H:Hp):Cx where
 prog:=P
 w:=w
 K:=K
 mg:=mg
 base:=base
 A:=A.deeper (envX qual scope s.heap.objs.size f cd cl)
 N:=N
 s₀:=s
 H₀:=H
 env:=envX qual scope s.heap.objs.size f cd cl
 outer:=outer
 stack:=envX qual scope s.heap.objs.size f cd cl::outer
 ex:=[]
 calm:=true
 fn:=fun _=>false
 pn:=[]
 xe:=fun _ _=>False
structure ClOk (cl:List (Str×Addr))(s:Shared)(H:Hp):Prop where
 inj:∀ x y c,cl.lookup x=some c->cl.lookup y=some c->x=y
 cell:∀ x c,cl.lookup x=some c->(∃ v,s.heap.IsCell c v)/\H c=none
def FvOk (fs:List Str)(fv:List V)(cl:List (Str×Addr))(s:Shared):Prop:=fv.length=fs.length/\∀ (i:Nat) (x:Str) (v:V),fs[i]?=some x->fv[i]?=some v->∃ c u,cl.lookup x=some c/\RelV v u/\s.heap.IsCell c (some u)
structure NScope (N ps fs:List Str)(sc:Scope):Prop where
 kind:sc.kind= .function
 co:sc.isCoroutine=false
 gen:sc.isGenerator=false
 nd:N.Nodup
 pre:N.take (ps.length+fs.length)=ps++fs
 par:∀ x∈ps,sc.names.lookup x=some .local
 fre:∀ x∈fs,sc.names.lookup x=some .free
 all:∀ x,sc.names.lookup x=some .free->x∈fs
 nocell:∀ y∈sc.names,y.2≠ .cell
def jCL (N:List Str)(vs fv:List V):St:=start N (vs++fv)
variable {scope:Scope}{cd:Value}{cl:List (Str×Addr)}{fv:List V}
section
variable {K:W.Frag}{fs:List Str}{us:List Value}{vs:List V}
theorem jI4 {h1:Heap}{tk:Nat}(S:NScope N ps fs scope)(hd:A.handled=none)(e0:Env0 P w K mg base A outer s H)(hl:us.length=ps.length)(r:Vals vs us)(C:ClOk cl s H)(Fv:FvOk fs fv cl s)
  (ns:h1.Ns s.heap.objs.size fun x=>(ps.zip us).reverse.lookup x) (hk:∀ b o,s.heap.get? b=some o->h1.get? b=some o):
  Inv (cxN P w K mg base N qual scope f cd cl A outer s H) [] (jCL N vs fv) H { s with heap:=h1,toks:=tk} :=by
 have hpl:ps.length+fs.length<=N.length:=by have:=bO List.length S.pre; rw[bJ,aD] at this; omega
 have noA:∀ b:Addr,b∉(cxN P w K mg base N qual scope f cd cl A outer s H).ex:=fun b z=>absurd (show b∈([]:List Addr) from z) (by simp)
 have vl:vs.length=ps.length:=r.length.trans hl
 refine⟨⟨e0.mod,S.kind,rfl,rfl,aq _,C.inj,fun y hy=>?_,fun y c z=>(nomatch z),fun _=>hd,eY e0.frames, .inr ⟨rfl,rfl⟩,fun b z=>absurd z (noA b),e0.bs,e0.bsz,fun b _ _=>noA b,fun b z=>absurd z (noA b),e0.funs,e0.frf⟩,
  rfl,e0.bare,Un.kept hk,⟨_,ns,fun i y v h1' h2 h3=>?_⟩,fun y c h=>?_,e0.hok.fresh (aq _),fun y c h=>(C.cell y c h).2,fun p hp=>absurd (show p∈([]:List (Addr×Obj)) from hp) (by simp),e0.hok.kept hk,?_⟩
 ·have hy:scope.names.lookup y=some .cell\/scope.names.lookup y=some .free:=hy
  rcases hy with hy | hy
  ·exact absurd rfl (S.nocell _ (bQ hy))
  ·have m:=S.all y hy
   obtain⟨i,hi⟩:=List.getElem?_of_mem m
   have hi2:i<fv.length:=by rw[Fv.1]; exact(ay.mp hi).1
   obtain⟨c,u,e,_⟩:=Fv.2 i y fv[i] hi (by simp [hi2])
   exact⟨c,e⟩
 ·have h1':N[i]?=some y:=h1'
  have hlen:(vs++fv).length=ps.length+fs.length:=by rw[aD,vl,Fv.1]
  have hi:i<(vs++fv).length:=by
   unfold jCL start at h2
   by_cases hi:i<(vs++fv).length
   ·exact hi
   ·rw[bt (by simpa using hi)] at h2
    rw[gi] at h2
    split at h2 <;> cases h2
  have hv:(vs++fv)[i]?=some v:=by
   unfold jCL start at h2
   rw[bV (by simpa using hi),aL] at h2
   cases e:(vs++fv)[i]? with
   | none=>rw[e] at h2; cases h2
   | some a=>rw[e] at h2; cases h2; rfl
  have hy:(ps++fs)[i]?=some y:=by
   rw[<- S.pre,gc (by omega)]
   exact h1'
  by_cases hi1:i<ps.length
  ·rw[bV hi1] at hy
   rw[bV (by omega)] at hv
   obtain⟨u,hu,rv⟩:=r.get hv
   have ndP:ps.Nodup:=by
    have:(ps++fs).Nodup:=by rw[<- S.pre]; exact S.nd.sublist (fX _ _)
    exact(List.nodup_append.mp this).1
   exact⟨u,rv, .inl ⟨S.par y (aP hy),jDF ndP hy hu⟩⟩
  ·rw[bt (by omega)] at hy
   rw[bt (by omega),vl] at hv
   obtain⟨c,u,e,rv,o,ho,hd⟩:=Fv.2 _ y v hy hv
   exact⟨u,rv, .inr ⟨.inr (S.fre y (aP hy)),c,e,o,hk _ _ ho,hd⟩⟩
 ·obtain⟨⟨v,o,ho,hd⟩,_⟩:=C.cell y c h
  exact⟨v,o,hk _ _ ho,hd⟩
 ·unfold jCL start
  show _=N.length
  rw[aD,ag,eF,aD,vl,Fv.1]
  omega
end
structure FnN (P:Program)(w:World)(K:W.Frag)(mg:Str->Option Value)(base:Heap)(k:Nat)(x q:Str)(args:Arguments)(body:List Stmt)(scope:Scope)(ps fs:List Str)(sp:List V->Sp):Prop where
 len:∀ fv vs H Q E,sp fv vs H Q E->vs.length=ps.length
 run:∀ (A:Around) (outer:List Env) (s:Shared) (H:Hp) (a c:Addr) (cl:List (Str×Addr)) (us:List Value) (vs fv:List V) (Q:VK) (E:XK),Room k A->Env0 P w K mg base A outer s H->nfP x q args body scope cl a c s.heap->ncP q c s.heap->ClOk cl s H->FvOk fs fv cl s->Vals vs us->sp fv vs H Q E->
  codeAny (model P w) A (.call (.ref a) ⟨us,[]⟩) (CR CX0 outer P w H s Q E) s
theorem jS3 {P:Program}{w:World}{K:W.Frag}{mg:Str->Option Value}{base:Heap}{k:Nat}{x q:Str}{args:Arguments}{body:List Stmt}{scope:Scope}{N ps fs:List Str}{sp:List V->Sp}(S:NScope N ps fs scope)(len:∀ fv vs H Q E,sp fv vs H Q E->vs.length=ps.length)
  (hb:∀ cl doc pm c ctv (us:List Value),us.length=ps.length->bindArgs (PySem.W.fnX x q args body scope cl .none .none doc pm none (.ref c) ctv) ⟨us,[]⟩=pure (ps.zip us))
  (hbody:∀ (A:Around) (outer:List Env) (s:Shared) (H:Hp) (a c:Addr) (cl:List (Str×Addr)) (vs fv:List V) (Q:VK) (E:XK),Room k (A.deeper (envX q scope s.heap.objs.size a (.ref c) cl))->sp fv vs H Q E->
   ∃ t,PSs (cxN P w K mg base N q scope a (.ref c) cl A outer s H) body t/\t { nx:=fun _ H'=>Q .non H',rt:=Q} (jCL N vs fv) H):
  FnN P w K mg base (k+1) x q args body scope ps fs sp:=by
 refine⟨len,fun A outer s H a c cl us vs fv Q E hr e0 hf hc C Fv r hsp=>?_⟩
 have hl:us.length=ps.length:=r.length.symm.trans (len _ _ _ _ _ hsp)
 obtain⟨doc,pm,ctv,ho⟩:=hf
 have lim:s.heap.NoLimit:=e0.mod.nolimit.keeps fun b o e=>(e0.bs b o e).1
 refine codeAny_call_def (body:=body) (binds:=ps.zip us) hr.depth ho rfl lim hc rfl (.of_eq (hb cl doc pm c ctv us hl)) S.nocell (fun y hy=>S.par y.1 (db hy).1) (fun h1 ns hk=>?_) S.co S.gen S.kind
 obtain⟨t,ht,hq⟩:=hbody A outer s H a c cl vs fv Q E (hr.deeper _) hsp
 have I:Inv (cxN P w K mg base N q scope a (.ref c) cl A outer s H) [] (jCL N vs fv) H { s with heap:=h1,toks:=s.toks+(ps.zip us).length} :=jI4 S hr.hd e0 hl r C Fv ns hk
 refine aZ (ht [] _ (jCL N vs fv) H _ I hq) (fun fl s' hs=>?_) fun e s' hs=>False.elim hs
 have fin:∀ {σ':St}{H':Hp}{v:V}{u:Value},Inv (cxN P w K mg base N q scope a (.ref c) cl A outer s H) [] σ' H' s'->RelV v u->Q v H'->CE outer P w H s Q u s':=
  fun {σ' H' v u} J rv q=>⟨v,H',J.os,J.bare,J.base,J.hok,rv,q⟩
 cases fl with
 | ret u=>
  obtain⟨v,σ',H',J,rv,q⟩:=hs
  exact fin J rv q
 | next=>
  obtain⟨σ',H',J,q⟩:=hs
  exact fin (v:=V.non) (u:=Value.none) J rfl q
 | brk=>
  obtain⟨_,_,_,q⟩:=hs
  exact False.elim q
 | cont=>
  obtain⟨_,_,_,q⟩:=hs
  exact False.elim q
def jGC (σ:St)(is:List Nat)(fv:List V):Prop:=is.map (fun i=>(σ[i]?).getD none)=fv.map some
def tNest (σ0:Option St)(j:Nat)(is:List Nat)(x q:Str)(args:Arguments)(body:List Stmt)(scope:Scope)(cl:List (Str×Addr))(sp:List V->Sp)(t:TA):TE:=fun σ H Q=>∃ a,σ[j]?=some (some (.ref a))/\t σ H fun vs H1=>∃ c fv,H1 a=some (.ext (nfP x q args body scope cl a c))/\H1 c=some (.ext (ncP q c))/\jGC (σ0.getD σ) is fv/\sp fv vs H1 Q E0
section
variable {σ:St}{fs:List Str}{is:List Nat}
def FsAt (X:Cx)(fs:List Str)(is:List Nat):Prop:=is.length=fs.length/\∀ (k:Nat) (x:Str),fs[k]?=some x->∃ i,is[k]?=some i/\X.N[i]?=some x/\(X.env.scope.names.lookup x=some .cell\/X.env.scope.names.lookup x=some .free)
theorem Inv.clOk (I:Inv X ad σ H s)(hfree:∀ y∈scope.names,y.2= .free->X.env.scope.names.lookup y.1=some .cell\/X.env.scope.names.lookup y.1=some .free):ClOk (kG X.env.cells scope.names []) s H:=by
 have sub:∀ x c,(kG X.env.cells scope.names []).lookup x=some c->X.env.cells.lookup x=some c:=jA8 scope.names [] (fun y hy hf=>I.ok.has y.1 (hfree y hy hf)) (fun x c e=>by cases e)
 exact⟨fun x y c h1 h2=>I.ok.inj x y c (sub x c h1) (sub y c h2),fun x c h=>⟨I.cell x c (sub x c h),I.freeC x c (sub x c h)⟩⟩
theorem Inv.fvOk (I:Inv X ad σ H s)(hfree:∀ y∈scope.names,y.2= .free->X.env.scope.names.lookup y.1=some .cell\/X.env.scope.names.lookup y.1=some .free)(hfs:∀ x∈fs,scope.names.lookup x=some .free)(ha:FsAt X fs is)(hs:jGC σ is fv):FvOk fs fv (kG X.env.cells scope.names []) s:=by
 have hl:fv.length=fs.length:=by
  have:=bO List.length hs
  rw[ag,ag] at this
  rw[<- this,ha.1]
 refine⟨hl,fun k x v h1 h2=>?_⟩
 obtain⟨i,hi,hN,hk⟩:=ha.2 k x h1
 have e:(σ[i]?).getD none=some v:=by
  have:=bO (fun l=>l[k]?) hs
  simp only [aL,hi,h2,map_some] at this
  exact aM this
 have e2:σ[i]?=some (some v):=by
  cases q:σ[i]? with
  | none=>rw[q] at e; cases e
  | some z=>rw[q] at e; exact bO some e
 obtain⟨m,hn,hl⟩:=I.loc
 obtain⟨u,r,l⟩:=hl i x v hN e2 (.inr hk)
 obtain⟨c,hc⟩:=jAI (cells:=X.env.cells) (x:=x) scope.names [] (.inl (jAG (hfs x (aP h1))))
 have sub:=jA8 (cells:=X.env.cells) scope.names [] (fun y hy hf=>I.ok.has y.1 (hfree y hy hf)) (fun x c e=>by cases e) x c hc
 rcases l with ⟨lk,_⟩ | ⟨_,c',hc',z⟩
 ·have lk':X.env.scope.names.lookup x=some .local:=lk
  rcases hk with z | z <;> rw[lk'] at z <;> cases z
 ·rw[sub] at hc'
  cases hc'
  exact⟨c,u,hc,r,z⟩
end
section
variable {k:Nat}{q:Str}{args:Arguments}{body:List Stmt}{fs:List Str}{is:List Nat}{sp:List V->Sp}
theorem jGG {Y:Cx}{ad:List (Addr×Obj)}{σ:St}{H:Hp}{s:Shared}{Q:VK}{cl:List (Str×Addr)}{a c:Addr}{us:List Value}{vs fv:List V}(F:FnN Y.prog Y.w Y.K Y.mg Y.base k x q args body scope ps fs sp)(hr:Room k Y.A)(I:Inv Y ad σ H s)(h1:H a=some (.ext (nfP x q args body scope cl a c)))(h2:H c=some (.ext (ncP q c)))(C:ClOk cl s H)(Fv:FvOk fs fv cl s)(r:Vals vs us)(hs:sp fv vs H Q E0):
  wpAny (model Y.prog Y.w) Y.A (call (.ref a) us) (EP Y ad σ Q) Y.xe s:=by
 obtain⟨p1,_,_⟩:=(show ObjOk Y.prog Y.w H s.heap a (.ext _) from I.hok a _ h1)
 obtain⟨p2,_,_⟩:=(show ObjOk Y.prog Y.w H s.heap c (.ext _) from I.hok c _ h2)
 refine dP (b9 (F.run Y.A Y.stack s H a c cl us vs fv Q E0 hr I.env0 p1 p2 C Fv r hs) fun r s' hq=>?_)
 cases r with
 | error e=>exact hq.elim
 | ok fl=>
  cases fl with
  | ret u=>exact I.after hq
  | next=>exact False.elim hq
  | brk=>exact False.elim hq
  | cont=>exact False.elim hq
theorem jKK {Y:Cx}{ad:List (Addr×Obj)}{σ:St}{H:Hp}{s:Shared}{cl:List (Str×Addr)}{a c:Addr}(I:Inv Y ad σ H s)(h1:H a=some (.ext (nfP x q args body scope cl a c))):PySem.W.FnAt a s.heap:=by
 obtain⟨⟨d,m,t,e⟩,_,_⟩:=(show ObjOk Y.prog Y.w H s.heap a (.ext _) from I.hok a _ h1)
 exact⟨_,_,_,_,e⟩
theorem jPV (F:FnN X.prog X.w X.K X.mg X.base k x q args body scope ps fs sp)(hr:Room k X.A)(hN:X.N[j]?=some x)(hv:Vis1 X x)(hfree:∀ y∈scope.names,y.2= .free->X.env.scope.names.lookup y.1=some .cell\/X.env.scope.names.lookup y.1=some .free)(hfs:∀ x∈fs,scope.names.lookup x=some .free)(hat:FsAt X fs is)
  (ha:JA X (e::es) t) (he:starEach (e::es) X.env=(false,eval e X.env)::starEach es X.env) (hdb:(x==("__debug__" :Str))=false:=by decide) (hcd:(x==("__classdict__" :Str))=false:=by decide) (hpl:(backTo pos (starEach es X.env)).any (·.1)=false:=by rfl):
  JE X (.Call (.Name x p) (e::es) [] pos) (tNest none j is x q args body scope (kG X.env.cells scope.names []) sp t):=by
 refine⟨fun ad s σ H Q I h=>?_⟩
 obtain⟨a,hj,h⟩:=h
 refine bY (ir (jGL (pos:=p) hN hv.a hdb hcd ad s σ H (fun v H'=>v= .ref a/\H'=H) I ⟨_,hj,rfl,rfl⟩) fun v s1 ⟨v',H1,I1,r1,q1,q2⟩=>?_)
 subst q1 q2
 cases (show v=Value.ref a from r1)
 have hX:=ir (ha.h pos ad s1 σ H1 _ I1 h) fun us s2 (z:AP X ad σ _ us s2)=>show PySem.W.FnAt a s2.heap/\wpAny (model X.prog X.w) X.A (call (.ref a) ([]++us)) (EP X ad σ Q) X.xe s2 from by
  obtain⟨vs,H2,I2,r,c,fv,h1,h2,h3,h4⟩:=z
  exact⟨jKK I2 h1,jGG F hr I2 h1 h2 (I2.clOk hfree) (I2.fvOk hfree hfs hat h3) r h4⟩
 rw[he] at hX ⊢
 exact gS (by show ((false || (backTo pos (starEach es X.env)).any (·.1)) || false)=false; rw[hpl]; rfl) keeps_F (dq hX)
theorem jMG {sc:Scope}{cl:List (Str×Addr)}{C:Addr}{Nc:List Str}{fp:List Addr}{s0:Shared}{H0:Hp}{ad0:List (Addr×Obj)}{σ0:St}(I0:Inv X ad0 σ0 H0 s0)(hfp:∀ b∈fp,FpOk X ad0 H0 b)
  (F:FnN X.prog X.w X.K X.mg X.base k x q args body scope ps fs sp) (hr:Room k X.A) (hN:Nc[j]?=some x) (hv:Vis1 (blk X sc cl C Nc fp s0 H0) x) (hfree:∀ y∈scope.names,y.2= .free->X.env.scope.names.lookup y.1=some .cell\/X.env.scope.names.lookup y.1=some .free) (hfs:∀ x∈fs,scope.names.lookup x=some .free) (hat:FsAt X fs is)
  (ha:JA (blk X sc cl C Nc fp s0 H0) (e::es) t) (he:starEach (e::es) (blk X sc cl C Nc fp s0 H0).env=(false,eval e (blk X sc cl C Nc fp s0 H0).env)::starEach es (blk X sc cl C Nc fp s0 H0).env) (hdb:(x==("__debug__" :Str))=false:=by decide) (hcd:(x==("__classdict__" :Str))=false:=by decide) (hpl:(backTo pos (starEach es (blk X sc cl C Nc fp s0 H0).env)).any (·.1)=false:=by rfl):
  JE (blk X sc cl C Nc fp s0 H0) (.Call (.Name x p) (e::es) [] pos) (tNest (some σ0) j is x q args body scope (kG X.env.cells scope.names []) sp t):=by
 have sub:∀ x c,(kG X.env.cells scope.names []).lookup x=some c->X.env.cells.lookup x=some c:=jA8 scope.names [] (fun y hy hf=>I0.ok.has y.1 (hfree y hy hf)) (fun x c e=>by cases e)
 have nfp:∀ {x c},X.env.cells.lookup x=some c->c∉fp:=fun {x c} h z=>(hfp c z).2.2.2.2.1 x c h rfl
 refine⟨fun ad s σ H Q I h=>?_⟩
 obtain⟨a,hj,h⟩:=h
 refine bY (ir (jGL (pos:=p) (show (blk X sc cl C Nc fp s0 H0).N[j]?=some x from hN) hv.a hdb hcd ad s σ H (fun v H'=>v= .ref a/\H'=H) I ⟨_,hj,rfl,rfl⟩) fun v s1 ⟨v',H1,I1,r1,q1,q2⟩=>?_)
 subst q1 q2
 cases (show v=Value.ref a from r1)
 have hX:=ir (ha.h pos ad s1 σ H1 _ I1 h) fun us s2 (z:AP (blk X sc cl C Nc fp s0 H0) ad σ _ us s2)=>show PySem.W.FnAt a s2.heap/\wpAny (model X.prog X.w) X.A (call (.ref a) ([]++us)) (EP (blk X sc cl C Nc fp s0 H0) ad σ Q) (blk X sc cl C Nc fp s0 H0).xe s2 from by
  obtain⟨vs,H2,I2,r,c,fv,h1,h2,h3,h4⟩:=z
  have un:Un (frs X.stack) fp H0 H2 s0.heap s2.heap:=I2.base
  have cellK:∀ {y d v},X.env.cells.lookup y=some d->s0.heap.IsCell d v->s2.heap.IsCell d v:=fun {y d v} hd ⟨o,ho,hq⟩=>by
   obtain⟨sl,e⟩:=un.any ho (I0.freeC y d hd) (nfp hd)
   exact⟨_,e,hq⟩
  have C0:=I0.clOk hfree
  obtain⟨f1,f2⟩:=I0.fvOk hfree hfs hat h3
  refine⟨jKK I2 h1,jGG (Y:=blk X sc cl C Nc fp s0 H0) F hr I2 h1 h2 ⟨C0.inj,fun y d hd=>?_⟩ ⟨f1,fun i y v e1 e2=>?_⟩ r h4⟩
  ·obtain⟨⟨v,z⟩,n⟩:=C0.cell y d hd
   obtain⟨o,ho,hq⟩:=id z
   exact⟨⟨v,cellK (sub y d hd) z⟩,un.free d o ho n (nfp (sub y d hd))⟩
  ·obtain⟨d,u,g1,g2,g3⟩:=f2 i y v e1 e2
   exact⟨d,u,g1,g2,cellK (sub y d g1) g3⟩
 rw[he] at hX ⊢
 exact gS (by show ((false || (backTo pos (starEach es (blk X sc cl C Nc fp s0 H0).env)).any (·.1)) || false)=false; rw[hpl]; rfl) keeps_F (dq hX)
end
def jND (m:List (Option Nat))(wi:TI)(g:TG)(tt:TT)(te:St->TE):TE:=fun σ H Q=>wi σ H (qZ m g tt (te σ) σ Q)
section
variable {te:St->TE}
theorem jLV (hc:X.calm=true)(hi:PI X tg iter wi)(hkind:sc.kind= .function)(hcell:∀ y∈sc.names,y.2≠ .cell)(hnames:∀ y∈sc.names,y.2= .local->sc.names.lookup y.1=some .local)
  (hfree:∀ y∈sc.names,y.2= .free->X.env.scope.names.lookup y.1=some .cell\/X.env.scope.names.lookup y.1=some .free) (hm:jB6 X sc Nc m)
  (hg:∀ cl C fp s H,PG (blk X sc cl C Nc fp s H) tg g) (ht:∀ cl C fp s H,PTs (blk X sc cl C Nc fp s H) ifs tt) (he:∀ cl C fp s H ad σ,Inv X ad σ H s->(∀ b∈fp,FpOk X ad H b)->PE (blk X sc cl C Nc fp s H) elt (te σ))
  (hs:∀ x,foldedSetIterable iter X.env x=pure x:=by intro _; rfl):PE X (.ListComp elt [⟨tg,iter,ifs,0⟩] sc pos) (jND m wi g tt te):=by
 intro ad s σ H Q I h
 rw[eval_ListComp]
 exact jE5 (tf:=te) (use:=none) hc hi hkind hcell hnames hfree hm hg ht he hs I h (fun D C H5 z1 r ⟨mm,hn⟩ fC sb q=>⟨mm,hn,fun h' s2=>⟨.ref D,H5,sb h' s2,rfl,q⟩⟩)
theorem jMI (hc:X.calm=true)(hi:JI X tg iter wi)(hkind:sc.kind= .function)(hcell:∀ y∈sc.names,y.2≠ .cell)(hnames:∀ y∈sc.names,y.2= .local->sc.names.lookup y.1=some .local)
  (hfree:∀ y∈sc.names,y.2= .free->X.env.scope.names.lookup y.1=some .cell\/X.env.scope.names.lookup y.1=some .free) (hm:jB6 X sc Nc m)
  (hg:∀ cl C fp s H,JG (blk X sc cl C Nc fp s H) tg g) (ht:∀ cl C fp s H,JTs (blk X sc cl C Nc fp s H) ifs tt) (he:∀ cl C fp s H ad σ,Inv X ad σ H s->(∀ b∈fp,FpOk X ad H b)->JE (blk X sc cl C Nc fp s H) elt (te σ))
  (hs:FoOk iter):JE X (.ListComp elt [⟨tg,iter,ifs,0⟩] sc pos) (jND m wi g tt te):=⟨jLV hc hi.h hkind hcell hnames hfree hm (fun cl C fp s H=>(hg cl C fp s H).h) (fun cl C fp s H=>(ht cl C fp s H).h) (fun cl C fp s H ad σ I f=>(he cl C fp s H ad σ I f).h) (hs.h _)⟩
end
def jS8 (Ts:List Addr)(H:Hp):Prop:=∀ b,H b=none\/(∃ o xs,H b=some (.frz o (.lst xs)))\/b∈Ts
theorem jI3 {cts:List (Addr×Addr)}{P:Program}{w:World}{K:W.Frag}{mg mb:Str->Option Value}{CX:CXT}{k:Nat}{fa a:Addr}{fd:FuncData}{x:Str}{sp:Sp}{s₁:Shared}{vs:List Value}{ns:List Int}
  (KX:K.In s₁.heap) (hns:s₁.heap.Ns mainGlobals mg) (hb:s₁.heap.Ns builtinsNs mb) (hbb:∀ x:Str,x≠ "__name__" ->mb x=bootBuiltins x) (hlim:s₁.heap.NoLimit) (hg:s₁.gens=#[])
  (ha:s₁.heap.get? a=some { cls:= .type "list",data:= .seq vs.toArray}) (hi:IntsAre vs ns) (hl:ns.length<=sizeLine) (hr:Room k callerA) (hT:∀ T∈cts.map (·.2),s₁.heap.get? T=some (tabObj #[])) (CH:∀ p∈cts,PySem.W.CodeHd s₁.heap p.1 p.2) (hKT:∀ T∈cts.map (·.2),K.lookup T=none)
  (F:∀ base:Heap,K.In base->base.Ns mainGlobals mg->FnOk P w K mg base CX k fa fd [x] sp) (hbind:∀ (s:Shared) (u:Value),BindsTo s fd ⟨[u],[]⟩ [(x,u)])
  (hsp:∀ H:Hp,(∀ T∈cts.map (·.2),H T=some (.tbl #[]))->SqL K H a (ns.map V.int)->sp [.ref a] H (fun v _=>v= .bl true) fun _ _ _=>False)
  (hCX:∀ H e s',CX [] H s₁ (fun _ _ _=>False) e s'->False):
  codeAny (model P w) callerA (.call (.ref fa) ⟨[.ref a],[]⟩) (fun r s'=>r= .ok (.ret (.bool true))/\OldK s₁.heap s'.heap/\s'.os=s₁.os/\AllBare s'.gens) s₁:=by
 have rv:=jEA hi
 have lenV:=hi.length
 have core:∀ H:Hp,jS8 (cts.map (·.2)) H->(∀ T∈cts.map (·.2),H T=some (.tbl #[]))->SqL K H a (ns.map V.int)->HOk P w H s₁.heap->(∀ b,H b≠none->b=a\/b∈cts.map (·.2))->(H a≠none->K.lookup a=none)->
   codeAny (model P w) callerA (.call (.ref fa) ⟨[.ref a],[]⟩) (fun r s'=>r= .ok (.ret (.bool true))/\OldK s₁.heap s'.heap/\s'.os=s₁.os/\AllBare s'.gens) s₁:=by
  intro H hO hHT hS hok hA hK
  have base_of:∀ {b:Addr}{o:Obj},s₁.heap.get? b=some o->H b=none->(hidT s₁.heap H).get? b=some o:=fun e n=>jMM e n
  have noA:∀ {b:Addr}{o:Obj}{es:Array DictEntry}{ep:Nat},s₁.heap.get? b=some o->o.data= .dict es ep->H b=none:=fun {b o es ep} e d=>by
   cases q:H b with
   | none=>rfl
   | some u=>
    rcases hA b (by rw[q]; simp) with e' | e'
    ·subst e'
     rw[ha] at e; cases e
     have d':Data.seq vs.toArray _=Data.dict es ep:=d
     cases d'
    ·rw[hT b e'] at e; cases e
     have d':Data.fields _=Data.dict es ep:=d
     cases d'
  have nsK:∀ {b:Addr}{m:Str->Option Value},s₁.heap.Ns b m->(hidT s₁.heap H).Ns b m:=fun {b m} ⟨o,es,ep,e,d,r⟩=>⟨o,es,ep,base_of e (noA e d),d,r⟩
  have hKb:K.In (hidT s₁.heap H):=fun b o e=>base_of (KX b o e) (by
   cases q:H b with
   | none=>rfl
   | some u=>
    rcases hA b (by rw[q]; simp) with e' | e'
    ·subst e'
     rw[hK (by rw[q]; simp)] at e; cases e
    ·rw[hKT b e'] at e; cases e)
  have hM:Mod K mg (hidT s₁.heap H):=⟨hKb,nsK hns,⟨mb,nsK hb,hbb⟩,let ⟨mc,h1,h2⟩:=hlim; ⟨mc,nsK h1,h2⟩⟩
  have e0:Env0 P w K mg (hidT s₁.heap H) callerA [] s₁ H:=⟨rfl,hM,fun b o e=>jPO e,Nat.le_of_eq (jKH _ _),trivial,fun b hb=>absurd (show b∈([]:List Addr) from hb) (by simp),hok, .of_eq hg⟩
  refine b9 ((F _ hKb (nsK hns)).run callerA [] s₁ H ⟨[.ref a],[]⟩ [.ref a] [.ref a] _ _ hr e0 (hbind s₁ (.ref a)) (.cons rfl .nil) (hsp H hHT hS)) fun r s' h=>?_
  cases r with
  | error e=>exact(hCX H e s' h).elim
  | ok fl=>
   cases fl with
   | next=>exact False.elim h
   | brk=>exact False.elim h
   | cont=>exact False.elim h
   | ret u=>
    obtain⟨v,H',os,bare,un,hok',r',q⟩:=h
    have q':v= .bl true:=q
    subst q'
    obtain rfl:u=Value.bool true:=r'
    have gr:∀ T∈cts.map (·.2),∃ more,s'.heap.get? T=some (tabObj (#[]++more)):=fun T hTm=>by
     obtain⟨more,z⟩:=un.tbls T _ (hHT T hTm)
     exact⟨more,hok' T _ z⟩
    have kp:∀ b o,b∉cts.map (·.2)->s₁.heap.get? b=some o->s'.heap.get? b=some o:=fun b o hbT e=>?_
    ·refine⟨rfl,⟨fun b o e=>?_,fun b o e=>?_⟩,os,bare⟩
     ·by_cases hb:b∈cts.map (·.2)
      ·obtain⟨p,hp,rfl⟩:=bc.mp hb
       have q:=hT _ hb
       rw[q] at e
       cases e
       obtain⟨more,z⟩:=gr _ hb
       exact .inr (.inl ⟨((CH p hp).tab q).isCodeTable,rfl,#[],more,rfl,z⟩)
      ·exact .inl (kp b o hb e)
     ·by_cases hb:b∈cts.map (·.2)
      ·obtain⟨more,z⟩:=gr _ hb
       exact⟨_,z⟩
      ·exact⟨o,kp b o hb e⟩
    cases q:H b with
    | none=>exact un.keep b o e q (by intro z; exact absurd (show b∈([]:List Addr) from z) (by simp)) (by simp)
    | some u=>
     rcases hO b with z | ⟨ob,xs,z⟩ | z
     ·rw[q] at z; cases z
     ·have z2:=un.frzs b ob _ z
      obtain⟨e1,_⟩:=hok b _ z
      obtain⟨e2,_⟩:=hok' b _ z2
      rw[e] at e1; cases e1
      exact e2
     ·exact absurd z hbT
 have aT:a∉cts.map (·.2):=fun z=>by rw[hT a z] at ha; cases ha
 cases hk:K.lookup a with
 | some o=>
  have e:=KX a o hk
  rw[ha] at e
  cases e
  refine core (fun b=>if b∈cts.map (·.2) then some (.tbl #[]) else none) (fun b=>?_) (fun T hm=>aB hm) (.inr ⟨_,vs.toArray,_,hk,rfl,rfl,rfl,by rw[aA,lenV]; exact hl,by simpa using rv⟩) (fun b u z=>?_) (fun b z=>?_) fun z=>absurd (av aT) z
  ·by_cases hb:b∈cts.map (·.2)
   ·exact .inr (.inr hb)
   ·exact .inl (av hb)
  ·by_cases hb:b∈cts.map (·.2)
   ·have z':=(aB hb).symm.trans z
    cases z'
    exact hT b hb
   ·have z':=(av hb).symm.trans z
    cases z'
  ·by_cases hb:b∈cts.map (·.2)
   ·exact .inr hb
   ·exact absurd (av hb) z
 | none=>
  refine core (fun b=>if b∈cts.map (·.2) then some (.tbl #[]) else if b=a then some (.frz { cls:= .type "list",data:= .seq vs.toArray} (.lst (ns.map V.int))) else none) (fun b=>?_) (fun T hm=>aB hm) (.inl (.inr ⟨{ cls:= .type "list",data:= .seq vs.toArray},by dsimp only; rw[av aT,aB rfl]⟩)) (fun b u z=>?_) (fun b z=>?_) fun _=>hk
  ·by_cases hT':b∈cts.map (·.2)
   ·exact .inr (.inr hT')
   ·by_cases hb:b=a
    ·exact .inr (.inl ⟨_,_,by dsimp only; rw[av hT',aB hb]⟩)
    ·exact .inl (by dsimp only; rw[av hT',av hb])
  ·dsimp only at z
   by_cases hT':b∈cts.map (·.2)
   ·rw[aB hT'] at z
    cases z
    exact hT b hT'
   ·rw[av hT'] at z
    by_cases hb:b=a
    ·rw[aB hb] at z
     cases z
     subst hb
     exact⟨ha,by rw[ag]; exact hl,vs,_,rv,ha⟩
    ·rw[av hb] at z
     cases z
  ·replace z:(if b∈cts.map (·.2) then some (HO.tbl #[]) else if b=a then some (HO.frz { cls:= .type "list",data:= .seq vs.toArray} (.lst (ns.map V.int))) else none)≠none:=z
   by_cases hT':b∈cts.map (·.2)
   ·exact .inr hT'
   ·by_cases hb:b=a
    ·exact .inl hb
    ·rw[av hT',av hb] at z
     exact absurd rfl z
theorem walk_ofTs {cts:List (Addr×Addr)}{l:PySem.W.OpenLaw}{n k:Nat}{q:Program}{loose:List Str}{XP:(Str->Option Value)->Heap->Prop}{YP:World->Heap->Prop}{d:DefRec}{K:Params->W.Frag}{CX:World->CXT}{sp:World->Sp}{x:Str}
  (hn:l.most=some n) (hn2:n<=sizeLine) (hdf:d.params.defaults=[]) (hr:Room k callerA)
  (hY:∀ (w:World) (h:Heap),YP w h->(K w.params).In h/\∀ T∈cts.map (·.2),h.get? T=some (tabObj #[])) (hcd:∀ w:World,∀ p∈cts,codeHdIn (K w.params) p.1 p.2=true) (hKT:∀ w:World,∀ T∈cts.map (·.2),(K w.params).lookup T=none)
  (F:∀ (w:World) (mg:Str->Option Value) (fa:Addr) (h:Heap),(K w.params).In h->h.Ns mainGlobals mg->mg d.name=some (.ref fa)->
   ∃ fd:FuncData,(∀ (s:Shared) (u:Value),BindsTo s fd ⟨[u],[]⟩ [(x,u)])/\
    ∀ base:Heap,(K w.params).In base->base.Ns mainGlobals mg->FnOk l.prog w (K w.params) mg base (CX w) k fa fd [x] (sp w))
  (hsp:∀ (w:World) (H:Hp) (a:Addr) (ns:List Int),ns.length<=n->(∀ T∈cts.map (·.2),H T=some (.tbl #[]))->SqL (K w.params) H a (ns.map V.int)->sp w [.ref a] H (fun v _=>v= .bl true) fun _ _ _=>False)
  (hCX:∀ (w:World) (H:Hp) (s:Shared) (e:Value) (s':Shared),CX w [] H s (fun _ _ _=>False) e s'->False):
  PySem.W.WalkO q loose XP YP l.row.toRowW d [] (fun f vs=>PySem.call f vs):=by
 refine Att.attach_call hn hdf fun w s₀ s₁ mg mb fa o pm cd doc a vs ns G Y ho hd _ hmg hobj hints hlen hg=>?_
 obtain⟨KX,hT⟩:=hY w _ Y
 obtain⟨fd,hb,hF⟩:=F w mg fa _ KX G.T.g hmg
 exact jI3 KX G.T.g G.T.b G.T.builtins G.T.nolimit hg hobj hints (bF hlen hn2) hr hT (fun p hp=>gW KX (hcd w p hp)) (hKT w) hF hb (fun H hO hS=>hsp w H a ns hlen hO hS) fun H e s'=>hCX w H s₁ e s'
open PySem.AutoSeq1 (wpAny_loadPart')
theorem jMS {tp:Bool}{e it l:Addr}{i:Nat}{xs:Array Value}{x old:Value}{Q:Value->Shared->Prop}(ee:IsEnum s.heap e it i old)(g1:ItAt tp s.heap it l i)(o1:ObAt tp s.heap l xs)(hx:xs[i]?=some x)(ne:e≠it)
  (k:∀ h',IsEnumOut h' e it ((i:Int)+1) x s.heap.objs.size->ItAt tp h' it l (i+1)->h'.get? s.heap.objs.size=some { cls:= .type "tuple",data:= .seq #[.int i s.toks,x]} ->h'.objs.size=s.heap.objs.size+1->
   (∀ c o,c≠e->c≠it->s.heap.get? c=some o->h'.get? c=some o)->Q (.ref s.heap.objs.size) { s with heap:=h',toks:=s.toks+1}):
  wpAny (model prog w) A (Builtin.«enumerate.__next__» ⟨[.ref e],[]⟩) (fun fin s'=>∃ v,fin= .done (.ret v)/\Q v s') E s:=by
 obtain⟨hp,g,d,tk,os⟩:=s
 show wpAny (model prog w) A (field (.ref e) 2 >>= _) _ _ _
 refine ac (aR ee rfl (x:= .ref it) rfl (ac (next1 g1 o1 hx fun p1 r1 q1=>?_)))
 have q1:Heap.SameBut it hp p1:=q1
 have e1:IsEnum p1 e it i old:=(q1.2 e ne).trans ee
 show wpAny (model prog w) A (field (.ref e) 3 >>= _) _ _ ⟨p1,g,d,tk,os⟩
 refine ac (aR e1 rfl (x:=rawInt i) rfl (?_:wpAny (model prog w) A (field (.ref e) 4 >>= _) _ _ ⟨p1,g,d,tk,os⟩))
 refine ac (aR e1 rfl (x:= .none) rfl (?_:wpAny (model prog w) A (mkInt i >>= _) _ _ ⟨p1,g,d,tk,os⟩))
 refine ac (wpAny_mkInt (?_:wpAny (model prog w) A (setField (.ref e) 3 (rawInt ((i:Int)+1)) >>= _) _ _ ⟨p1,g,d,tk+1,os⟩))
 refine ac (bd e1 (by simp) fun p2 e2 q2=>?_)
 have q2:Heap.SameBut e p1 p2:=q2
 have e2:IsEnum p2 e it ((i:Int)+1) old:=e2
 show wpAny (model prog w) A (setField (.ref e) 4 .none >>= _) _ _ ⟨p2,g,d,tk+1,os⟩
 refine ac (bd e2 (by simp) fun p3 e3 q3=>?_)
 have q3:Heap.SameBut e p2 p3:=q3
 have e3:IsEnum p3 e it ((i:Int)+1) old:=e3
 show wpAny (model prog w) A (newTuple [.int i tk,x] >>= _) _ _ ⟨p3,g,d,tk+1,os⟩
 refine ac (wpAny_newTuple ?_)
 have e4:IsEnum (p3.push { cls:= .type "tuple",data:= .seq #[.int i tk,x]}) e it ((i:Int)+1) old:=ae _ e3
 have sz:p3.objs.size=hp.objs.size:=by rw[q3.1,q2.1,q1.1]
 have lt:e<hp.objs.size:=ao ee
 have t4:(p3.push { cls:= .type "tuple",data:= .seq #[.int i tk,x]}).get? hp.objs.size=some { cls:= .type "tuple",data:= .seq #[.int i tk,x]} :=by rw[<- sz]; exact ak _ rfl
 have z4:(p3.push { cls:= .type "tuple",data:= .seq #[.int i tk,x]}).objs.size=hp.objs.size+1:=by rw[br,sz]
 have k4:∀ c o,c≠e->c≠it->hp.get? c=some o->(p3.push { cls:= .type "tuple",data:= .seq #[.int i tk,x]}).get? c=some o:=fun c o n1 n2 v=>ae _ (q3.extBut c o n1 (q2.extBut c o n1 (q1.extBut c o n2 v)))
 have r4:ItAt tp (p3.push { cls:= .type "tuple",data:= .seq #[.int i tk,x]}) it l (i+1):=((r1.but q2.extBut ne.symm).but q3.extBut ne.symm).at fun o v=>ae _ v
 generalize p3.push { cls:= .type "tuple",data:= .seq #[.int i tk,x]} =p4 at e4 t4 z4 k4 r4 ⊢
 show wpAny (model prog w) A (Builtin.SmallTypes.ownedTupleIsFree (.ref e) >>= _) _ _ ⟨p4,g,d,tk+1,os⟩
 rw[sz]
 refine ac (by
  unfold Builtin.SmallTypes.ownedTupleIsFree
  refine ac (aR e4 rfl (x:= .none) rfl (af ?_))
  simp only [ig]
  refine ac (dz (ac (aR e4 rfl (x:=old) rfl (ac (bd e4 (by simp) fun p5 e5 q5=>?_)))))
  have q5:Heap.SameBut e p4 p5:=q5
  have e5:IsEnum p5 e it ((i:Int)+1) x:=e5
  refine ac (m:=Builtin.SmallTypes.ownedTupleHandOut (.ref e) (.ref hp.objs.size)) ?_
  unfold Builtin.SmallTypes.ownedTupleHandOut
  refine ac (bd e5 (by simp) fun p6 e6 q6=>?_)
  have q6:Heap.SameBut e p5 p6:=q6
  have e6:IsEnumOut p6 e it ((i:Int)+1) x hp.objs.size:=e6
  refine bd e6 (by simp) fun p7 e7 q7=>?_
  have q7:Heap.SameBut e p6 p7:=q7
  have e7:IsEnumOut p7 e it ((i:Int)+1) x hp.objs.size:=e7
  have up:∀ c o,c≠e->p4.get? c=some o->p7.get? c=some o:=fun c o n v=>q7.extBut _ _ n (q6.extBut _ _ n (q5.extBut _ _ n v))
  exact ac (gQ (af ⟨_,rfl,k p7 e7 (r4.at fun o v=>up _ o ne.symm v) (up _ _ (b8 lt) t4) (by rw[q7.1,q6.1,q5.1,z4]) fun c o n1 n2 v=>up c o n1 (k4 c o n1 n2 v)⟩)))
theorem jHP {tp:Bool}{e it l:Addr}{i:Nat}{xs:Array Value}{x old:Value}{Q:Option Value->Shared->Prop}(ee:IsEnum s.heap e it i old)(g1:ItAt tp s.heap it l i)(o1:ObAt tp s.heap l xs)(hx:xs[i]?=some x)(ne:e≠it)
  (k:∀ h',IsEnumOut h' e it ((i:Int)+1) x s.heap.objs.size->ItAt tp h' it l (i+1)->h'.get? s.heap.objs.size=some { cls:= .type "tuple",data:= .seq #[.int i s.toks,x]} ->h'.objs.size=s.heap.objs.size+1->
   (∀ c o,c≠e->c≠it->s.heap.get? c=some o->h'.get? c=some o)->Q (some (.ref s.heap.objs.size)) { s with heap:=h',toks:=s.toks+1}):
  wpAny (model prog w) A (pyNext (.ref e)) Q E s:=by
 have ty:s.TypeIs (.ref e) "enumerate" :=⟨_,ee,rfl⟩
 unfold pyNext
 exact ac (cI (ba (name:=Str.ofString "__next__") ty F.slot_enumerate_next (bf F.slot_enumerate_next ty F.entry_enumerate_next (jMS ee g1 o1 hx ne fun h' b1 b2 b3 b4 b5=>af (k h' b1 b2 b3 b4 b5)) (F.args_enumerate_next_1 _))))
theorem jHQ {tp:Bool}{e it l:Addr}{i:Nat}{xs:Array Value}{old:Value}{Q:Option Value->Shared->Prop}(hh:A.handled=none)(ee:IsEnum s.heap e it i old)(g1:ItAt tp s.heap it l i)(o1:ObAt tp s.heap l xs)(hx:xs[i]?=none)
  (k:∀ h',(∀ c o,c≠e->c≠it->s.heap.get? c=some o->h'.get? c=some o)->Q none { s with heap:=h'}):wpAny (model prog w) A (pyNext (.ref e)) Q E s:=by
 have ty:s.TypeIs (.ref e) "enumerate" :=⟨_,ee,rfl⟩
 unfold pyNext
 refine ac (cI (ba (name:=Str.ofString "__next__") ty F.slot_enumerate_next (bf F.slot_enumerate_next ty F.entry_enumerate_next (?_:wpAny (model prog w) _ (field (.ref e) 2 >>= _) _ _ _) (F.args_enumerate_next_1 _))))
 refine ac (aR ee rfl (x:= .ref it) rfl (ac (next0 hh g1 o1 hx fun h' x kp ⟨u,eu,cu⟩=>?_)))
 exact ac (eN (T:= "StopIteration") (b:=true) ⟨u,eu,cu⟩ gO (af (k _ fun c o _ n v=>kp c o n v)))
set_option maxHeartbeats 2000000 in
theorem jK0 (tp:Bool)(l:Addr)(xs:Array Value)(u:Obj):
  Meets (Builtin.«enumerate.__new__» ⟨[.type "enumerate", .ref l],[]⟩) (fun _ R s=>s.heap.get? l=some u/\ObAt tp s.heap l xs/\
   R (.ok (.ret (.ref (s.heap.push (qV tp l)).objs.size))) { s with heap:=(s.heap.push (qV tp l)).push { cls:= .type "enumerate",data:= .fields #[.none, .bool false, .ref s.heap.objs.size,rawInt 0, .none, .none]}}):=
 .of_wp fun prog w A R s h=>by
  obtain⟨hp,g,d,tk,os⟩:=s
  obtain⟨a0,a1,q⟩:=h
  have sub:=sub_enumerate
  have e1:ObAt tp (Shared.heap ⟨hp,g,d,tk,os⟩) l xs:=a1
  obtain⟨c,dct,dt,sl⟩:=u
  obtain⟨n,hc,hd⟩:∃ n,c=(if tp then .type "tuple" else .type "list")/\dt= .seq xs n:=by
   cases tp with
   | false=>obtain⟨o,e,hc,n,hd⟩:=a1; cases (a0.symm.trans e); exact⟨n,hc,hd⟩
   | true=>obtain⟨o,e,hc,n,hd⟩:=a1; cases (a0.symm.trans e); exact⟨n,hc,hd⟩
  subst hd
  cases tp with
  | false=>
   subst hc
   wp_walk using bU a0
   refine wpAny_stack_any fun _=>af ?_
   split
   ·rename_i c _ _ _ _ _
    cases hcc:(c==Value.type "enumerate")
    all_goals (wp_walk using bU a0,jBS e1; exact⟨_,rfl,q⟩)
   ·wp_walk using bU a0,jBS e1
    exact⟨_,rfl,q⟩
  | true=>
   subst hc
   wp_walk using bU a0
   refine wpAny_stack_any fun _=>af ?_
   split
   ·rename_i c _ _ _ _ _
    cases hcc:(c==Value.type "enumerate")
    all_goals (wp_walk using bU a0,jBS e1; exact⟨_,rfl,q⟩)
   ·wp_walk using bU a0,jBS e1
    exact⟨_,rfl,q⟩
theorem jN3 {prog:Program}{w:World}{A:Around}{E:Value->Shared->Prop}{s:Shared}{tp:Bool}{l:Addr}{xs:Array Value}{Q:Value->Shared->Prop}(a1:ObAt tp s.heap l xs)
  (k:∀ h',IsEnum h' (s.heap.objs.size+1) s.heap.objs.size 0 .none->ItAt tp h' s.heap.objs.size l 0->(∀ c o,s.heap.get? c=some o->h'.get? c=some o)->Q (.ref (s.heap.objs.size+1)) { s with heap:=h'}):
  wpAny (model prog w) A (call (.type "enumerate") [.ref l]) Q E s:=by
 obtain⟨u,eu⟩:∃ u,s.heap.get? l=some u:=by
  cases tp with
  | false=>obtain⟨o,e,_⟩:=a1; exact⟨o,e⟩
  | true=>obtain⟨o,e,_⟩:=a1; exact⟨o,e⟩
 refine callType_new F.called_enumerate (by decide) (F.typeCall_enumerate_1 _) (F.newCall_enumerate_1 _) (fun obj=>F.args_object_init_2 obj _) F.entry_enumerate_new (jK0 tp l xs u) ⟨eu,a1,?_⟩
 have z1:(s.heap.push (qV tp l)).objs.size=s.heap.objs.size+1:=br ..
 have y2:IsEnum ((s.heap.push (qV tp l)).push { cls:= .type "enumerate",data:= .fields #[.none, .bool false, .ref s.heap.objs.size,rawInt 0, .none, .none]}) (s.heap.push (qV tp l)).objs.size s.heap.objs.size 0 .none:=ak _ rfl
 have y1:((s.heap.push (qV tp l)).push { cls:= .type "enumerate",data:= .fields #[.none, .bool false, .ref s.heap.objs.size,rawInt 0, .none, .none]}).get? s.heap.objs.size=some (qV tp l):=ae _ (ak _ (jBX _ _))
 show _/\_
 rw[z1] at y2 ⊢
 exact⟨⟨_,y2,rfl⟩,k _ y2 (.new tp y1) fun c o e=>ae _ (ae _ e)⟩
def Ite (tp:Bool)(K:W.Frag)(l:Addr):It:=
 ⟨fun i H=>∃ xs x,Sq tp K H l xs/\xs[i]?=some x,
  fun i H v H'=>∃ T x,H T=none/\v= .ref T/\H'=upd H T (.tup [.int (i:Int),x])/\∀ xs,Sq tp K H l xs->xs[i]?=some x,
  fun i H=>∃ xs,Sq tp K H l xs/\xs.length<=i⟩
theorem jIG {P:Program}{w:World}{K:W.Frag}{elts:List Expr}{x1:Nat}{tps:Pos}(tp:Bool)(l e it:Addr)(ne:e≠it):
  Turn P w K (.Tuple elts x1 tps) (Ite tp K l) [e,it] e (fun i h=>(∃ old,IsEnum h e it ((i:Nat):Int) old)/\ItAt tp h it l i) where
 mem:=by simp
 obj:=fun i h st b hb=>by
  obtain⟨⟨old,he⟩,y1⟩:=st
  simp only [am,ar,aX] at hb
  rcases hb with rfl | rfl
  ·exact⟨_,he,fun v q=>by cases q⟩
  ·exact y1.obj
 keep:=fun i h h' st k=>by
  obtain⟨⟨old,he⟩,h1⟩:=st
  exact⟨⟨old,k e (by simp) _ he⟩,h1.at fun o z=>k it (by simp) o z⟩
 item:=by
  intro X hP hw hK hc i ad s σ H E I hf st hg
  subst hP hw hK
  obtain⟨xs,x,hq1,hx⟩:=hg
  obtain⟨⟨old,he⟩,h1⟩:=st
  obtain⟨its1,r1,p1,_⟩:=I.sq hq1
  obtain⟨u,hu,ru⟩:=r1.get hx
  refine jHP he h1 p1 (x:=u) (by simpa using hu) ne fun h' a1 a2 a3 a4 a5=>?_
  refine⟨_,rfl,wpAny_letOwnedTupleGo_enum (s:= { s with heap:=h',toks:=s.toks+1}) a1 fun h'' b1 sb=>?_⟩
  have fresh:H s.heap.objs.size=none:=I.fresh
  have ntr:∀ b o,H b=some o->b∉([e,it]:List Addr):=fun b o z hb=>by
   have:=(hf b hb).1
   rw[z] at this; cases this
  have kp:∀ b o,b∉([e,it]:List Addr)->s.heap.get? b=some o->h''.get? b=some o:=fun b o hb z=>by
   simp only [am,ar,aX,gL] at hb
   exact(sb.2 b hb.1).trans (a5 b o hb.1 hb.2 z)
  have nz:s.heap.objs.size≠e:=b8 (ao he)
  have hT2:h''.get? s.heap.objs.size=some { cls:= .type "tuple",data:= .seq #[.int i s.toks,u]} :=(sb.2 _ nz).trans a3
  have I2:Inv X ad σ (upd H s.heap.objs.size (.tup [.int (i:Int),x])) { s with heap:=h'',toks:=s.toks+1} :=by
   refine I.step (g':=s.gens) (d':=s.drawn) (t':=s.toks+1) (ch:=[e,it]) (fun b hb=>?_) (fun b o _ _ hb z _=>kp b o hb z) (fun b o _ _ hb z _=>⟨o.slots,kp b o hb z⟩)
    (fun b o _ z n=>by rw[jD (aF (ao z))]; exact n) (fun b o hb z=>⟨o,kp b o hb z⟩) (fun b ws z=>by rw[jD (jF z fresh)]; exact z) (fun b o ws z=>by rw[jD (jF z fresh)]; exact z)
    (fun b ps z=>⟨#[],by rw[jD (jF z fresh),z]; simp⟩) (fun m hm=>?_) (fun b o z=>?_) I.bare
   ·obtain⟨f0,f1,f2,f3,f4,f5⟩:=hf b hb
    exact⟨f3,f1,f4,f5⟩
   ·obtain⟨o,es,ep,ho,r⟩:=hm
    exact⟨o,es,ep,kp _ o (fun hb=>(hf _ hb).2.1 rfl) ho,r⟩
   ·by_cases hb:b=s.heap.objs.size
    ·subst hb
     rw[jA] at z
     cases z
     exact⟨by rw[cA]; show 2<=_; decide,[.int i s.toks,u], .cons ⟨_,rfl⟩ (.cons ru .nil),0,hT2⟩
    ·rw[jD hb] at z
     refine(I.hok b o z).stay (fun c w hc q=>kp c w ?_ q) (fun c q=>by rw[jD (jF q fresh)]; exact q) (fun c ws q=>by rw[jD (jF q fresh)]; exact q)
     rcases hc with rfl | hc
     ·exact ntr _ _ z
     ·exact ntr _ _ hc
  refine⟨.ref s.heap.objs.size,_,I2,rfl,⟨_,x,fresh,rfl,rfl,fun xs' q1=>by rw[I.sq_inj q1 hq1]; exact hx⟩,⟨⟨_,b1⟩,?_⟩,fun b hb=>?_⟩
  ·exact a2.at fun o z=>(sb.2 it ne.symm).trans z
  ·rw[jD (fun q=>by
    obtain⟨o,eo⟩:∃ o,s.heap.get? b=some o:=by
     simp only [am,ar,aX] at hb
     rcases hb with rfl | rfl
     ·exact⟨_,he⟩
     ·obtain⟨o,z,_⟩:=h1.obj; exact⟨o,z⟩
    exact absurd (ao eo) (by rw[q]; exact bG _))]
   exact(hf b hb).1
 done:=by
  intro X hP hw hK hc i ad s σ H E I hf st hg
  subst hP hw hK
  obtain⟨xs,hq1,hend⟩:=hg
  obtain⟨⟨old,he⟩,h1⟩:=st
  obtain⟨its1,r1,p1,_⟩:=I.sq hq1
  have e1:=r1.length
  refine jHQ (I.ok.hd hc) he h1 p1 (by simp; omega) fun h' kp=>⟨rfl,?_⟩
  have kp2:∀ b o,b∉([e,it]:List Addr)->s.heap.get? b=some o->h'.get? b=some o:=fun b o hb z=>by
   simp only [am,ar,aX,gL] at hb
   exact kp b o hb.1 hb.2 z
  have ntr:∀ b o,H b=some o->b∉([e,it]:List Addr):=fun b o z hb=>by
   have:=(hf b hb).1
   rw[z] at this; cases this
  refine I.step (g':=s.gens) (d':=s.drawn) (t':=s.toks) (ch:=[e,it]) (fun b hb=>?_) (fun b o _ _ hb z _=>kp2 b o hb z) (fun b o _ _ hb z _=>⟨o.slots,kp2 b o hb z⟩)
   (fun b o _ z n=>n) (fun b o hb z=>⟨o,kp2 b o hb z⟩) (fun b ws z=>z) (fun b o ws z=>z) (fun b ps z=>⟨#[],by rw[z]; simp⟩) (fun m hm=>?_) (fun b o z=>?_) I.bare
  ·obtain⟨f0,f1,f2,f3,f4,f5⟩:=hf b hb
   exact⟨f3,f1,f4,f5⟩
  ·obtain⟨o,es,ep,ho,r⟩:=hm
   exact⟨o,es,ep,kp2 _ o (fun hb=>(hf _ hb).2.1 rfl) ho,r⟩
  ·refine(I.hok b o z).stay (fun c w hc q=>kp2 c w ?_ q) (fun _ q=>q) fun _ _ q=>q
   rcases hc with rfl | hc
   ·exact ntr _ _ z
   ·exact ntr _ _ hc
 self:=fun _ _ _ _ _ st h=>wpAny_pyIter_enum st.1.choose_spec h
def iEnum (K:W.Frag)(ta:TA):TI:=fun σ H R=>ta σ H fun vs H1=>∃ tp l,vs=[.ref l]/\(∃ xs,Sq tp K H1 l xs)/\R (Ite tp K l) H1
theorem jP1 {a:Expr}{ta:TA}{p pos:Pos}{elts:List Expr}{x1:Nat}{tp:Pos}(hg:Gl X "enumerate")(hm:X.mg "enumerate" =none)(ha:PA X [a] ta)(hv:bootBuiltins "enumerate" =some (.type "enumerate"):=by decide+kernel)
  (he:starEach [a] X.env=(false,eval a X.env)::starEach [] X.env:=by rfl) (hpl:(backTo pos (starEach [] X.env)).any (·.1)=false:=by rfl):
  PI X (.Tuple elts x1 tp) (.Call (.Name "enumerate" p) [a] [] pos) (iEnum X.K ta):=by
 intro ad s σ H R I h
 refine Call_ (jCX I hg hm hv (bN (ir (ha pos ad s σ H _ I h) fun us s1 ⟨vs,H1,I1,r1,q1⟩=>?_) he hpl))
 obtain⟨t1,l1,rfl,⟨xs,hq1⟩,q⟩:=q1
 obtain⟨u,rfl,ru⟩:=r1.one
 cases ru
 obtain⟨its1,_,p1,_⟩:=I1.sq hq1
 refine jN3 p1 fun h' a1 a2 kp=>?_
 have I2:Inv X ad σ H1 { s1 with heap:=h'} :=I1.kept (t':=s1.toks) kp
 refine wpAny_pyIter_enum a1 ⟨s1.heap.objs.size+1,[s1.heap.objs.size+1,s1.heap.objs.size],_,Ite t1 X.K l1,H1,rfl,I2,jIG t1 l1 _ _ (Nat.succ_ne_self _),⟨⟨_,a1⟩,a2⟩,fun b hb=>?_,q⟩
 have hge:s1.heap.objs.size<=b:=by
  simp only [am,ar,aX] at hb
  rcases hb with rfl | rfl
  ·exact dF _ 1
  ·exact aq _
 exact I1.fpOk hge (I1.hok.fresh hge)
theorem jKA {a:Expr}{t:TA}{p pos:Pos}{elts:List Expr}{x1:Nat}{tp:Pos}(hg:Gl1 X "enumerate")(hm:X.mg "enumerate" =none)(ha:JA X [a] t)(he:starEach [a] X.env=(false,eval a X.env)::starEach [] X.env)(hv:bootBuiltins "enumerate" =some (.type "enumerate"):=by decide+kernel)
  (hpl:(backTo pos (starEach [] X.env)).any (·.1)=false:=by rfl):JI X (.Tuple elts x1 tp) (.Call (.Name "enumerate" p) [a] [] pos) (iEnum X.K t):=⟨jP1 hg.a hm ha.h hv he hpl⟩
variable {H1:Hp}{Q:VK}
section
variable {K:W.Frag}{σ:St}
theorem jKS {tp:Bool}{l:Addr}{xs:List V}(hn:xs.length<sizeLine)(Pv:Addr->Nat->St->Hp->List V->Prop)(h0:∀ D,H1 D=none->Pv D 0 (blkσ m σ) (upd H1 D (.lst [])) [])
  (hD:∀ D i σ' H' zs,H1 D=none->Pv D i σ' H' zs->Sq tp K H' l xs/\H' D=some (.lst zs)/\zs.length<=i)
  (hs:∀ D i σ' H' zs x T,H1 D=none->xs[i]?=some x->H' T=none->Pv D i σ' H' zs->g (.ref T) σ' (upd H' T (.tup [.int (i:Int),x])) fun σ2 H2=>tt σ2 H2 fun b H3=>if b=true then te σ2 H3 fun v H4=>H4 D=some (.lst zs)/\Pv D (i+1) σ2 (upd H4 D (.lst (zs++[v]))) (zs++[v]) else Pv D (i+1) σ2 H3 zs)
  (hd:∀ D σ' H' zs,H1 D=none->Pv D xs.length σ' H' zs->Q (.ref D) H'):qZ m g tt te σ Q (Ite tp K l) H1:=by
 intro D hDn
 refine⟨fun i k σ' H' zs=>k=xs.length - i/\i<=xs.length/\Pv D i σ' H' zs,⟨_,rfl,bi _,h0 D hDn⟩,?_⟩
 rintro i k σ' H' zs ⟨rfl,hi,p⟩
 obtain⟨s1,q1,q2⟩:=hD D i σ' H' zs hDn p
 refine⟨q1,by omega,?_⟩
 by_cases hlt:i<xs.length
 ·refine .inr ⟨⟨xs,xs[i],s1,by simp [hlt]⟩,Pv D (i+1),fun σ2 H2 zs z=>⟨xs.length - (i+1),by omega,rfl,hlt,z⟩,fun v H'' y=>?_⟩
  obtain⟨T,x,e1,e2,e3,e4⟩:=y
  subst e2 e3
  exact hs D i σ' _ zs x T hDn (e4 xs s1) e1 p
 ·have e:i=xs.length:=by omega
  subst e
  exact .inl ⟨⟨xs,s1,aq _⟩,hd D σ' H' zs hDn p⟩
end
section
variable {κ:Type} [DecidableEq κ]
def valV (iq:List (κ×V))(k:κ):Option V:=(iq.find? fun kv=>decide (kv.1=k)).map (·.2)
theorem jDM {p:κ×V}{r:List (κ×V)}{k:κ}(e:p.1=k):valV (p::r) k=some p.2:=by simp [valV,cz,e]
theorem jG1 {p:κ×V}{r:List (κ×V)}{k:κ}(e:¬ p.1=k):valV (p::r) k=valV r k:=by simp [valV,cz,e]
theorem RelO.isSome_eq {o:Option V}{u:Option Value}(r:RelO o u):o.isSome=u.isSome:=by
 cases o with
 | none=>cases u with
  | none=>rfl
  | some _=>exact(show False from r).elim
 | some _=>cases u with
  | none=>exact(show False from r).elim
  | some _=>rfl
theorem KV.val {iq:List (κ×V)}{vs:List (κ×Value)}(r:KV iq vs)(k:κ):RelO (valV iq k) (valueAt vs k):=by
 unfold KV at r
 induction r with
 | nil=>exact True.intro
 | @cons p q ps qs h t ih=>
  obtain⟨h1,h2⟩:=h
  by_cases e:p.1=k
  ·have e':q.1=k:=h1.symm.trans e
   have b:valueAt (q::qs) k=some q.2:=by simp [valueAt,cz,e']
   rw[jDM e,b]; exact h2
  ·have e':¬ q.1=k:=fun z=>e (h1.trans z)
   have b:valueAt (q::qs) k=valueAt qs k:=by simp [valueAt,cz,e']
   rw[jG1 e,b]; exact ih
theorem KV.keys {iq:List (κ×V)}{vs:List (κ×Value)}(r:KV iq vs):iq.map (·.1)=vs.map (·.1):=by
 unfold KV at r
 induction r with
 | nil=>rfl
 | cons h t ih=>rw[be,be,ih,h.1]
end
theorem kV_is {P:Program}{w:World}{k:Key}{u:Value}(r:RelV (kV k) u):(yX P w).is k u=true:=by
 cases k with
 | inl i=>obtain⟨t,e⟩:=(show ∃ t,u=Value.int i t from r); subst e; exact jFO P w i t
 | inr x=>obtain⟨t,e⟩:=(show ∃ t,u=Value.str x t from r); subst e; exact jFN P w x t
theorem jES {P:Program}{w:World} :∀ {ks:List Key}{us:List Value},Vals (ks.map kV) us->ItemsAre (yX P w) ks us
 | [],_,r=>by rw[map_nil] at r; cases r; exact .nil
 | k::ks,_,r=>by
  rw[be] at r
  cases r with
  | cons h t=>exact .cons (kV_is h) (jES t)
abbrev KT (H:Hp):List (List Key×V)->List (List Key×Addr×Value)->Prop:=Paired fun p q=>p.1=q.1/\H q.2.1=some (.tup (p.1.map kV))/\RelV p.2 q.2.2
theorem KT.val {H:Hp}{iq:List (List Key×V)}{xs:List (List Key×Addr×Value)}(r:KT H iq xs)(k:List Key):RelO (valV iq k) ((atKey xs k).map (·.2)):=by
 induction r with
 | nil=>exact True.intro
 | @cons p q ps qs h t ih=>
  obtain⟨h1,_,h2⟩:=h
  by_cases e:p.1=k
  ·have e':q.1=k:=h1.symm.trans e
   have b:atKey (q::qs) k=some q.2:=by simp [atKey,cz,e']
   rw[jDM e,b]; exact h2
  ·have e':¬ q.1=k:=fun z=>e (h1.trans z)
   have b:atKey (q::qs) k=atKey qs k:=by simp [atKey,cz,e']
   rw[jG1 e,b]; exact ih
theorem rd_of {u:HO}(ok:HOk P w H h)(e:Rd H a u):ObjOk P w H h a u:=e.ok ok
theorem dk_rd {iq:List (Key×V)}(ok:HOk P w H h)(e:Rd H a (.dK iq)):iq.length<=sizeLine/\(a==sysModules)=false/\∃ vs,KV iq vs/\h.DictOf (yX P w) a vs:=
 show ObjOk P w H h a (.dK iq) from rd_of ok e
theorem jK5 {ks:List Key}(ok:HOk P w H h)(e:H a=some (.tup (ks.map kV))):(tupleKind (yX P w)).is h ks a:=by
 obtain⟨_,its,r,p⟩:=(show ObjOk P w H h a (.tup (ks.map kV)) from ok a _ e)
 obtain⟨o,h1,h2,n,h3⟩:=p.isTup
 exact⟨o,its.toArray,n,h1,h2,h3,by simpa using jES r⟩
theorem dt_rd {iq:List (List Key×V)}(ok:HOk P w H h)(e:Rd H a (.dT iq)):iq.length<=sizeLine/\(a==sysModules)=false/\
  ∃ xs,KT H iq xs/\h.DictOfH (tupleKind (yX P w)) a xs:=by
 obtain⟨z,y,xs,r,o,es,ep,h1,h2,h3,h4,h5⟩:=(show ObjOk P w H h a (.dT iq) from rd_of ok e)
 refine⟨z,y,xs,r,o,es,ep,h1,h2,h3,h4,fun x hx=>?_,h5⟩
 have all:∀ {l:List (List Key×V)}{m:List (List Key×Addr×Value)},KT H l m->∀ x∈m,(tupleKind (yX P w)).is h x.1 x.2.1:=by
  intro l m q
  induction q with
  | nil=>intro x hx; exact nomatch hx
  | @cons p q ps qs hq t ih=>
   intro x hx
   rcases am.mp hx with e | hx
   ·subst e
    exact jK5 ok (by rw[<- hq.1]; exact hq.2.1)
   ·exact ih x hx
 exact all r x hx
def DGet (H:Hp)(a:Addr)(y:V)(r:Option V):Prop:=
 (∃ iq k,Rd H a (.dK iq)/\y=kV k/\r=valV iq k)\/∃ iq k b,Rd H a (.dT iq)/\y= .ref b/\H b=some (.tup (k.map kV))/\r=valV iq k
theorem DGet.k {H:Hp}{a:Addr}{iq:List (Key×V)}{k:Key}(e:H a=some (.dK iq)):DGet H a (kV k) (valV iq k):= .inl ⟨iq,k, .inl e,rfl,rfl⟩
variable {y:V}{u r:Value}
section
variable {σ:St}{v:V}{o:Option V}
theorem Inv.big (I:Inv X ad σ H s):sysModules<s.heap.objs.size:=by
 have h:mainGlobals<s.heap.objs.size:=(I.mod.glob.keeps I.bk).lt
 exact cX (by decide) h
theorem jKR {Q:Value->Shared->Prop}(hu:A.units+1<cLine)(I:Inv X ad σ H s)(g:DGet H a y (some v))(ry:RelV y u)(h:∀ w' s',Inv X ad σ H s'->RelV v w'->Q w' s'):
  wpAny (model X.prog X.w) A (getItem (.ref a) u) Q E s:=by
 rcases g with ⟨iq,k,e,ey,l⟩ | ⟨iq,k,b,e,ey,eb,l⟩
 ·subst ey
  obtain⟨z,hd,vs,rel,dd⟩:=dk_rd I.hok e
  obtain⟨w',hw,rw'⟩:=RelO.some_of (v:=v) (o:=valueAt vs k) (by rw[l]; exact rel.val k)
  exact wpAny_getItem_of (kV_is ry) dd.mapOf hw (h w' _ (I.tok _) rw')
 ·subst ey
  cases (show u=Value.ref b from ry)
  obtain⟨z,hd,xs,rel,dd⟩:=dt_rd I.hok e
  obtain⟨w',hw,rw'⟩:=RelO.some_of (v:=v) (o:=(atKey xs k).map (·.2)) (by rw[l]; exact rel.val k)
  obtain⟨p,hp,hp2⟩:=Option.map_eq_some_iff.mp hw
  refine wpAny_getItem_heap (tupleKind_room_in1 hu) (jK5 I.hok eb) dd hp ?_
  rw[hp2]
  exact h w' _ (I.tok _) rw'
theorem d_in {Q:Value->Shared->Prop}(hu:A.units+1<cLine)(I:Inv X ad σ H s)(g:DGet H a y o)(ry:RelV y u)(h:∀ s',Inv X ad σ H s'->Q (.bool o.isSome) s'):
  wpAny (model X.prog X.w) A (compareOp .In u (.ref a)) Q E s:=by
 rcases g with ⟨iq,k,e,ey,l⟩ | ⟨iq,k,b,e,ey,eb,l⟩
 ·subst ey
  obtain⟨z,hd,vs,rel,dd⟩:=dk_rd I.hok e
  refine wpAny_in_of (kV_is ry) hd dd.mapOf ?_
  rw[<- (rel.val k).isSome_eq,<- l]
  exact h _ (I.tok _)
 ·subst ey
  cases (show u=Value.ref b from ry)
  obtain⟨z,hd,xs,rel,dd⟩:=dt_rd I.hok e
  refine wpAny_in_heap (tupleKind_room_in1 hu) (jK5 I.hok eb) hd dd ?_
  have q:=(rel.val k).isSome_eq
  rw[Option.isSome_map] at q
  rw[<- q,<- l]
  exact h _ (I.tok _)
end
variable {iq:List (Key×V)}
section
variable {σ:St}{k:Key}
end
def NoSl (i:Expr):Prop:=∀ ov iv,subscripted i false ov iv=operate [ov,iv] (getItem ov iv)
theorem jOG {prog:Program}{w:World}{A:Around}{E:Value->Shared->Prop}{s:Shared}{env:Env}{value slice:Expr}{pos:Pos}{T id:String}{Q:Value->Shared->Prop}
  (hl:typeLookup (.type T) "__getitem__" =pure (some (.builtin id))) (hs:NoSl slice)
  (h:wpAny (model prog w) A (eval value env) (fun o s₁=>wpAny (model prog w) A (eval slice env) (fun i s₂=>s₂.TypeIs o T/\wpAny (model prog w) A (getItem o i) Q E s₂) E s₁) E s):
  wpAny (model prog w) A (eval (.Subscript value slice pos) env) Q E s:=by
 refine Subscript_ (aZ h (fun o s₁ h₁=>aZ h₁ (fun i s₂ h₂=>?_) fun _ _ x=>x) fun _ _ x=>x)
 obtain⟨hT,h₂⟩:=h₂
 unfold subscriptTail
 refine ac ?_
 rw[getitemInPython_of_ne hT.not_modules]
 refine ac (gE hT hl ?_)
 have fin:wpAny (model prog w) A (subscripted slice false o i) (fun r s₃=>wpAny (model prog w) A (letTemporaryGo value o r >>= fun _=>pure r) Q E s₃) E s₂:=by
  rw[hs o i]
  exact wpAny_operating (aZ h₂ (fun r s₃ h₃=>ac (wpAny_letTemporaryGo (af h₃))) fun _ _ x=>x)
 first
  | exact af (ac fin)
  | exact ac (af (ac fin))
  | exact ac fin
theorem jFT {X:Cx}{ad:List (Addr×Obj)}{σ:St}{H:Hp}{s:Shared}{a:Addr}{y:V}{o:Option V}(I:Inv X ad σ H s)(g:DGet H a y o):s.TypeIs (.ref a) "dict" :=by
 rcases g with ⟨iq,k,e,_,_⟩ | ⟨iq,k,b,e,_,_,_⟩
 ·obtain⟨_,_,vs,_,dd⟩:=dk_rd I.hok e
  exact dd.typeIs
 ·obtain⟨_,_,xs,_,dd⟩:=dt_rd I.hok e
  exact dd.typeIs
def tDGet (td ty:TE):TE:=fun σ H Q=>td σ H fun x H1=>ty σ H1 fun y H2=>∃ a v,x= .ref a/\DGet H2 a y (some v)/\Q v H2
def tDIn (ty td:TE):TE:=fun σ H Q=>ty σ H fun y H1=>td σ H1 fun x H2=>∃ a o,x= .ref a/\DGet H2 a y o/\Q (.bl o.isSome) H2
variable {o value:Expr}{pos':Pos}{td tv:TE}
section
variable {i:Expr}{tpos:Pos}{ty:TE}
theorem jP4 (hu:X.A.units+1<cLine)(ho:PE X o td)(hi:PE X i ty)(hs:NoSl i):PE X (.Subscript o i pos) (tDGet td ty):=by
 intro ad s σ H Q I h
 refine jOG PySem.F.slot_dict_getitem.lookup hs (ir (ho ad s σ H _ I h) fun u s1 ⟨x,H1,I1,rx,q1⟩=>ir (hi ad s1 σ H1 _ I1 q1) fun iv s2 ⟨y,H2,I2,ry,a,v,ex,g,q2⟩=>?_)
 subst ex
 obtain rfl:u=Value.ref a:=rx
 exact⟨jFT I2 g,jKR hu I2 g ry fun w' s3 I3 rw'=>⟨v,H2,I3,rw',q2⟩⟩
theorem jRC (hu:X.A.units+1<cLine)(hi:PE X i ty)(ho:PE X o td):PC X .In i o (tDIn ty td):=by
 intro ad s σ H Q I h
 refine ir (hi ad s σ H _ I h) fun iv s1 ⟨y,H1,I1,ry,q1⟩=>ir (ho ad s1 σ H1 _ I1 q1) fun u s2 ⟨x,H2,I2,rx,a,ov,ex,g,q2⟩=>?_
 subst ex
 obtain rfl:u=Value.ref a:=rx
 exact d_in hu I2 g ry fun s3 I3=>⟨.bl ov.isSome,H2,I3,rfl,q2⟩
end
section
variable {σ:St}{d:V}{o:Option V}
end
variable {apos:Pos}{tx:TE}
section
variable {f:Expr}{ty:TE}
end
section
variable {σ:St}
end
section
variable {σ:St}
end
section
variable {κ:Type} [DecidableEq κ]
end
section
variable {d:Addr}{iq:List (Key×Value)}
end
section
variable {i f:Expr}{ty:TE}
theorem jPW (hu:X.A.units+1<cLine)(ho:JE X o td)(hi:JE X i ty)(hs:jAW i):JE X (.Subscript o i pos) (tDGet td ty):=⟨jP4 hu ho.h hi.h hs⟩
end
theorem jEB:entryFor table "dict.update.loop" =some Builtin.«dict.update.loop»:=entryFor_of_fast (by kernel_rfl)
theorem jBC:plainId "dict.update.loop" =true:=by decide+kernel
theorem jEQ:typeLookup (.type "list") "keys" =pure none:=am_miss_of_fast (by kernel_rfl)
theorem jCV:typeLookup (.type "list") "__getattr__" =pure none:=am_miss_of_fast (by kernel_rfl)
theorem jJZ (a:Addr)(name:Str)(u:Tok)(hmiss:typeLookup (.type "list") name=pure none)(hsz:name.length+100<=sizeLine)(hgd: [Str.ofString "__module__",Str.ofString "__name__",Str.ofString "__qualname__",Str.ofString "__doc__",Str.ofString "__annotations__"].contains name=false):Meets (Builtin.«object.__getattribute__» ⟨[.ref a, .str name u],[]⟩) (fun A R s=>(∃ its n,s.heap.get? a=some { cls:= .type "list",data:= .seq its n})/\raisesAttr (.ref a) name A R s):=
 Meets.of_wp fun prog w A R s hs=>by
  obtain⟨⟨its,n,ho⟩,hs⟩:=hs
  obtain⟨hp,g,d,tk,os⟩:=s
  have hT:(⟨hp,g,d,tk,os⟩:Shared).TypeIs (.ref a) "list" :=⟨_,ho,rfl⟩
  unfold Builtin.«object.__getattribute__»
  repeat (any_goals (first | assumption | wp_step))
  rw[hgd,av au]
  repeat (any_goals (first | assumption | wp_step))
  exact wpAny_raiseAttrError hs.1 hs.2 (attrMsg_fits (by decide+kernel) hsz)
theorem jK4 {a:Addr}{name:Str}(hmiss:typeLookup (.type "list") name=pure none)(hsz:name.length+100<=sizeLine)(hgd: [Str.ofString "__module__",Str.ofString "__name__",Str.ofString "__qualname__",Str.ofString "__doc__",Str.ofString "__annotations__"].contains name=false){its:Array Value}{n:Nat}{Q:Option Value->Shared->Prop}(hA:A.handled=none)(ho:s.heap.get? a=some { cls:= .type "list",data:= .seq its n})
  (h:∀ h' tk,(∀ b u,s.heap.get? b=some u->h'.get? b=some u)->Q none { s with heap:=h',toks:=tk}):wpAny (model prog w) A (getAttr? (.ref a) name) Q E s:=by
 obtain⟨hp,g,d,tk,os⟩:=s
 have hT:∀ tk',(⟨hp,g,d,tk',os⟩:Shared).TypeIs (.ref a) "list" :=fun _=>⟨_,ho,rfl⟩
 have f1:=sub_AttributeError
 have f3:=F.slot_list_getattribute.lookup
 have f4:=F.slot_list_getattribute.bind (.ref a)
 have f5:=jCV
 unfold getAttr? getAttrBy? getAttrBy
 repeat (any_goals (first | assumption | ((with_reducible show wpAny _ _ (call (Value.builtin "list.__getattribute__") _ _) _ _ _); refine cV F.slot_list_getattribute (hT _) F.entry_list_ga (F.args_list_getattribute_2 _ _) (jJZ a name _ hmiss hsz hgd) ⟨⟨its,n,ho⟩,hA,fun h' tk' e hx=>?_⟩) | wp_step))
 obtain⟨t',u',he⟩:=hx.there
 show wpAny _ _ (getattributeRaised _ _ _ _ _ _ _) _ _ _
 unfold getattributeRaised
 repeat (any_goals (first | assumption | wp_step))
 exact h _ _ fun b u q=>hx.keeps b u q
theorem jHS {a:Addr}{k v:Value}{m:Nat}{Q:List Value->Shared->Prop}(ho:s.heap.get? a=some { cls:= .type "tuple",data:= .seq #[k,v] m})(h:Q [k,v] s):wpAny (model prog w) A (Builtin.Dict.pairItems (.ref a)) Q E s:=by
 obtain⟨hp,g,d,tk,os⟩:=s
 have hT:(⟨hp,g,d,tk,os⟩:Shared).TypeIs (.ref a) "tuple" :=⟨_,ho,rfl⟩
 unfold Builtin.Dict.pairItems
 repeat (any_goals (first | assumption | wp_step))
section
variable {prog:Program}{w:World}{K:Type} [DecidableEq K]{knd:KeyKind prog w K}{A:Around}{R:Result->Shared->Prop}{I:Addr}{fp wr:List Addr}{n:Nat}{P:Nat->Value->Prop}{St:Nat->Shared->Prop}
def jHF (knd:KeyKind prog w K)(h:Heap)(a:Addr)(p:K×Value):Prop:=∃ key m,h.get? a=some { cls:= .type "tuple",data:= .seq #[key,p.2] m} /\knd.is p.1 key=true
theorem upl (W:WalksS prog w A.in1 I fp wr (fun a b=>b=a) n P St)(d:Addr)(hd:d∉fp)(more:List (K×Value))(hmn:more.length=n)(pa:Nat->Addr)(hpd:∀ i,i<n->pa i≠d/\pa i∉wr)(hP:∀ i v,P i v->v= .ref (pa i))(hn:n<=sizeLine):
  ∀ (k i:Nat) (z:Int) (s:Shared),n - i=k->i<=n->St i s->s.heap.DictOf knd d (merged [] (more.take i))->(∀ j p,more[j]?=some p->jHF knd s.heap (pa j) p)->
   (∀ s',Moved (d::wr) (fun a b=>b=a) s s'->s'.heap.DictOf knd d (merged [] more)->R (.ok (.ret .none)) s')->
   codeAny (model prog w) A (.builtin "dict.update.loop" ⟨[.ref d, .ref I,rawInt z, .none],[]⟩) R s:=by
 have hdw:d∉wr:=fun h=>hd (W.sub _ h)
 have sub1:∀ b∈wr,b∈d::wr:=fun b hb=>aI _ hb
 intro k
 induction k with
 | zero=>
  intro i z s hk hi hst hS hp hR
  obtain rfl:i=n:=by omega
  refine bI jEB ?_
  rw[bL jBC _]
  show wpAny _ A.in1 (pyNext (.ref I) >>= _) _ _ s
  refine ac (W.done s _ _ hst fun s' mv=>?_)
  show wpAny _ A.in1 (Builtin.Dict.addKeywords d [] >>= fun _=>ret Value.none) _ _ s'
  refine ac (af (af (hR s' (mv.mono sub1) ?_)))
  obtain⟨o,es,ep,ho,r⟩:=hS
  rw[<- hmn,bM] at r
  exact⟨o,es,ep,mv.heap d o hdw ho,r⟩
 | succ k ih=>
  intro i z s hk hi hst hS hp hR
  have hlt:i<n:=by omega
  refine bI jEB ?_
  rw[bL jBC _]
  show wpAny _ A.in1 (pyNext (.ref I) >>= _) _ _ s
  refine ac (W.item i s _ _ hlt hst fun v s' hPv hst' mv=>?_)
  obtain rfl:=hP i v hPv
  have hS':s'.heap.DictOf knd d (merged [] (more.take i)):=by
   obtain⟨o,es,ep,ho,r⟩:=hS
   exact⟨o,es,ep,mv.heap d o hdw ho,r⟩
  have hp':∀ j p,more[j]?=some p->jHF knd s'.heap (pa j) p:=fun j p hj=>by
   obtain⟨key,m,e,q⟩:=hp j p hj
   have hjn:j<n:=by rw[<- hmn]; exact(ay.mp hj).1
   exact⟨key,m,mv.heap _ _ (hpd j hjn).2 e,q⟩
  obtain⟨p,hpi⟩:∃ p,more[i]?=some p:=⟨more[i],by simp [hmn,hlt]⟩
  obtain⟨key,m,e1,hk1⟩:=hp' i p hpi
  show wpAny _ A.in1 (holding [Value.ref (pa i)] _ >>= _) _ _ s'
  refine ac (aO (ac ?_))
  refine wpAny_tryCatch (jHS e1 ?_)
  refine aO (wpAny_dictSet_pairs hk1 hS' (fun h' hd' sb=>?_) (by
   have:=merged_length_le (K:=K) [] (more.take i)
   have h2:=bR i more
   have:(merged [] (more.take i)).length<=i:=by
    refine bF (merged_length_le (K:=K) [] (more.take i)) ?_
    simp only [List.length_nil,Nat.zero_add]
    exact bR _ _
   omega))
  refine af ⟨dM jBC _,ih (i+1) (z+1) _ (by omega) hlt (W.frame _ s' _ _ hst' (cR _) fun b hb o e=>?_) ?_ (fun j p hj=>?_) fun s'' mv2 hS3=>?_⟩
  ·rw[sb.2 b (fun h:b=d=>hd (by rw[<- h]; exact hb))]
   exact e
  ·rw[merged_take_succ _ _ _ _ hpi]
   exact hd'
  ·obtain⟨key,m,e,q⟩:=hp' j p hj
   have hjn:j<n:=by rw[<- hmn]; exact(ay.mp hj).1
   exact⟨key,m,by show h'.get? _=_; rw[sb.2 _ (hpd j hjn).1]; exact e,q⟩
  ·refine hR s'' (Moved.trans W.gtrans ((mv.mono sub1).then_heap (cR _) fun b o hb e=>?_) mv2) hS3
   rw[sb.2 b (fun h:b=d=>hb (by rw[h]; exact aJ))]
   exact e
end
section
variable {prog:Program}{w:World}{K:Type} [DecidableEq K]{knd:KeyKind prog w K}{A:Around}{E:Value->Shared->Prop}{s:Shared}
theorem jDC {l:Addr}{its:List Value}{nl:Nat}{more:List (K×Value)}{Q:Value->Shared->Prop}(hA:A.handled=none)(hl:s.heap.get? l=some { cls:= .type "list",data:= .seq its.toArray nl})(hsz:its.length<=sizeLine)
  (pa:Nat->Addr) (hit:∀ i v,its[i]?=some v->v=Value.ref (pa i)) (hlen:more.length=its.length) (hp:∀ j p,more[j]?=some p->jHF knd s.heap (pa j) p)
  (h:∀ h' tk,h'.DictOf knd s.heap.objs.size (merged [] more)->(∀ b u,s.heap.get? b=some u->h'.get? b=some u)->Q (.ref s.heap.objs.size) { s with heap:=h',toks:=tk}):
  wpAny (model prog w) A (call (.type "dict") [.ref l]) Q E s:=by
 refine callType_codes (Q₁:=fun obj s₁=>obj= .ref s.heap.objs.size/\s₁= { s with heap:=s.heap.push { cls:= .type "dict",data:= .dict #[]}}) F.kt_called_dict (F.kt_typeCall_dict_1 _) F.entry_dict_init (kt_code_dict_new _ ⟨rfl,rfl⟩) ?_
 rintro obj s₁ ⟨rfl,rfl⟩
 have hnew:(s.heap.push { cls:= .type "dict",data:= .dict #[]}).DictOf knd s.heap.objs.size []:=Heap.DictOf.new s.heap
 have hl1:(s.heap.push { cls:= .type "dict",data:= .dict #[]}).get? l=some { cls:= .type "list",data:= .seq its.toArray nl} :=ae _ hl
 have hls:l<s.heap.objs.size:=ao hl
 have hT:Shared.TypeIs { s with heap:=s.heap.push { cls:= .type "dict",data:= .dict #[]}} (.ref l) "list" :=⟨_,hl1,rfl⟩
 refine⟨hnew.typeIs,F.args_dict_init_2 _ _,?_⟩
 unfold Builtin.«dict.__init__»
 refine ac ?_
 unfold Builtin.Dict.selfAndRest
 refine ac (wpAny_notOrdered_dict hnew.typeIs ?_)
 show wpAny _ _ (pure (s.heap.objs.size,[Value.ref l])) _ _ _
 refine af ?_
 show wpAny _ _ (Builtin.Dict.updateFrom "dict.__init__" s.heap.objs.size (.ref l) [] .none) _ _ _
 unfold Builtin.Dict.updateFrom
 refine ac (cU hT ?_)
 rw[aB (by decide)]
 refine ac (jK4 jEQ (by decide+kernel) (by decide+kernel) (by simpa using hA) hl1 fun h2 tk2 k2=>?_)
 rw[aB (by rfl)]
 refine ac (dz (ac ?_))
 have hl2:h2.IsList l its.toArray:=⟨_,k2 _ _ hl1,rfl,nl,rfl⟩
 refine cg hl2 ?_
 have z2:s.heap.objs.size<h2.objs.size:=by
  have:=ao (k2 _ _ (ak s.heap (o:= { cls:= .type "dict",data:= .dict #[]}) rfl))
  exact this
 have hlI:l≠h2.objs.size:=aF (cX hls z2)
 have hdI:s.heap.objs.size≠h2.objs.size:=aF z2
 have hdl:s.heap.objs.size≠l:=b8 hls
 have hplt:∀ i,i<its.length->pa i<s.heap.objs.size:=fun i hi=>by
  obtain⟨key,m,e,_⟩:=hp i more[i] (by simp [hlen,hi])
  exact ao e
 have keep:∀ b u,s.heap.get? b=some u->(h2.push { cls:= .type "list_iterator",data:= .fields #[.ref l, .int 0 0]}).get? b=some u:=fun b u e=>ae _ (k2 _ _ (ae _ e))
 refine af ⟨dM jBC _,upl (knd:=knd) ((hG (by simp [hA]) _ l hlI its.toArray).toS) s.heap.objs.size ?_ more (by simp [hlen]) pa (fun i hi=>?_) (fun i v q=>hit i v (by simpa using q)) (by simpa using hsz) (its.toArray.size - 0) 0 0 _ rfl (bi _) ⟨⟨_,ak _ rfl,rfl,rfl⟩,hl2.push _⟩ ?_ (fun j p hj=>?_) fun s' mv hD=>?_⟩
 ·simp only [am,ar,aX,gL]
  exact⟨hdI,hdl⟩
 ·have:=hplt i (by simpa using hi)
  refine⟨aF this,?_⟩
  simp only [am,ar,aX]
  exact aF (cX this z2)
 ·obtain⟨o,es,ep,ho,r⟩:=hnew
  exact⟨o,es,ep,ae _ (k2 _ _ ho),r⟩
 ·obtain⟨key,m,e,q⟩:=hp j p hj
  exact⟨key,m,keep _ _ e,q⟩
 ·obtain⟨h',g',d',tk',os'⟩:=s'
  have e1:g'=s.gens:=mv.gens
  have e2:d'=s.drawn:=mv.drawn
  have e3:os'=s.os:=mv.os
  subst e1; subst e2; subst e3
  refine⟨rfl,h h' tk' hD fun b u e=>mv.heap b u ?_ (keep b u e)⟩
  have hb:=ao e
  simp only [am,ar,aX,gL]
  exact⟨aF hb,aF (cX hb z2)⟩
end
theorem jJY {P:Program}{w:World}{h:Heap} :∀ (iq:List (Key×V)) (pa:Nat->Addr),(∀ i k v,iq[i]?=some (k,v)->∃ key u m,h.get? (pa i)=some { cls:= .type "tuple",data:= .seq #[key,u] m} /\RelV (kV k) key/\RelV v u)->
  ∃ more:List (Key×Value),KV iq more/\∀ j p,more[j]?=some p->jHF (yX P w) h (pa j) p
 | [],_,_=>⟨[], .nil,fun j p e=>by simp at e⟩
 | (k,v)::r,pa,hk=>by
  obtain⟨more,k1,k2⟩:=jJY (P:=P) (w:=w) r (fun i=>pa (i+1)) fun i k v e=>hk (i+1) k v (by simpa using e)
  obtain⟨key,u,m,e,r1,r2⟩:=hk 0 k v rfl
  refine⟨(k,u)::more, .cons ⟨rfl,r2⟩ k1,fun j p hj=>?_⟩
  cases j with
  | zero=>
   simp at hj
   subst hj
   exact⟨key,m,e,kV_is r1⟩
  | succ j=>exact k2 j p (by simpa using hj)
theorem jIA (hc:X.calm=true):yR X (.type "dict") (fun xs H Q=>∃ (p:Addr) (vs:List V) (iq:List (Key×V)),xs=[.ref p]/\H p=some (.lst vs)/\vs.length=iq.length/\(∀ (i:Nat) (k:Key) (v:V),iq[i]?=some (k,v)->∃ a:Addr,vs[i]?=some (V.ref a)/\H a=some (.tup [kV k,v]))/\(iq.map (·.1)).Nodup/\∀ l:Addr,H l=none->Q (.ref l) (upd H l (.dK iq))):=by
 intro ad s σ H xs us Q I r h
 obtain⟨p,vs,iq,rfl,hq,hl,hkv,hnd,q⟩:=h
 obtain⟨u,rfl,rx⟩:=r.one
 cases rx
 obtain⟨hz,its,nl,r',e0⟩:=I.hok p _ hq
 have hli:=r'.length
 obtain⟨more,k1,k2⟩:=jJY (P:=X.prog) (w:=X.w) (h:=s.heap) iq (fun i=>match vs[i]? with | some (.ref a)=>a | _=>0) fun i k v e=>by
  obtain⟨a,e1,e2⟩:=hkv i k v e
  obtain⟨_,it2,r2,m,e3⟩:=I.hok a _ e2
  have l2:=r2.length
  obtain⟨k',rest,rfl⟩:∃ k' rest,it2=k'::rest:=by
   cases it2 with
   | nil=>simp at l2
   | cons a b=>exact⟨a,b,rfl⟩
  obtain⟨u',rest',rfl⟩:∃ u' rest',rest=u'::rest':=by
   cases rest with
   | nil=>simp at l2
   | cons a b=>exact⟨a,b,rfl⟩
  obtain rfl:rest'=[]:=by
   cases rest' with
   | nil=>rfl
   | cons a b=>simp at l2
  rw[e1]
  cases r2 with
  | cons a1 a2=>
   cases a2 with
   | cons b1 b2=>exact⟨k',u',m,e3,a1,b1⟩
 have lm:more.length=iq.length:=(gb k1).symm
 refine jDC (knd:=yX X.prog X.w) (I.ok.hd hc) e0 (by omega) (fun i=>match vs[i]? with | some (.ref a)=>a | _=>0) (fun i v hv=>?_) (by omega) k2 fun h' tk hD kp=>?_
 ·have hi:i<its.length:=(ay.mp hv).1
  have hik:i<iq.length:=by omega
  obtain⟨a,e1,e2⟩:=hkv i iq[i].1 iq[i].2 (by simp [hik])
  obtain⟨u,e3,e4⟩:=r'.get e1
  rw[hv] at e3
  cases e3
  simp only [e1]
  exact e4
 ·rw[merged_nil_of_nodup _ (by rw[<- KV.keys k1]; exact hnd)] at hD
  have hsz:(s.heap.objs.size==sysModules)=false:=by
   have:=I.big
   exact bD.mpr (b8 this)
  exact⟨.ref s.heap.objs.size,_,I.laid (t':=tk) (o:= .dK iq) kp (aq _) ⟨by omega,hsz,more,k1,hD⟩,rfl,q _ I.fresh⟩
section
variable {K:W.Frag}
theorem gl_n (h:sc.names.lookup x=some .globalImplicit):Gl1 (cxN P w K mg base N qual sc f cd cl A outer s H) x:=⟨h⟩
theorem vis_n (h:sc.names.lookup x=some .local):Vis1 (cxN P w K mg base N qual sc f cd cl A outer s H) x:=⟨.inl h⟩
end
theorem jRW {x:Str}{args:Arguments}{body:List Stmt}{scope:Scope}{pos:Pos}{c0 T:Addr}{j:Nat}(hN:X.N.Nodup)(hj:X.N[j]?=some x)(lx:Loc1 X x)(hcode:X.env.code= .ref c0)(CH:PySem.W.CodeHd X.base c0 T)(hbm:BltAt X.base X.mg)
  (hfree:∀ y∈scope.names,y.2= .free->X.env.scope.names.lookup y.1=some .cell\/X.env.scope.names.lookup y.1=some .free) (hdf:defaultsOf args X.env=([],[])) (han:annTrees args none X.env=[]):
  JS X (.FunctionDef x args body [] none [] scope none x pos) (tDef x (qualnameIn X.env x x) args body scope (kG X.env.cells scope.names []) T pos j):=⟨jQZ hN hj lx.a hcode CH hbm hfree hdf han lx.b⟩
def iSeq (K:W.Frag)(te:TE):TI:=fun σ H R=>iList K te σ H R\/iTup K te σ H R
theorem jRX {tg a:Expr}{ta:TE}(hl:JE X a ta):JI X tg a (iSeq X.K ta):=⟨fun ad s σ H R I h=>by
 rcases h with h | h
 ·exact(jPU hl).h ad s σ H R I h
 ·exact(qT hl).h ad s σ H R I h⟩
def AtS (tp:Bool)(H:Hp)(a:Addr)(xs:List V):Prop:=match tp with
 | false=>H a=some (.lst xs)
 | true=>H a=some (.tup xs)
theorem AtS.sq {tp:Bool}{K:W.Frag}{H:Hp}{a:Addr}{xs:List V}(h:AtS tp H a xs):Sq tp K H a xs:=by
 cases tp with
 | false=>exact SqL.of h
 | true=>exact SqT.of h
theorem AtS.or {tp:Bool}{K:W.Frag}{H:Hp}{a:Addr}{xs:List V}(h:AtS tp H a xs):SqL K H a xs\/SqT K H a xs:=by
 cases tp with
 | false=>exact .inl (SqL.of h)
 | true=>exact .inr (SqT.of h)
def AtS.ob (tp:Bool)(xs:List V):HO:=match tp with
 | false=> .lst xs
 | true=> .tup xs
theorem AtS.is {tp:Bool}{H:Hp}{a:Addr}{xs:List V} :AtS tp H a xs↔H a=some (AtS.ob tp xs):=by cases tp <;> exact Iff.rfl
theorem AtS.ext {tp:Bool}{H H':Hp}{a:Addr}{xs:List V}(h:AtS tp H a xs)(e:Ext H H'):AtS tp H' a xs:=AtS.is.mpr (e _ _ (AtS.is.mp h))
theorem jRZ {i o:Expr}{ty td:TE}{pos:Pos}(hu:X.A.units+1<cLine)(hi:JE X i ty)(ho:JE X o td)(h1:behindInMarks .In o=false):JT X (.Compare i [.In] [o] pos) (tB (tDIn ty td)):=⟨jQX (jRC hu hi.h ho.h) h1⟩
section
variable {K:W.Frag}{σ:St}
theorem jEY {a:Addr}{xs:List V}(hn:xs.length<sizeLine)(Pv:Addr->Nat->St->Hp->List V->Prop)(h0:∀ D,H1 D=none->Pv D 0 (blkσ m σ) (upd H1 D (.lst [])) [])
  (hD:∀ D i σ' H' zs,H1 D=none->Pv D i σ' H' zs->H' a=some (.lst xs)/\H' D=some (.lst zs)/\zs.length<=i)
  (hs:∀ D i σ' H' zs x,H1 D=none->xs[i]?=some x->Pv D i σ' H' zs->g x σ' H' fun σ2 H2=>tt σ2 H2 fun b H3=>if b=true then te σ2 H3 fun v H4=>H4 D=some (.lst zs)/\Pv D (i+1) σ2 (upd H4 D (.lst (zs++[v]))) (zs++[v]) else Pv D (i+1) σ2 H3 zs)
  (hd:∀ D σ' H' zs,H1 D=none->Pv D xs.length σ' H' zs->Q (.ref D) H'):qZ m g tt te σ Q (Itl K a) H1:=by
 intro D hDn
 refine⟨fun i k σ' H' zs=>k=xs.length - i/\i<=xs.length/\Pv D i σ' H' zs,⟨_,rfl,bi _,h0 D hDn⟩,?_⟩
 rintro i k σ' H' zs ⟨rfl,hi,p⟩
 obtain⟨s1,q1,q2⟩:=hD D i σ' H' zs hDn p
 refine⟨q1,by omega,?_⟩
 by_cases hlt:i<xs.length
 ·refine .inr ⟨⟨xs,xs[i],SqL.of s1,by simp [hlt]⟩,Pv D (i+1),fun σ2 H2 zs z=>⟨xs.length - (i+1),by omega,rfl,hlt,z⟩,fun v H'' y=>?_⟩
  obtain⟨e1,e2⟩:=y
  subst e1
  exact hs D i σ' _ zs v hDn (e2 xs (SqL.of s1)) p
 ·have e:i=xs.length:=by omega
  subst e
  exact .inl ⟨⟨xs,SqL.of s1,aq _⟩,hd D σ' H' zs hDn p⟩
theorem jN2 {tp:Bool}{ta:TE}{a:Addr}{xs:List V}(ha:AtS tp H1 a xs)(hta:∀ Q:VK,Q (.ref a) H1->ta σ H1 Q)(hn:xs.length<sizeLine)(Pv:Addr->Nat->St->Hp->List V->Prop)(h0:∀ D,H1 D=none->Pv D 0 (blkσ m σ) (upd H1 D (.lst [])) [])
  (hD:∀ D i σ' H' zs,H1 D=none->Pv D i σ' H' zs->AtS tp H' a xs/\H' D=some (.lst zs)/\zs.length<=i)
  (hs:∀ D i σ' H' zs x,H1 D=none->xs[i]?=some x->Pv D i σ' H' zs->g x σ' H' fun σ2 H2=>tt σ2 H2 fun b H3=>if b=true then te σ2 H3 fun v H4=>H4 D=some (.lst zs)/\Pv D (i+1) σ2 (upd H4 D (.lst (zs++[v]))) (zs++[v]) else Pv D (i+1) σ2 H3 zs)
  (hd:∀ D σ' H' zs,H1 D=none->Pv D xs.length σ' H' zs->Q (.ref D) H'):iSeq K ta σ H1 (qZ m g tt te σ Q):=by
 cases tp with
 | false=>exact .inl (hta _ ⟨a,rfl,⟨xs,SqL.of ha⟩,jEY hn Pv h0 hD hs hd⟩)
 | true=>exact .inr (hta _ ⟨a,rfl,⟨xs,SqT.of ha⟩,jCF hn Pv h0 hD hs hd⟩)
end
theorem ExtT.of {T:Addr}{H H':Hp}(e:Ext H H'):ExtT T H H':=fun b o h _=>e b o h
theorem ExtT.trans {T:Addr}{H H' H'':Hp}(a:ExtT T H H')(b:ExtT T H' H''):ExtT T H H'':=fun c o h n=>b c o (a c o h n) n
theorem TabOk.is {H:Hp}{T:Addr}{pos:Pos}{q:Str}(t:TabOk H T pos q):∃ ps,H T=some (.tbl ps):=by
 rcases t with h | ⟨c,h,_⟩
 ·exact⟨_,h⟩
 ·exact⟨_,h⟩
theorem TabOk.ne {H:Hp}{T:Addr}{pos:Pos}{q:Str}(t:TabOk H T pos q){b:Addr}{o:HO}(h:H b=some o)(ho:∀ ps,o≠ .tbl ps):b≠T:=fun e=>by
 obtain⟨ps,z⟩:=t.is
 rw[e,z] at h
 cases h
 exact ho ps rfl
theorem TabOk.ext {H H':Hp}{T:Addr}{pos:Pos}{q:Str}(t:TabOk H T pos q)(e:Ext H H'):TabOk H' T pos q:=by
 rcases t with h | ⟨c,h,h2⟩
 ·exact .inl (e _ _ h)
 ·exact .inr ⟨c,e _ _ h,e _ _ h2⟩
theorem ExtT.at {T:Addr}{H H':Hp}(e:ExtT T H H'){pos:Pos}{q:Str}(t:TabOk H T pos q){b:Addr}{o:HO}(h:H b=some o)(ho:∀ ps,o≠ .tbl ps:=by intro _ z; cases z):H' b=some o:=e b o h (t.ne h ho)
theorem ExtT.seq {T:Addr}{H H':Hp}(e:ExtT T H H'){pos:Pos}{q:Str}(t:TabOk H T pos q){tp:Bool}{b:Addr}{xs:List V}(h:AtS tp H b xs):AtS tp H' b xs:=by
 cases tp with
 | false=>exact e.at t (show H b=some (.lst xs) from h)
 | true=>exact e.at t (show H b=some (.tup xs) from h)
structure FunC (K:W.Frag)(x qual:Str)(st:Stmt)(f:Addr)(fd:FuncData)(c0:Addr):Prop where
 ex:∃ (oc:Value) (od:Option Addr) (kV doc pm:Value) (an:Option Addr) (ct:Value) (osl:Array (Option Value)),fd=PySem.W.fnOf x qual (kS st) (jG st) (j9 st) .none kV doc pm an (.ref c0) ct/\K.lookup f=some ⟨oc,od, .func fd,osl⟩/\PySem.W.codeIn K (.ref c0) qual=true
theorem FunC.ok {P:Program}{w:World}{K:W.Frag}{mg:Str->Option Value}{base:Heap}{x qual:Str}{st:Stmt}{f c0:Addr}{fd:FuncData}{N ps:List Str}{k:Nat}{sp:Sp}(F:FunC K x qual st f fd c0)(S:FnScope N ps (j9 st))(len:∀ vs H Q E,sp vs H Q E->vs.length=ps.length)
  (hbody:∀ (A:Around) (outer:List Env) (s:Shared) (H:Hp) (vs:List V) (Q:VK) (E:XK),Room k (A.deeper (envOfC qual (j9 st) s.heap.objs.size f (.ref c0)))->sp vs H Q E->
   ∃ t,PSs (cxOf CX0 P w K mg base N qual (j9 st) f (.ref c0) A outer s H E).nox (jG st) t/\t { nx:=fun _ H'=>Q .non H',rt:=Q} (start N vs) H):FnOk P w K mg base CX0 (k+1) f fd ps sp:=by
 obtain⟨oc,od,kV,doc,pm,an,ct,osl,rfl,lk,hcd⟩:=F.ex
 refine fn_of lk hcd S len fun A outer s H vs Q E hr hsp=>?_
 obtain⟨t,ht,hq⟩:=hbody A outer s H vs Q E hr hsp
 exact⟨t,ht.nox,hq⟩
variable {fp:List Addr}
section
theorem jMP {sc2:Scope}(h:(sc2.names.all fun y=>decide (y.2= .free->sc.names.lookup y.1=some .cell\/sc.names.lookup y.1=some .free))=true):
  ∀ y∈sc2.names,y.2= .free->(blk X sc cl C Nc fp s H).env.scope.names.lookup y.1=some .cell\/(blk X sc cl C Nc fp s H).env.scope.names.lookup y.1=some .free:=fun y hy hf=>by
 rcases ai (aQ.mp h y hy) hf with q | q
 ·exact .inl (jA7 (by decide) q)
 ·exact jB2 q
theorem jME {tg a:Expr}{ta:TE}(hl:JE (blk X sc cl C Nc fp s H) a ta):JI (blk X sc cl C Nc fp s H) tg a (iTup X.K ta):=qT hl
variable {sc2:Scope}{cl2:List (Str×Addr)}{C2:Addr}{Nc2:List Str}{fp2:List Addr}{s2:Shared}{H2:Hp}
theorem jFX:yR (blk X sc cl C Nc fp s H) (.type "tuple") (fun xs H Q=>∃ p ys,xs=[.ref p]/\((SqL X.K H p ys/\∀ l,H l=none->Q (.ref l) (upd H l (.tup ys)))\/(SqT X.K H p ys/\Q (.ref p) H))):=jA0
end
theorem kQ {X:Cx}{st:Stmt} :JS X st (fun _ _ _=>False):=⟨fun _ _ _ _ _ _ h=>h.elim⟩
section
variable {K:W.Frag}{σ:St}
abbrev TupsK (H H':Hp):Prop:=∀ b xs,H b=some (.tup xs)->H' b=some (.tup xs)
structure ZOk (Z:Hp->List V->Nat->Prop):Prop where
 z0:∀ H,Z H [] 0
 mono:∀ H H' zs j,TupsK H H'->Z H zs j->Z H' zs j
 len:∀ H zs j,Z H zs j->zs.length<=j
theorem jEC {H:Hp}{D:Addr}{zs:List V}(h:H D=some (.lst zs))(o:HO):TupsK H (upd H D o):=fun b xs hb=>by
 rw[jD (fun e=>by rw[e,h] at hb; cases hb)]
 exact hb
def TurnZ (g:TG)(tt:TT)(te:TE)(σP:St->Prop)(Z:Hp->List V->Nat->Prop)(x:V)(j:Nat)(σ':St)(H':Hp)(zs:List V):Prop:=
 ∀ (R:St->V->Hp->Prop) (S:St->Hp->Prop),(∀ σ2 v H2,σP σ2->Ext H' H2->Z H2 (zs++[v]) (j+1)->R σ2 v H2)->(∀ σ2 H2,σP σ2->Ext H' H2->Z H2 zs (j+1)->S σ2 H2)->
  g x σ' H' fun σ2 H2=>tt σ2 H2 fun b H3=>if b=true then te σ2 H3 (R σ2) else S σ2 H3
theorem jQ3 {tp:Bool}{a:Addr}{xs:List V}(σP:St->Prop)(Z:Hp->List V->Nat->Prop)(zo:ZOk Z)(ha:AtS tp H a xs)(hn:xs.length<sizeLine)(h0:σP (blkσ m σ))
  (step:∀ j x σ' H' zs,xs[j]?=some x->σP σ'->Ext H H'->Z H' zs j->TurnZ g tt te σP Z x j σ' H' zs)
  (hd:∀ D H' zs,H' D=some (.lst zs)->Ext H H'->H D=none->Z H' zs xs.length->Q (.ref D) H'):qZ m g tt te σ Q (match tp with | false=>Itl K a | true=>Itt K a) H:=by
 have turn:∀ D j σ' H' zs x,H D=none->xs[j]?=some x->(σP σ'/\Ext H H'/\H' D=some (.lst zs)/\H D=none/\Z H' zs j)->g x σ' H' fun σ2 H2=>tt σ2 H2 fun b H3=>if b=true then te σ2 H3 fun v H4=>H4 D=some (.lst zs)/\(σP σ2/\Ext H (upd H4 D (.lst (zs++[v])))/\(upd H4 D (.lst (zs++[v]))) D=some (.lst (zs++[v]))/\H D=none/\Z (upd H4 D (.lst (zs++[v]))) (zs++[v]) (j+1)) else (σP σ2/\Ext H H3/\H3 D=some (.lst zs)/\H D=none/\Z H3 zs (j+1)):=by
  rintro D j σ' H' zs x hD hx ⟨p,e,h2,hn,hz⟩
  exact step j x σ' H' zs hx p e hz _ _ (fun σ2 v H2 p2 e2 z2=>⟨e2 _ _ h2,p2,(e.trans e2).updNew hn _,jA,hn,zo.mono _ _ _ _ (jEC (e2 _ _ h2) _) z2⟩) fun σ2 H2 p2 e2 z2=>⟨p2,e.trans e2,e2 _ _ h2,hn,z2⟩
 cases tp with
 | false=>exact jEY (xs:=xs) hn (fun D j σ' H' zs=>σP σ'/\Ext H H'/\H' D=some (.lst zs)/\H D=none/\Z H' zs j) (fun D hD=>⟨h0,(Ext.refl _).new hD _,jA,hD,zo.z0 _⟩) (fun D j σ' H' zs hD ⟨_,e,h2,_,hz⟩=>⟨e _ _ ha,h2,zo.len _ _ _ hz⟩) turn fun D σ' H' zs hD ⟨_,e,h2,hn,hz⟩=>hd D H' zs h2 e hn hz
 | true=>exact jCF (xs:=xs) hn (fun D j σ' H' zs=>σP σ'/\Ext H H'/\H' D=some (.lst zs)/\H D=none/\Z H' zs j) (fun D hD=>⟨h0,(Ext.refl _).new hD _,jA,hD,zo.z0 _⟩) (fun D j σ' H' zs hD ⟨_,e,h2,_,hz⟩=>⟨e _ _ ha,h2,zo.len _ _ _ hz⟩) turn fun D σ' H' zs hD ⟨_,e,h2,hn,hz⟩=>hd D H' zs h2 e hn hz
theorem jAO {a:Addr}{xs:List V}(σP:St->Prop)(Z:Hp->List V->Nat->Prop)(zo:ZOk Z)(ha:H a=some (.tup xs))(hn:xs.length<sizeLine)(h0:σP (blkσ m σ))
  (step:∀ j x σ' H' zs,xs[j]?=some x->σP σ'->Ext H H'->Z H' zs j->TurnZ g tt te σP Z x j σ' H' zs)
  (hd:∀ D H' zs,H' D=some (.lst zs)->Ext H H'->H D=none->Z H' zs xs.length->Q (.ref D) H'):qZ m g tt te σ Q (Itt K a) H:=jQ3 (tp:=true) σP Z zo ha hn h0 step hd
theorem jE4 {n:Nat}(σP:St->Prop)(Z:Hp->List V->Nat->Prop)(zo:ZOk Z)(hn:n<sizeLine)(h0:σP (blkσ m σ))
  (step:∀ j σ' H' zs,j<n->σP σ'->Ext H H'->Z H' zs j->TurnZ g tt te σP Z (.int (0+j)) j σ' H' zs)
  (hd:∀ D H' zs,H' D=some (.lst zs)->Ext H H'->H D=none->Z H' zs n->Q (.ref D) H'):qZ m g tt te σ Q (Itr 0 n) H:=by
 refine jBO (lo:=0) (n:=n) hn (fun D j σ' H' zs=>σP σ'/\Ext H H'/\H' D=some (.lst zs)/\H D=none/\Z H' zs j) (fun D hD=>⟨h0,(Ext.refl _).new hD _,jA,hD,zo.z0 _⟩) (fun D j σ' H' zs hD hj ⟨_,e,h2,_,hz⟩=>⟨h2,zo.len _ _ _ hz⟩) ?_ fun D σ' H' zs hD ⟨_,e,h2,hn,hz⟩=>hd D H' zs h2 e hn hz
 rintro D j σ' H' zs hD hj ⟨p,e,h2,hn,hz⟩
 exact step j σ' H' zs hj p e hz _ _ (fun σ2 v H2 p2 e2 z2=>⟨e2 _ _ h2,p2,(e.trans e2).updNew hn _,jA,hn,zo.mono _ _ _ _ (jEC (e2 _ _ h2) _) z2⟩) fun σ2 H2 p2 e2 z2=>⟨p2,e.trans e2,e2 _ _ h2,hn,z2⟩
end
def outZ {α:Type}(l:List α)(p:α->Bool)(f:α->V):Hp->List V->Nat->Prop:=fun _ zs j=>zs=((l.take j).filter p).map f
theorem outZ.ok {α:Type}(l:List α)(p:α->Bool)(f:α->V):ZOk (outZ l p f):=⟨fun _=>rfl,fun _ _ _ _ _ h=>h,fun _ zs j h=>by
 rw[show zs=_ from h,ag]
 exact bF (dj _ _) (bR _ _)⟩
theorem outZ.yes {α:Type}{l:List α}{p:α->Bool}{f:α->V}{H H':Hp}{zs:List V}{j:Nat}{x:α}(h:outZ l p f H zs j)(hx:l[j]?=some x)(hp:p x=true):outZ l p f H' (zs++[f x]) (j+1):=by
 show _=_
 rw[bP,hx,dR,aU,<- show zs=_ from h]
 simp [hp]
theorem outZ.no {α:Type}{l:List α}{p:α->Bool}{f:α->V}{H H':Hp}{zs:List V}{j:Nat}{x:α}(h:outZ l p f H zs j)(hx:l[j]?=some x)(hp:p x=false):outZ l p f H' zs (j+1):=by
 show _=_
 rw[bP,hx,dR,aU,<- show zs=_ from h]
 simp [hp]
def mapZ {α:Type}(l:List α)(f:α->V):Hp->List V->Nat->Prop:=fun _ zs j=>zs=(l.take j).map f
theorem mapZ.ok {α:Type}(l:List α)(f:α->V):ZOk (mapZ l f):=⟨fun _=>rfl,fun _ _ _ _ _ h=>h,fun _ zs j h=>by
 rw[show zs=_ from h,ag]
 exact bR _ _⟩
theorem mapZ.yes {α:Type}{l:List α}{f:α->V}{H H':Hp}{zs:List V}{j:Nat}{x:α}(h:mapZ l f H zs j)(hx:l[j]?=some x):mapZ l f H' (zs++[f x]) (j+1):=by
 show _=_
 rw[bP,hx,aU,<- show zs=_ from h]
 rfl
theorem mapZ.all {α:Type}{l:List α}{f:α->V}{H:Hp}{zs:List V}{n:Nat}(h:mapZ l f H zs n)(hn:l.length<=n):zs=l.map f:=by
 rw[show zs=_ from h,bx hn]
theorem jPS {X:Cx}{e:Expr}{te:TE}{x:Str}{pos:Pos}{i:Nat}{pos':Pos}(hN:X.N.Nodup)(hi:X.N[i]?=some x)(hx:Loc1 X x)(he:JE X e te)(hs:swapsWith e (some (.Name x pos')) pos.line X.env=pure false):JS X (.Assign [.Name x pos'] e pos) (tAsg te (kX i)):=⟨qL hN hi hx.a he.h hs hx.b⟩
section
variable {st:Stmt}{sts:List Stmt}{t:TS}
theorem JS.nox (h:JS X.nox st t):JS X st t:=⟨fun ad s σ H D I hw=>aZ (h.h ad s σ H D (I.wish _) hw) (fun _ _ q=>q.unwish) fun _ _ z=>False.elim z⟩
theorem JT.nox (h:JT X.nox e tt):JT X e tt:=⟨h.h.nox⟩
end
def jQI (E:XK)(t:TA):TS:=fun _ σ H=>t σ H fun vs H1=>vs.length<=sizeLine/\∀ a,E (.ref a) (some a) H1
theorem jA4 {P:Program}{w:World}{K:W.Frag}{mg:Str->Option Value}{base:Heap}{N:List Str}{qual:Str}{sc:Scope}{f:Addr}{cdv:Value}{A:Around}{outer:List Env}{s:Shared}{H:Hp}{E:XK}{x:Str}{C:Addr}{c:Const}{k:Nat}{t:TA}{np cpos pos p:Pos}
  (hc:(cxOf (CXX P w C) P w K mg base N qual sc f cdv A outer s H E).calm=true) (ek:ExcK K C) (hg:Gl1 (cxOf (CXX P w C) P w K mg base N qual sc f cdv A outer s H E).nox x) (hm:mg x=some (.ref C)) (ha:JA (cxOf (CXX P w C) P w K mg base N qual sc f cdv A outer s H E) [.Constant c k p] t) (hd:(x==("__debug__" :Str))=false:=by decide):
  JS (cxOf (CXX P w C) P w K mg base N qual sc f cdv A outer s H E) (.Raise (some (.Call (.Name x np) [.Constant c k p] [] cpos)) none pos) (jQI E t):=
 ⟨jJ8 hc ek hg.a hm ha.h (fun _ _ _ _ _ _ _ I m w1=>xe_cx I m w1) hd rfl rfl⟩
theorem Fun.okX {P:Program}{w:World}{K:W.Frag}{mg:Str->Option Value}{base:Heap}{C:Addr}{x qual:Str}{st:Stmt}{f:Addr}{fd:FuncData}{N ps:List Str}{k:Nat}{sp:Sp}(F:Fun K x qual st f fd)(S:FnScope N ps (j9 st))(len:∀ vs H Q E,sp vs H Q E->vs.length=ps.length)
  (hbody:∀ (cdv:Value) (A:Around) (outer:List Env) (s:Shared) (H:Hp) (vs:List V) (Q:VK) (E:XK),Room k (A.deeper (envOfC qual (j9 st) s.heap.objs.size f cdv))->sp vs H Q E->
   ∃ t,PSs (cxOf (CXX P w C) P w K mg base N qual (j9 st) f cdv A outer s H E) (jG st) t/\t { nx:=fun _ H'=>Q .non H',rt:=Q} (start N vs) H):FnOk P w K mg base (CXX P w C) (k+1) f fd ps sp:=by
 obtain⟨oc,od,kV,doc,pm,an,cdv,ct,osl,rfl,lk,hcd⟩:=F.ex
 exact fn_of lk hcd S len fun A outer s H vs Q E hr hsp=>hbody cdv A outer s H vs Q E hr hsp
end L2
namespace L2
open PySem
structure CanS (P:Program)(w:World)(K:W.Frag)(mg:Str->Option Value)(base:Heap)(x:Str)(k:Nat)(f:Addr)(fd:FuncData)(ps:List Str)(sp:Addr->Sp):Prop where
 G:FnS P w K mg base k f fd ps sp
 m:mg x=some (.ref f)
 kp:keepIn K (.ref f)=true
 b:Binds K fd ps []
end L2
namespace L2
open PySem PySem.Spec PyProof.Rows
section
variable {m:List (Option Nat)}{g:TG}{tt:TT}{te:TE}{σ:St}{H1:Hp}{Q:VK}
end
theorem jGM {P:Program}{w:World}{K:W.Frag}{mg:Str->Option Value}{base:Heap}{N:List Str}{qual:Str}{sc:Scope}{f:Addr}{cdv:Value}{A:Around}{outer:List Env}{s:Shared}{H:Hp}{E:XK}{C:Addr} :
  jCB (CXX P w C) (cxOf (CXX P w C) P w K mg base N qual sc f cdv A outer s H E) E:=by
 intro ad σ H1 s1 e s2 I hq
 obtain⟨x,T,H2,rfl,os2,bare2,un2,hok2,fx,fT,hx,hT,ex2,q2⟩:=hq
 have I2:Inv (cxOf (CXX P w C) P w K mg base N qual sc f cdv A outer s H E) ad σ H2 s2:=by
  obtain⟨hh,g,d,t,os'⟩:=s2
  obtain rfl:os'=s1.os:=os2
  exact I.call (h':=hh) (g':=g) (d':=d) (t':=t) (ch:=[]) un2 hok2 bare2 (fun b z=>absurd z (by simp))
 have st:s2.heap.FunFrames base (PyProof.Rows.envOfC qual sc s.heap.objs.size f cdv::outer):=I2.stack
 have sz:s.heap.objs.size<=s1.heap.objs.size:=I.sz
 have un:Un (frs outer) [] H H2 s.heap s2.heap:=I2.base
 have un1:Un (frs outer) [] H H1 s.heap s1.heap:=I.base
 have nl:∀ b o,s.heap.get? b=some o->b∉frs outer->b∉frs (PyProof.Rows.envOfC qual sc s.heap.objs.size f cdv::outer):=fun b o hb n1 hm=>by
  rcases am.mp (show b∈s.heap.objs.size::frs outer from hm) with q | q
  ·exact absurd (ao hb) (by rw[q]; exact bG _)
  ·exact n1 q
 have na:∀ b o,s.heap.get? b=some o->b∉ [x,T]:=fun b o hb hm=>by
  obtain⟨o',q⟩:=un1.there b o hb (by simp)
  have hl:=ao hb
  rcases am.mp hm with z | z
  ·rw[z,fx] at q
   cases q
  ·rw[aG.mp z] at hl
   exact absurd hl (not_lt.mpr (bF sz fT))
 show wpAny _ _ (leaving _ (.ref x)) _ _ s2
 unfold leaving
 refine ac (jGO (base:=base) I2.ok.frames st rfl ex2 fun h' T' n e z=>?_)
 refine⟨x,T',H2,rfl,I2.os,I2.bare,⟨fun b o hb n1 n2 n3=>?_,fun b o hb n1 n2 n3=>?_,un.free,fun b o hb n3=>?_,un.tups,un.frzs,un.tbls⟩,?_,?_,?_,hx,?_,e,q2⟩
 ·exact n.keep b o (un.keep b o hb n1 n2 n3) (nl b o hb n2) (na b o hb)
 ·obtain⟨sl,q⟩:=un.slot b o hb n1 n2 n3
  obtain⟨sl2,q2⟩:=n.slot b _ q (na b o hb)
  exact⟨sl2,q2⟩
 ·obtain⟨o',q⟩:=un.there b o hb n3
  obtain⟨sl2,q2⟩:=n.slot b _ q (na b o hb)
  exact⟨_,q2⟩
 ·refine I2.hok.note n (fun b hb=>I2.stkFree b hb) fun b hb=>?_
  rcases am.mp hb with z | z
  ·rw[z]
   exact hx
  ·rw[aG.mp z]
   exact hT
 ·cases q:s.heap.get? x with
  | none=>rfl
  | some o=>exact absurd (aJ) (na x o q)
 ·have sz2:s.heap.objs.size<=s2.heap.objs.size:=I2.sz
  exact bF sz2 z
 ·exact I2.hok.fresh z
open PySem.AutoSeq1 (wpAny_loadPart')
variable {w:World}{s:Shared}
section
variable {prog:Program}{A:Around}{E:Value->Shared->Prop}
end
variable {X:Cx}
section
variable {sc:Scope}{cl:List (Str×Addr)}{C:Addr}{Nc:List Str}{fp:List Addr}{H:Hp}
end
section
variable {P:Program}{K:W.Frag}{mg:Str->Option Value}{base:Heap}
end
section
variable {Z:Shared->Hp->Prop}{zh:Hp->Prop}{k:Nat}{a:Addr}{sp:Sp}{x:Str}{p pos:Pos}{e:Expr}{es:List Expr}{t:TA}{j:Nat}
end
end L2
namespace TM
open PySem PyProof.Rows
class Od where
 kd:SortKind
 ky:Keyed->Int
 is:Keyed->Prop
abbrev key [Od]:Keyed->Int:=Od.ky
abbrev IsI [Od]:Keyed->Prop:=Od.is
class LtOk (prog:Program) (w:World) (A:Around) (s:Shared) [Od]:Prop where
 lt:∀ {E:Value->Shared->Prop}{st:SortSt}{x y:Keyed}{Q:Option Bool->SortSt->Prop},kindOf st=Od.kd->IsI x->IsI y->Q (some (decide (key x<key y))) st->wpS (model prog w) A E s (lt' x y) Q st
variable [Od]
def jQ0:Bool->Keyed->Array Keyed->Nat->Nat->Nat->StateT SortSt Sem (Option Nat):=sortPriv% PySem.Builtin.gallop
theorem elP:(sortPriv% PySem.Builtin.elem)=elem':=rfl
theorem ltP:(sortPriv% PySem.Builtin.lt)=lt':=rfl
theorem ltAtP:(sortPriv% PySem.Builtin.ltAt)=ltAt':=rfl
theorem gallopP:(sortPriv% PySem.Builtin.gallop)=jQ0:=rfl
section
variable {prog:Program}{w:World}{A:Around}{E:Value->Shared->Prop}{s:Shared}
end
section
variable {prog:Program}{w:World}{A:Around}{E:Value->Shared->Prop}{s:Shared} [LtOk prog w A s]
end
def jDQ:Nat->StateT SortSt Sem Unit:=sortPriv% PySem.Builtin.setMinGallop
theorem setMinP:(sortPriv% PySem.Builtin.setMinGallop)=jDQ:=rfl
def jM9:Array Keyed->Array Keyed->StateT SortSt Sem (Array Keyed):=sortPriv% PySem.Builtin.mergeLo
theorem mergeLoP:(sortPriv% PySem.Builtin.mergeLo)=jM9:=rfl
def jMA:Array Keyed->Array Keyed->StateT SortSt Sem (Array Keyed):=sortPriv% PySem.Builtin.mergeHi
theorem mergeHiP:(sortPriv% PySem.Builtin.mergeHi)=jMA:=rfl
variable {a b:Array Keyed}{i j:Nat}
section
variable {out:Array Keyed}{k:Nat}
end
section
variable {prog:Program}{w:World}{A:Around}{E:Value->Shared->Prop}{s:Shared} [LtOk prog w A s]
end
section
variable {prog:Program}{w:World}{A:Around}{E:Value->Shared->Prop}{s:Shared} [LtOk prog w A s]
end
section
variable {out:Array Keyed}{k:Nat}
end
section
variable {prog:Program}{w:World}{A:Around}{E:Value->Shared->Prop}{s:Shared} [LtOk prog w A s]
end
section
variable {prog:Program}{w:World}{A:Around}{E:Value->Shared->Prop}{s:Shared} [LtOk prog w A s]
end
section
variable {prog:Program}{w:World}{A:Around}{E:Value->Shared->Prop}{s:Shared} [LtOk prog w A s]{a₀:Array Keyed}{p:Array (Nat×Nat×Nat)}{F:Nat->Int}{lo:Nat}
end
section
variable {prog:Program}{w:World}{A:Around}{E:Value->Shared->Prop}{s:Shared} [LtOk prog w A s]
end
section
variable {xs ys:Array Keyed}
end
section
variable {prog:Program}{w:World}{A:Around}{E:Value->Shared->Prop}{s:Shared} [LtOk prog w A s]{a₀:Array Keyed}
end
end TM
namespace TM
open PySem PySem.Spec PyProof.Rows
section
variable {prog:Program}{w:World}{A:Around}{E:Value->Shared->Prop}{s:Shared}
end
end TM
namespace L2
open PySem PySem.Spec PyProof.Rows
section
variable {prog:Program}{w:World}{A:Around}{E:Value->Shared->Prop}{s:Shared}{d:Addr}{iq:List (Key×Value)}
end
variable {X:Cx}
section
variable {x:Str}{p pos kpos:Pos}{e:Expr}{es:List Expr}{kws:List Keyword}{t tk:TA}{te:TE}{nm:Option Str}{ks:List Str}{id:String}{r:List V->List V->Hp->VK->Prop}
end
theorem jO0 {o:Expr}{to:TE}{name:Str}{apos cpos:Pos}{T id:String}{r:V->List V->Hp->VK->Prop}(pa:PlainAttrs T)(slot:Slot T name id)(hty:typeOf (.builtin id)=pure (.type "method_descriptor"))(hm:MtR X id r)(ho:JE X o to)
  (hbase:attributeBase o name X.env (eval o X.env)=eval o X.env:=by rfl) (hline:(apos.endLine==cpos.line)=true:=by rfl):JE X (.Call (.Attribute o name apos) [] [] cpos) (tBM0 X.K T r to):=⟨jRA pa slot hty hm ho.h hbase hline⟩
theorem jMQ {K:W.Frag}{tp:Bool}{l:Addr}{xs:List V}{g:TG}{tb:TS}{D:Ends}{σ:St}{H:Hp}(Pv:Nat->St->Hp->Prop)(h0:Pv 0 σ H)(hl:∀ i σ H,Pv i σ H->Sq tp K H l xs)
  (hs:∀ i x T σ H,xs[i]?=some x->H T=none->Pv i σ H->g (.ref T) σ (upd H T (.tup [.int (i:Int),x])) fun σ2 H2=>tb { D with nx:=Pv (i+1),ct:=Pv (i+1),bk:=D.nx} σ2 H2) (hd:∀ σ H,Pv xs.length σ H->D.nx σ H):
  ∃ W:Nat->Nat->St->Hp->Prop,(∃ m,W 0 m σ H)/\∀ i m σ H,W i m σ H->
   ((Ite tp K l).stop i H/\D.nx σ H)\/((Ite tp K l).go i H/\∃ N:St->Hp->Prop,(∀ σ' H',N σ' H'->∃ m',m'<m/\W (i+1) m' σ' H')/\∀ x H',(Ite tp K l).yld i H x H'->g x σ H' fun σ2 H2=>tb { D with nx:=N,ct:=N,bk:=D.nx} σ2 H2):=by
 refine⟨fun i m σ H=>m=xs.length - i/\i<=xs.length/\Pv i σ H,⟨_,rfl,bi _,h0⟩,?_⟩
 rintro i m σ H ⟨rfl,hi,p⟩
 have s1:=hl i σ H p
 by_cases hlt:i<xs.length
 ·refine .inr ⟨⟨xs,xs[i],s1,by simp [hlt]⟩,Pv (i+1),fun σ' H' p'=>⟨xs.length - (i+1),by omega,rfl,hlt,p'⟩,fun v H'' y=>?_⟩
  obtain⟨T,x,e1,e2,e3,e4⟩:=y
  subst e2 e3
  exact hs i x T σ _ (e4 xs s1) e1 p
 ·have e:i=xs.length:=by omega
  subst e
  exact .inl ⟨⟨xs,s1,aq _⟩,hd σ H p⟩
def All2 {α β:Type}(R:α->β->Prop):List α->List β->Prop
 | [],[]=>True
 | a::as,b::bs=>R a b/\All2 R as bs
 | _,_=>False
section
variable {α β:Type}{R S:α->β->Prop}
theorem All2.len:∀ {as:List α}{bs:List β},All2 R as bs->as.length=bs.length
 | [],[],_=>rfl
 | _::_,_::_,h=>bO (· +1) (All2.len h.2)
theorem All2.imp (f:∀ a b,R a b->S a b):∀ {as:List α}{bs:List β},All2 R as bs->All2 S as bs
 | [],[],_=>trivial
 | _::_,_::_,h=>⟨f _ _ h.1,All2.imp f h.2⟩
end
end L2
namespace L2
open PySem
variable {X:Cx}
section
variable {tg iter elt:Expr}{ifs:List Expr}{sc:Scope}{pos:Pos}{wi:TI}{g:TG}{tt:TT}{te:TE}{m:List (Option Nat)}{Nc:List Str}
end
end L2
namespace L2
open PySem PySem.Spec PyProof.Rows
variable {X:Cx}{o e:Expr}{apos:Pos}
section
variable {to:TE}{t1:TEX}{T id:String}{name:Str}{r:V->List V->Hp->VK->Prop}{cpos:Pos}
end
theorem jG0:∀ {cs:List Addr}{its:List Value},Vals (cs.map V.ref) its->its=cs.map Value.ref
 | [],_,h=>by cases h; rfl
 | c::cs,_,h=>by
  cases h with
  | cons h1 h2=>rw[be,jG0 h2,show _=Value.ref c from h1]
theorem jE6 {X:Cx}{C:Addr}(ci:ExcIs X.K C):yR X (.builtin "isinstance") (fun xs H Q=>∃ (x t:Addr) (cs:List Addr) (b:Bool),xs=[.ref x, .ref t]/\H x=some (.ext (excP x C))/\H t=some (.tup (cs.map V.ref))/\kitAny X.K (.ref C) (cs.map Value.ref)=some b/\Q (.bl b) H):=by
 intro ad s σ H xs us0 Q I r h
 obtain⟨x,t,cs,b,rfl,hx,ht,e,q⟩:=h
 obtain⟨v,y,rfl,rv,ry⟩:=r.two
 cases (show v=Value.ref x from rv)
 cases (show y=Value.ref t from ry)
 obtain⟨p,_,_⟩:=(show ObjOk X.prog X.w H s.heap x (.ext (excP x C)) from I.hok x _ hx)
 obtain⟨_,its,r',n,g⟩:=(show ObjOk X.prog X.w H s.heap t (.tup (cs.map V.ref)) from I.hok t _ ht)
 have ei:=jG0 r'
 subst ei
 exact PySem.W.kia_tup (jGV ci) I.kIn p g e (fun z=>nomatch z) fun tk=>⟨.bl b,H,I.tok tk,rfl,q⟩
theorem jGW {K:W.Frag}{t:Value} :∀ {cs:List Addr},(∀ a∈cs,kitOne K t (.ref a)=some false)->kitAny K t (cs.map Value.ref)=some false
 | [],_=>rfl
 | c::cs,h=>by
  rw[be]
  unfold kitAny
  rw[h c (aJ ..)]
  exact jGW fun a ha=>h a (aI _ ha)
theorem jAB {a:Expr}{f:Str}{pos:Pos}{es:List Expr}{env:Env} :starEach (.Attribute a f pos::es) env=(false,eval (.Attribute a f pos) env)::starEach es env:=rfl
variable {m:Str}{pos:Pos}{ta:TE}{es:List Expr}{t:TA}{C g:Addr}{fd:FuncData}{ps:List Str}{sp:Sp}
section
variable {value:Expr}{f x:Str}{pos' p:Pos}{tv:TE}{k:Nat}
theorem kD (he:JE X o ta)(hb:attributeBase o f X.env (eval o X.env)=eval o X.env:=by rfl):JE X (.Attribute o f pos) (tFld X.K ta f):=⟨jR9 he.h hb⟩
theorem jGY (ha:JE X o ta)(hv:JE X value tv)(hs:SwOk value (some (.Attribute o f pos'))):JS X (.Assign [.Attribute o f pos'] value pos) (sFld X.K ta tv f):=⟨jQY ha.h hv.h (hs.h _ _)⟩
structure CanM (P:Program)(w:World)(K:W.Frag)(mg:Str->Option Value)(base:Heap)(C:Addr)(m:Str)(k:Nat)(f:Addr)(fd:FuncData)(ps:List Str)(sp:Sp):Prop where
 G:FnOk P w K mg base CX0 k f fd ps sp
 c:Cls K C
 m:Meth K C m f
 b:Binds K fd ps []
structure CanK (P:Program)(w:World)(K:W.Frag)(mg:Str->Option Value)(base:Heap)(x:Str)(C:Addr)(k:Nat)(f:Addr)(fd:FuncData)(ps:List Str)(sp:Sp):Prop where
 G:FnOk P w K mg base CX0 k f fd ps sp
 M:Mk K C f
 m:mg x=some (.ref C)
 b:Binds K fd ps []
theorem CanM.je {pl:Sem Bool}(c:CanM X.prog X.w X.K X.mg X.base C m k g fd ps sp)(hr:Room k X.A)(ho:JE X o ta)(ha:JA X (e::es) t)(hst:starEach (e::es) X.env=(false,eval e X.env)::starEach es X.env)(hpl:(backTo pos (starEach es X.env)).any (·.1)=false:=by rfl)
  (ht:eval (.Call (.Attribute o m apos) (e::es) [] pos) X.env=(do
   let ov <- eval o X.env
   standAt apos.atName
   let (f,first) <- holding [ov] (getMethod ov m pl)
   callWith pos f first (backTo pos (starEach (e::es) X.env)) (backToKw pos (keywordEach [] X.env))):=by rfl):
  JE X (.Call (.Attribute o m apos) (e::es) [] pos) (tMeth C m sp [] E0 ta t):=⟨jFF ho.h c.c c.m c.G hr c.b .nil pass0 ha.h hst hpl ht⟩
theorem CanM.je0 {pl:Sem Bool}(c:CanM X.prog X.w X.K X.mg X.base C m k g fd ps sp)(hr:Room k X.A)(ho:JE X o ta)
  (ht:eval (.Call (.Attribute o m apos) [] [] pos) X.env=(do
   let ov <- eval o X.env
   standAt apos.atName
   let (f,first) <- holding [ov] (getMethod ov m pl)
   callWith pos f first (backTo pos (starEach [] X.env)) (backToKw pos (keywordEach [] X.env))):=by rfl):
  JE X (.Call (.Attribute o m apos) [] [] pos) (tMeth C m sp [] E0 ta tNil):=⟨jLS ho.h c.c c.m c.G hr c.b .nil pass0 ht⟩
theorem CanK.je0 (c:CanK X.prog X.w X.K X.mg X.base x C k g fd ps sp)(hr:Room (k+1) X.A)(hg:Gl1 X x)(hdb:(x==("__debug__" :Str))=false:=by decide):JE X (.Call (.Name x p) [] [] pos) (tMake C sp [] E0 tNil):=⟨jLT c.M c.G hr hg.a c.m c.b .nil pass0 hdb⟩
end
def CXN (P:Program)(w:World)(Cs:List Addr):CXT:=fun outer H s E e s'=>∃ C,C∈Cs/\CXX P w C outer H s (fun _ ox H'=>E (.ref C) ox H') e s'
variable {Cs:List Addr}
section
variable {P:Program}{w:World}{K:W.Frag}{mg:Str->Option Value}{base:Heap}{k:Nat}{f:Addr}
theorem FnOk.toN (F:FnOk P w K mg base (CXX P w C) k f fd ps sp)(hC:C∈Cs):FnOk P w K mg base (CXN P w Cs) k f fd ps (fun vs H Q E=>sp vs H Q fun _ ox H'=>E (.ref C) ox H'):=by
 refine⟨fun vs H Q E h=>F.len _ _ _ _ h,fun A outer s H args us vs Q E hr e0 hb r hsp=>b9 (F.run A outer s H args us vs Q _ hr e0 hb r hsp) fun res s' hq=>?_⟩
 cases res with
 | ok fl=>cases fl <;> exact hq
 | error ev=>exact⟨C,hC,hq⟩
theorem FnOk.toN0 (F:FnOk P w K mg base CX0 k f fd ps sp):FnOk P w K mg base (CXN P w Cs) k f fd ps sp:=by
 refine⟨fun vs H Q E h=>F.len _ _ _ _ h,fun A outer s H args us vs Q E hr e0 hb r hsp=>b9 (F.run A outer s H args us vs Q _ hr e0 hb r hsp) fun res s' hq=>?_⟩
 cases res with
 | ok fl=>cases fl <;> exact hq
 | error ev=>exact hq.elim
end
structure CanMN (Cs:List Addr)(P:Program)(w:World)(K:W.Frag)(mg:Str->Option Value)(base:Heap)(C:Addr)(m:Str)(k:Nat)(f:Addr)(fd:FuncData)(ps:List Str)(sp:Sp):Prop where
 G:FnOk P w K mg base (CXN P w Cs) k f fd ps sp
 c:Cls K C
 m:Meth K C m f
 b:Binds K fd ps []
def jNC (C:Addr)(m:Str)(sp:Sp)(ta:TE)(t:TA):TEX:=fun σ H Q W=>ta σ H fun x H1=>∃ a dx fs,x= .ref a/\H1 a=some (.ins C dx fs)/\fs.lookup m=none/\t σ H1 fun vs H2=>sp (x::vs) H2 Q fun e ox H3=>∀ y D,e= .ref D->ox=some y->H3 y=none->W y D H3
section
variable {k:Nat}
theorem jJ1 {ad:List (Addr×Obj)}{σ:St}{H:Hp}{s:Shared}{Q:VK}{W:Addr->Addr->Hp->Prop}{us:List Value}{vs:List V}(F:FnOk X.prog X.w X.K X.mg X.base (CXN X.prog X.w Cs) k g fd ps sp)(hr:Room k X.A)(hb:Binds X.K fd ps [])(hex:X.ex=[])
  (I:Inv X ad σ H s) (r:Vals vs us) (h:sp vs H Q fun e ox H3=>∀ y D,e= .ref D->ox=some y->H3 y=none->W y D H3):wpAny (model X.prog X.w) X.A (call (.ref g) us) (EP X ad σ Q) (RZ X ad fun x C σ2 H2=>σ2=σ/\W x C H2) s:=by
 have hl:us.length=ps.length:=by rw[<- r.length]; exact F.len _ _ _ _ h
 have hbb:=hb s us I.kIn (by rw[bH]; exact hl)
 rw[bH] at hbb
 refine dP (b9 (F.run X.A X.stack s H ⟨us,[]⟩ us vs _ _ hr I.env0 hbb r h) fun res s2 hq=>?_)
 cases res with
 | ok fl=>
  cases fl with
  | ret u=>exact I.after hq
  | next=>exact False.elim hq
  | brk=>exact False.elim hq
  | cont=>exact False.elim hq
 | error ev=>
  obtain⟨D,_,x,T,H2,rfl,os2,bare2,un2,hok2,fx,fT,hx,hT,ex2,q2⟩:=hq
  have I2:Inv X ad σ H2 s2:=I.call' os2 un2 hok2 bare2 fun b z=>absurd z (by simp)
  have hT1:s.heap.get? T=none:=by
   cases z:s.heap.get? T with
   | none=>rfl
   | some o=>exact absurd (ao z) (not_lt.mpr fT)
  exact⟨x,T,D,σ,H2,rfl,I2,hx,hT,ex2,I.apart hex fx,I.apart hex hT1,rfl,q2 x D rfl rfl hx⟩
theorem CanMN.jx {pl:Sem Bool}(c:CanMN Cs X.prog X.w X.K X.mg X.base C m k g fd ps sp)(hr:Room k X.A)(ho:JE X o ta)(ha:JA X (e::es) t)(hex:X.ex=[])(hst:starEach (e::es) X.env=(false,eval e X.env)::starEach es X.env)(hxe:X.xe=fun _ _=>False:=by rfl)(hpl:(backTo pos (starEach es X.env)).any (·.1)=false:=by rfl)
  (ht:eval (.Call (.Attribute o m apos) (e::es) [] pos) X.env=(do
   let ov <- eval o X.env
   standAt apos.atName
   let (f,first) <- holding [ov] (getMethod ov m pl)
   callWith pos f first (backTo pos (starEach (e::es) X.env)) (backToKw pos (keywordEach [] X.env))):=by rfl):
  JX X (.Call (.Attribute o m apos) (e::es) [] pos) (jNC C m sp ta t):=by
 have nox:∀ {α:Type}{m:Sem α}{Q:α->Shared->Prop}{R:Value->Shared->Prop}{s:Shared},wpAny (model X.prog X.w) X.A m Q X.xe s->wpAny (model X.prog X.w) X.A m Q R s:=fun h=>aZ h (fun _ _ z=>z) fun _ _ z=>by rw[hxe] at z; exact z.elim
 refine⟨fun ad s σ H Q W I h=>dg (pl:=pl) (aZ (nox (ho.h ad s σ H _ I h)) (fun u s1 ⟨x,H1,I1,rx,a,dx,fs,ex,ea,l,q⟩=>?_) fun _ _ z=>z) ht⟩
 subst ex
 obtain rfl:u=Value.ref a:=rx
 refine jB1 I1 ea c.c c.m l ?_
 refine dQ (first:=[.ref a]) (h₀:=X.base) I.ok.mod.kin c.m.kp (aZ (nox (ha.h pos ad s1 σ H1 _ I1 q)) (fun us s2 ⟨vs,H2,I2,r,q2⟩=>⟨I2.kIn,?_⟩) fun _ _ z=>z) hst hpl
 exact jJ1 (us:= .ref a::us) (vs:= .ref a::vs) c.G hr c.b hex I2 (.cons rfl r) q2
theorem CanMN.jx0 {pl:Sem Bool}(c:CanMN Cs X.prog X.w X.K X.mg X.base C m k g fd ps sp)(hr:Room k X.A)(ho:JE X o ta)(hex:X.ex=[])(hxe:X.xe=fun _ _=>False:=by rfl)
  (ht:eval (.Call (.Attribute o m apos) [] [] pos) X.env=(do
   let ov <- eval o X.env
   standAt apos.atName
   let (f,first) <- holding [ov] (getMethod ov m pl)
   callWith pos f first (backTo pos (starEach [] X.env)) (backToKw pos (keywordEach [] X.env))):=by rfl):
  JX X (.Call (.Attribute o m apos) [] [] pos) (jNC C m sp ta tNil):=by
 have nox:∀ {α:Type}{m:Sem α}{Q:α->Shared->Prop}{R:Value->Shared->Prop}{s:Shared},wpAny (model X.prog X.w) X.A m Q X.xe s->wpAny (model X.prog X.w) X.A m Q R s:=fun h=>aZ h (fun _ _ z=>z) fun _ _ z=>by rw[hxe] at z; exact z.elim
 refine⟨fun ad s σ H Q W I h=>dg (pl:=pl) (aZ (nox (ho.h ad s σ H _ I h)) (fun u s1 ⟨x,H1,I1,rx,a,dx,fs,ex,ea,l,q⟩=>?_) fun _ _ z=>z) ht⟩
 subst ex
 obtain rfl:u=Value.ref a:=rx
 refine jB1 I1 ea c.c c.m l ?_
 exact fi (first:=[.ref a]) I1.kIn c.m.kp (jJ1 (us:=[.ref a]) (vs:=[.ref a]) c.G hr c.b hex I1 (.cons rfl .nil) q)
end
def bIf (tt:TT)(b1 b2:TBX):TBX:=fun D W σ H=>tt σ H fun c H1=>if c=true then b1 { D with nx:=fun σ' H'=>b2 D W σ' H'} W σ H1 else b2 D W σ H1
theorem jb_if {X:Cx}{c:Expr}{a rest:List Stmt}{pos:Pos}{tt:TT}{b1 b2:TBX}(hc:JT X c tt)(ha:JB X a b1)(hb:JB X rest b2)(hxe:X.xe=fun _ _=>False:=by rfl):JB X (.If c a [] pos::rest) (bIf tt b1 b2):=by
 have nox:∀ {α:Type}{m:Sem α}{Q:α->Shared->Prop}{R:Value->Shared->Prop}{s:Shared},wpAny (model X.prog X.w) X.A m Q X.xe s->wpAny (model X.prog X.w) X.A m Q R s:=fun h=>aZ h (fun _ _ z=>z) fun _ _ z=>by rw[hxe] at z; exact z.elim
 refine⟨fun ad s σ H D W I h=>?_⟩
 refine eL (wpAny_If (aZ (nox (hc.h ad s σ H _ I h)) (fun d s1 ⟨H1,I1,q1⟩=>?_) fun _ _ z=>z))
 cases d with
 | true=>
  refine aZ (ha.h ad s1 σ H1 _ W I1 q1) (fun f s2 q=>?_) fun _ _ z=>z
  cases f with
  | next=>
   obtain⟨σ',H',I',q⟩:=q
   exact hb.h ad s2 σ' H' D W I' q
  | ret v=>exact q
  | brk=>exact q
  | cont=>exact q
 | false=>exact cZ (hb.h ad s1 σ H1 D W I1 q1)
def jOL:V->List V->Hp->VK->Prop:=fun x vs H Q=>∃ (p:Addr) (ns:List Int) (i:Int) (k:Nat),x= .ref p/\vs=[.int i]/\H p=some (.lst (ns.map V.int))/\ns.length<=1000/\ns[k]?=some i/\(∀ m,m<k->ns[m]?≠some i)/\Q (.int (k:Int)) H
theorem jEO:MtM X "list.index" jOL:=by
 intro ad s σ H x vs v us Q I rx rv h
 obtain⟨p,ns,i,k,rfl,rfl,hp,hs,hk,hno,q⟩:=h
 cases rx
 obtain⟨u,rfl,ru⟩:=rv.one
 obtain⟨z,its,n,r,_,e0⟩:=I.lstM hp
 have hl:=r.length
 rw[ag] at hl
 have hkl:k<its.length:=by rw[<- hl]; exact(ay.mp hk).1
 have at_:∀ m (hm:m<its.length),∃ (z:Int) (t:Tok),ns[m]?=some z/\its[m]= .int z t:=fun m hm=>by
  have hz:(ns.map V.int)[m]?=some (.int ns[m]):=by simp [show m<ns.length by omega]
  obtain⟨w,hw,t,rw'⟩:=r.get hz
  refine⟨ns[m],t,by simp [show m<ns.length by omega],?_⟩
  rw[az hm] at hw
  rw[aM hw]
  exact rw'
 refine cV F.slot_list_index ⟨_,e0,rfl⟩ F.entry_list_index (F.args_list_index_2 _ _) (SeqAt.list_indexAt p its.toArray n none #[] u (eqU (.int i)) k (by simpa using hkl) (by omega) ?_ fun m hm hmk=>?_) ⟨e0,fun w hw=>jB0 ru rfl r ?_ w (by simpa using hw),?_⟩
 ·obtain⟨z,t,h1,h2⟩:=at_ k hkl
  rw[hk] at h1
  cases h1
  show eqU (.int i) its[k]=true
  rw[h2]
  show (i==i)=true
  simp
 ·have hm':m<its.length:=by simpa using hm
  obtain⟨z,t,h1,h2⟩:=at_ m hm'
  show eqU (.int i) its[m]=false
  rw[h2]
  show (z==i)=false
  rw[bD]
  exact fun e=>hno m hmk (by rw[h1,e])
 ·rw[aQ]
  intro x hx
  obtain⟨z,_,rfl⟩:=bc.mp hx
  rfl
 ·exact⟨.int _,H,I.tok _,⟨s.toks,rfl⟩,q⟩
end L2
open PySem L2
variable {P:Program}{w:World}{K:W.Frag}{mg:Str->Option Value}{base:Heap}{f fW fR fL fG fI tb fU C sh l fB fK fA fM fT fO:Addr}{fdW fdR fdL fdG fdI fdU fdB fdK fdA fdM fdT fdO:FuncData}{cdv:Value}{A:Around}{outer:List Env}{s:Shared}{H0 H H' H'':Hp}{E:XK}{x:Bx}{hs:List Bx}{u1:Tok}
namespace Eo
open PySem L2
def Keep (H H':Hp)(p:Addr):Prop:=∀ b o,H b=some o->b≠p->H' b=some o
structure Txt (mg:Str->Option Value):Prop where
 len:mg "len" =none
 range:mg "range" =none
 tuple:mg "tuple" =none
 sorted:mg "sorted" =none
 set:mg "set" =none
 list:mg "list" =none
 int:mg "int" =none
 isinstance:mg "isinstance" =none
 bool:mg "bool" =none
 str:mg "str" =none
 all:mg "all" =none
 zip:mg "zip" =none
 max:mg "max" =none
 min:mg "min" =none
 any:mg "any" =none
 abs:mg "abs" =none
 sum:mg "sum" =none
 enumerate:mg "enumerate" =none
 dict:mg "dict" =none
 ValueError:mg "ValueError" =none
structure Can (P:Program)(w:World)(K:W.Frag)(mg:Str->Option Value)(base:Heap)(x:Str)(k:Nat)(f:Addr)(fd:FuncData)(ps:List Str)(sp:Sp):Prop where
 G:FnOk P w K mg base CX0 k f fd ps sp
 m:mg x=some (.ref f)
 kp:keepIn K (.ref f)=true
 b:Binds K fd ps []
theorem Can.pe {X:Cx}{x:Str}{k:Nat}{f:Addr}{fd:FuncData}{ps:List Str}{sp:Sp}{e:Expr}{es:List Expr}{t:TA}{p pos:Pos}(C:Can X.prog X.w X.K X.mg X.base x k f fd ps sp)(hr:Room k X.A)(hg:Gl X x)(ha:PA X (e::es) t)(hdb:(x==("__debug__" :Str))=false:=by decide)
  (he:starEach (e::es) X.env=(false,eval e X.env)::starEach es X.env:=by rfl) (hpl:(backTo pos (starEach es X.env)).any (·.1)=false:=by rfl):PE X (.Call (.Name x p) (e::es) [] pos) (tCall sp [] E0 t):=
 jP6 C.G hr hg C.m C.kp C.b .nil pass0 ha hdb he hpl
theorem Can.je {X:Cx}{x:Str}{k:Nat}{f:Addr}{fd:FuncData}{ps:List Str}{sp:Sp}{e:Expr}{es:List Expr}{t:TA}{p pos:Pos}(C:Can X.prog X.w X.K X.mg X.base x k f fd ps sp)(hr:Room k X.A)(hg:Gl1 X x)(ha:JA X (e::es) t)(he:starEach (e::es) X.env=(false,eval e X.env)::starEach es X.env)
  (hdb:(x==("__debug__" :Str))=false:=by decide) (hpl:(backTo pos (starEach es X.env)).any (·.1)=false:=by rfl):JE X (.Call (.Name x p) (e::es) [] pos) (tCall sp [] E0 t):=
 ⟨C.pe hr hg.a ha.h hdb he hpl⟩
def jIY (K:W.Frag):Sp:=fun vs H Q _=>∃ (a:Addr) (ns:List Int) (k:Int),vs=[.ref a, .int k]/\SqL K H a (ns.map V.int)/\0<=k/\∀ c:Int,Q (.int c) H
theorem jQQ:FnScope ["script","k"] ["script","k"] (j9 sCell):= {}
theorem jPM {f:Addr}{fd:FuncData}(F:Fun K "_law_cell_at" "_law_cell_at" sCell f fd)(T:Txt mg):FnOk P w K mg base CX0 1 f fd ["script","k"] (jIY K):=by
 refine F.ok jQQ (fun vs H Q E h=>?_) (fun cdv A outer s H vs Q E hr h=>?_)
 ·obtain⟨a,ns,k,rfl,_⟩:=h
  rfl
 ·obtain⟨a,ns,k,rfl,hS,h0,q⟩:=h
  refine⟨_,y8 (ps_if (jCP op_lt (pv 1) (jDV jJ (by rfl) T.len PySem.boot_len (kJ (pv 0) yM)) (jL _)) (jAM (jC5 (pe_ix yH (pv 0) (pv 1) (fun _ _=>rfl)))) jDT) (jAM (jC5 jY)),?_⟩
  refine⟨_,rfl,_,rfl,a,_,rfl, .inl hS,_,_,rfl,rfl,_,rfl,?_⟩
  refine ite2 (fun hlt=>?_) (fun _=>?_)
  ·have hlt:k<((ns.map V.int).length:Int):=ai hlt
   have hk:k.toNat<ns.length:=by rw[ag] at hlt; omega
   refine⟨_,rfl,_,rfl,a,_,k, .int (ns[k.toNat]),rfl,rfl,hS,?_,q _⟩
   have e:(k.toNat:Int)=k:=by omega
   have q2:=yQ (xs:=ns.map V.int) (j:=k.toNat) (v:=V.int ns[k.toNat]) (by simp [hk])
   rw[e] at q2
   exact q2
  ·exact q 0
def jBE:Sp:=fun vs H Q _=>∃ (p:Addr) (N w:Int),vs=[.ref p, .int w]/\H p=some (.lst [.int N])/\0<=N/\0<w/\w<2 ^ 64/\∀ N' r:Int,0<=N'->0<=r->r<w->Q (.int r) (upd H p (.lst [.int N']))
theorem scTake:FnScope ["pot","wide","found"] ["pot","wide"] (j9 sTake):= {}
theorem jPE {f:Addr}{fd:FuncData}(F:Fun K "_law_take" "_law_take" sTake f fd):FnOk P w K mg base CX0 1 f fd ["pot","wide"] jBE:=by
 refine F.ok scTake (fun vs H Q E h=>?_) (fun cdv A outer s H vs Q E hr h=>?_)
 ·obtain⟨a,ns,k,rfl,_⟩:=h
  rfl
 ·obtain⟨p,N,w,rfl,hp,h0,h1,h2,q⟩:=h
  refine⟨_,y8 (qL (i:=2) scTake.nd rfl (Or.inl rfl) (y9 jEK (pe_ix yH (pv 0) jY (fun _ _=>rfl)) (pv 1)))
   (y8 (jNQ (y9 jLX (pe_ix yH (pv 0) jY (fun _ _=>rfl)) (pv 1)) (jR3 (pv 0) jY jLG))
   (jAM (jC5 (pv 2)))),?_⟩
  refine⟨_,rfl,p,_,0, .int N,rfl,rfl,SqL.of hp,rfl,_,rfl,_,_,rfl,rfl,h1,?_⟩
  refine⟨_,rfl,p,_,0, .int N,rfl,rfl,SqL.of hp,rfl,_,rfl,_,_,rfl,rfl,⟨h1,h2⟩,?_⟩
  refine⟨_,rfl,p,_,0,0,rfl,rfl,hp,rfl,_,rfl,?_⟩
  exact q _ _ (Int.ediv_nonneg h0 (by omega)) (Int.emod_nonneg _ (by omega)) (hZ _ h1)
def spPot:Sp:=fun vs H Q _=>∃ c:Int,vs=[.int c]/\∀ (p:Addr) (N:Int),H p=none->0<=N->Q (.ref p) (upd H p (.lst [.int N]))
theorem scPot:FnScope ["cell","number","j","more"] ["cell"] (j9 sPot):= {}
theorem jRJ {f:Addr}{fd:FuncData}(F:Fun K "_law_pot" "_law_pot" sPot f fd)(T:Txt mg):FnOk P w K mg base CX0 1 f fd ["cell"] spPot:=by
 refine F.ok scPot (fun vs H Q E h=>?_) (fun cdv A outer s H vs Q E hr h=>?_)
 ·obtain⟨c,rfl,_⟩:=h
  rfl
 ·obtain⟨c,rfl,q⟩:=h
  have one: [V.int 0].length<=sizeLine:=by show 1<=sizeLine; decide
  refine⟨_,y8 (ps_if (jCP op_ge (pv 0) (y9 jJF jY jY) (jL _)) (jAM (jC5 (jJD (kJ (y9 qG (pv 0) (y9 jJF jY jY)) yM)))) jDT)
   (y8 (qL (i:=1) scPot.nd rfl (Or.inl rfl) jY)
   (y8 (jNP dO rfl (jBH rfl T.range (kJ jY yM)) (jDU (i:=2) scPot.nd rfl (Or.inl rfl))
    (y8 (qL (i:=3) scPot.nd rfl (Or.inl rfl) (y9 jEK (y9 jDI (y9 yW (y9 yW (y9 jEK (pv 0) jY) (y9 jDI jY (pv 2))) jY) jY) jY))
    (y8 (qL (i:=3) scPot.nd rfl (Or.inl rfl) (y9 jEK (y9 yW (y9 yW (y9 jDI (pv 3) (pv 3)) (y9 jDI jY (pv 2))) jY) jY))
    (jAM (qL (i:=1) scPot.nd rfl (Or.inl rfl) (y9 yW (y9 jDI (pv 1) jY) (pv 3)))))))
   (jAM (jC5 (jJD (kJ (pv 1) yM)))))),?_⟩
  refine⟨_,rfl,_,_,rfl,rfl,⟨by decide,by decide,by decide⟩,_,_,rfl,rfl,_,rfl,?_⟩
  refine ite2 (fun hge=>?_) (fun _=>?_)
  ·refine⟨_,rfl,_,_,rfl,rfl,⟨by decide,by decide,by decide⟩,_,_,rfl,rfl,one,fun p hp=>q p _ hp ?_⟩
   exact Int.sub_nonneg_of_le (ai hge)
  ·refine⟨64,rfl,by decide,by decide,jD4 (n:=64) (fun i σ H2=>∃ (num:Int) (v1 v2:Option V),σ=[some (.int c),some (.int num),v1,v2]/\0<=num/\H2=H) ⟨0,none,none,rfl,im _,rfl⟩ ?_ ?_⟩
   ·rintro i σ H2 hi ⟨num,v1,v2,rfl,hn,rfl⟩
    refine⟨_,rfl,_,_,rfl,rfl,(by show (0:Int)<2147483629; decide),_,rfl,_,_,rfl,rfl, .inl ⟨by decide,by decide⟩,_,_,rfl,rfl,_,_,rfl,rfl,_,_,rfl,rfl, .inr ⟨by decide,by decide⟩,_,_,rfl,rfl,(by show (0:Int)<2147483647; decide),?_⟩
    refine⟨_,rfl,_,rfl,_,_,rfl,rfl, .inl ⟨?_,?_⟩,_,rfl,_,_,rfl,rfl, .inl ⟨by decide,by decide⟩,_,_,rfl,rfl,_,_,rfl,rfl,_,_,rfl,rfl,(by show (0:Int)<2147483587; decide),?_⟩
    ·omega
    ·omega
    ·refine⟨_,rfl,_,_,rfl,rfl, .inr ⟨by decide,by decide⟩,_,rfl,_,_,rfl,rfl,?_⟩
     refine⟨_,_,_,rfl,?_,rfl⟩
     omega
   ·rintro σ H2 ⟨num,v1,v2,rfl,hn,rfl⟩
    exact⟨_,rfl,one,fun p hp=>q p num hp hn⟩
theorem jCJ {H:Hp}{a:Addr}{o o':HO} :upd (upd H a o) a o'=upd H a o':=by
 funext b
 unfold upd
 by_cases h:b=a
 ·rw[aB h,aB h]
 ·rw[av h,av h,av h]
theorem jAJ {H:Hp}{a b:Addr}{o:HO}(h:upd H a o b=none):b≠a/\H b=none:=by
 have h1:b≠a:=fun e=>by rw[e,jA] at h; cases h
 exact⟨h1,by rw[jD h1] at h; exact h⟩
theorem Keep.refl (H:Hp)(p:Addr):Keep H H p:=fun _ _ h _=>h
theorem Keep.upd {H H1:Hp}{p:Addr}(a:Keep H H1 p)(o:HO):Keep H (upd H1 p o) p:=fun c u h n=>by rw[jD n]; exact a c u h n
theorem Keep.new {H H1:Hp}{p l:Addr}(a:Keep H H1 p)(hl:H1 l=none)(o:HO):Keep H (L2.upd H1 l o) p:=fun c u h n=>by
 have:=a c u h n
 rw[jD (jF this hl)]
 exact this
theorem pw {w:Int}(h1:1<=w)(h2:w<=16):(2:Int)<=2 ^ w.toNat/\(2:Int) ^ w.toNat<=65536:=by
 have e:∀ n:Nat,n<17->1<=n->(2:Int)<=2 ^ n/\(2:Int) ^ n<=65536:=by decide+kernel
 exact e w.toNat (by omega) (by omega)
structure Lot (w:Int)(ts:List Int):Prop where
 ris:ts.Pairwise (· < ·)
 bnd:∀ z∈ts,0<=z/\z<w
 ne:ts≠ []
def bits (n:Int)(k:Nat):List Int:=((List.range k).filter fun t=>decide (Builtin.bitAnd (n / 2 ^ t) 1=1)).map fun (t:Nat)=>(t:Int)
theorem jF3 (n:Int)(k:Nat):bits n (k+1)=bits n k++(if decide (Builtin.bitAnd (n / 2 ^ k) 1=1)=true then [(k:Int)] else []):=by
 unfold bits
 rw[List.range_succ,dR,aU]
 congr 1
 rw[List.filter_cons]
 split <;> rfl
theorem jN4 {n w:Int}(h1:1<=n)(hw:0<=w)(h2:n<2 ^ w.toNat):Lot w (bits n w.toNat):=by
 refine⟨?_,fun z hz=>?_,?_⟩
 ·unfold bits
  rw[dk]
  have:=(eC (n:=w.toNat)).filter (fun t=>decide (Builtin.bitAnd (n / 2 ^ t) 1=1))
  exact this.imp fun h=>by omega
 ·unfold bits at hz
  obtain⟨t,ht,rfl⟩:=bc.mp hz
  have:=bj.mp (bz.mp ht).1
  omega
 ·obtain⟨m,rfl⟩:∃ m:Nat,n=(m:Int):=⟨n.toNat,by omega⟩
  have hm:m≠0:=by omega
  have hlt:m<2 ^ w.toNat:=by
   have:((m:Nat):Int)<((2 ^ w.toNat:Nat):Int):=by rw[Int.natCast_pow]; exact h2
   omega
  obtain⟨i,hi⟩:=Nat.exists_testBit_of_ne_zero hm
  have hiw:i<w.toNat:=by
   rcases Nat.lt_or_ge i w.toNat with h | h
   ·exact h
   ·rw[Nat.testBit_lt_two_pow (aN hlt (Nat.pow_le_pow_right (by omega) h))] at hi
    cases hi
  have hb:Builtin.bitAnd ((m:Int) / 2 ^ i) 1=1:=by
   have e:((m:Int) / 2 ^ i)=((m / 2 ^ i:Nat):Int):=by rw[Int.natCast_ediv,Int.natCast_pow]; rfl
   rw[e,PyProof.Rows.bitAnd_pp (g7 _) (by decide)]
   have e2:(((m / 2 ^ i:Nat):Int).toNat&&&(1:Int).toNat)=1:=by
    rw[bv]
    show (m / 2 ^ i)&&&1=1
    rw[Nat.and_one_is_mod]
    have:=hi
    rw[Nat.testBit_eq_decide_div_mod_eq] at this
    exact ai this
   rw[e2]
   rfl
  intro z
  have hmem:(i:Int)∈bits (m:Int) w.toNat:=by
   unfold bits
   exact bc.mpr ⟨i,bz.mpr ⟨bj.mpr hiw,aj hb⟩,rfl⟩
  rw[z] at hmem
  cases hmem
def spLot:Sp:=fun vs H Q _=>∃ (p:Addr) (N w:Int),vs=[.ref p, .int w]/\H p=some (.lst [.int N])/\0<=N/\1<=w/\w<=16/\
 ∀ (q:Addr) (N':Int) (ts:List Int) (H':Hp),0<=N'->Lot w ts->H' q=some (.tup (ts.map V.int))->H' p=some (.lst [.int N'])->Keep H H' p->Q (.ref q) H'
theorem scLot:FnScope ["pot","wide","way","number","start","step","size"] ["pot","wide"] (j9 sLot):= {}
theorem jRK {f fT:Addr}{fd fdT:FuncData}(F:Fun K "_law_lot" "_law_lot" sLot f fd)(T:Txt mg)(CT:Can P w K mg base "_law_take" 1 fT fdT ["pot","wide"] jBE):FnOk P w K mg base CX0 2 f fd ["pot","wide"] spLot:=by
 refine F.ok scLot (fun vs H Q E h=>?_) (fun cdv A outer s H vs Q E hr h=>?_)
 ·obtain⟨a,ns,k,rfl,_⟩:=h
  rfl
 ·obtain⟨p,N,w,rfl,hp,hN,h1,h2,q⟩:=h
  have hpw:=pw h1 h2
  have nd:=scLot.nd
  refine⟨_,y8 (qL (i:=2) nd rfl (Or.inl rfl) (CT.pe hr rfl (kJ (pv 0) (kJ jY yM))))
   (y8 (ps_if (jCP yA (pv 2) jY (jL _))
    (y8 (qL (i:=3) nd rfl (Or.inr rfl) (y9 yW jY (CT.pe hr rfl (kJ (pv 0) (kJ (y9 qG (y9 jRF jY (pv 1)) jY) yM)))))
    (jAM (jC5 (jBI jA0 rfl T.tuple (by decide+kernel) (kJ
     (jFG (m:=[none,some 3]) (Nc:=["t","number"]) rfl (jBH rfl T.range (kJ (pv 1) yM)) rfl (by decide+kernel) (by decide+kernel) (kW (psc:=j9 sLot))
      (jW (N:=["pot","wide","way","number","start","step","size"]) rfl rfl (by decide+kernel))
      (fun cl C fp s H=>jDU (i:=0) (show (["t","number"]:List Str).Nodup by decide+kernel) rfl (Or.inl rfl))
      (fun cl C fp s H=>jJ6 (jCP yA (y9 jRI (y9 jRE (pv 1) (pv 0)) jY) jY (jL _)))
      (fun cl C fp s H=>pv 0)) yM)))))
    jDT)
   (y8 (qL (i:=4) nd rfl (Or.inr rfl) (CT.pe hr rfl (kJ (pv 0) (kJ (pv 1) yM))))
   (y8 (qL (i:=5) nd rfl (Or.inr rfl) (y9 yW jY (CT.pe hr rfl (kJ (pv 0) (kJ jY yM)))))
   (y8 (qL (i:=6) nd rfl (Or.inl rfl) (y9 yW jY (CT.pe hr rfl (kJ (pv 0) (kJ (pe_ix yH (jJD (kJ jY (kJ jY (kJ jY yM)))) (y9 qG (pv 2) jY) (fun _ _=>rfl)) yM)))))
   (jAM (jC5 (jBI jA0 rfl T.tuple (by decide+kernel) (kJ (jDV (jDB rfl) rfl T.sorted (by decide+kernel) (kJ (jBI (jKW rfl) rfl T.set (by decide+kernel) (kJ
     (jFG (m:=[none,some 4,some 5,some 1]) (Nc:=["j","start","step","wide"]) rfl (jBH rfl T.range (kJ (pv 6) yM)) rfl (by decide+kernel) (by decide+kernel) (kW (psc:=j9 sLot))
      (jW (N:=["pot","wide","way","number","start","step","size"]) rfl rfl (by decide+kernel))
      (fun cl C fp s H=>jDU (i:=0) (show (["j","start","step","wide"]:List Str).Nodup by decide+kernel) rfl (Or.inl rfl))
      (fun cl C fp s H=>jJ7)
      (fun cl C fp s H=>y9 jEK (y9 yW (pv 1) (y9 jDI (pv 2) (pv 0))) (pv 3))) yM)) yM)) yM)))))))),?_⟩
  refine⟨_,rfl,p,N,4,rfl,hp,hN,by decide,by decide,fun N1 way b1 b2 b3=>?_⟩
  have hp1:∀ M,(upd H p (.lst [.int M])) p=some (.lst [.int M]):=fun _=>jA
  refine⟨_,rfl,rfl,_,rfl,?_⟩
  refine ite2 (fun _=>?_) (fun hw0=>?_)
  ·refine⟨_,rfl,_,rfl,_,_,rfl,rfl,⟨by omega,by omega,by decide⟩,_,_,rfl,rfl,p,N1,_,rfl,hp1 _,b1,by omega,by omega,fun N2 r2 c1 c2 c3=>⟨_,_,rfl,rfl,?_⟩⟩
   have hnum:1+r2<2 ^ w.toNat:=by omega
   refine⟨_,rfl,w,rfl,by omega,by omega,jBO (n:=w.toNat) (by rw[aC]; omega) (fun D i σ' H' ys=>(∃ v,σ'=[v,some (.int (1+r2))])/\ys=(bits (1+r2) i).map V.int/\H'=upd (upd (upd H p (.lst [.int N1])) p (.lst [.int N2])) D (.lst ys)) ?_ ?_ ?_ ?_⟩
   ·intro D hD
    exact⟨⟨_,rfl⟩,rfl,rfl⟩
   ·rintro D i σ' H' ys hD hi ⟨_,e1,e2⟩
    refine⟨by rw[e2]; exact jA,?_⟩
    rw[e1,ag]
    unfold bits
    rw[ag]
    exact bF (dj _ _) (by rw[cC]; exact aq _)
   ·rintro D i σ' H' ys hD hi ⟨⟨v,rfl⟩,rfl,rfl⟩
    refine⟨_,rfl,_,rfl,_,_,rfl,rfl,(by show (0:Int)<=0+(i:Int); omega),_,_,rfl,rfl,rfl,_,rfl,?_⟩
    have ei:(0+(i:Int)).toNat=i:=by omega
    refine ite2 (fun hb=>?_) (fun hb=>?_)
    ·have hb:Builtin.bitAnd ((1+r2) / 2 ^ i) 1=1:=by
      have:=ai hb
      rw[ei] at this
      exact V.int.inj this
     refine⟨_,rfl,jA,⟨_,rfl⟩,?_,jCJ⟩
     rw[jF3,aB (aj hb),aU]
     congr 1
     show [V.int (0+(i:Int))]=[V.int (i:Int)]
     rw[Int.zero_add]
    ·have hb:¬ Builtin.bitAnd ((1+r2) / 2 ^ i) 1=1:=fun e=>hb (aj (by rw[ei]; exact bO V.int e))
     refine⟨⟨_,rfl⟩,?_,rfl⟩
     rw[jF3,av (by simpa using hb),bH]
   ·rintro D σ' H' ys hD ⟨_,rfl,rfl⟩
    refine⟨D,_,rfl, .inl ⟨SqL.of jA,fun qq hqq=>?_⟩⟩
    obtain⟨n1,n2⟩:=jAJ hqq
    have pD:p≠D:=jF jA hD
    have pq:p≠qq:=jF jA n2
    exact q qq N2 (bits (1+r2) w.toNat) _ c1 (jN4 (by omega) (by omega) hnum) jA (by rw[jD pq,jD pD,jA]) (((((Keep.refl H p).upd _).upd _).new hD _).new hqq _)
  ·have hway:1<=way:=by
    have:¬ way=0:=fun e=>hw0 (aj (by rw[e]))
    omega
   refine⟨_,rfl,_,rfl,p,N1,w,rfl,hp1 _,b1,by omega,by omega,fun N2 start c1 c2 c3=>?_⟩
   rw[jCJ]
   refine⟨_,rfl,p,N2,3,rfl,hp1 _,c1,by decide,by decide,fun N3 st d1 d2 d3=>⟨_,_,rfl,rfl,?_⟩⟩
   rw[jCJ]
   refine⟨_,rfl,(by show 3<=sizeLine; decide),fun l hl=>?_⟩
   have pl:p≠l:=jF (hp1 _) hl
   obtain⟨wd,hwd,e1,e2⟩:∃ wd:Int,atI [V.int 1,V.int 2,V.int 4] (way - 1)=some (.int wd)/\1<=wd/\wd<=4:=by
    rcases (show way=1\/way=2\/way=3 by omega) with e | e | e
    ·subst e; exact⟨1,rfl,by decide,by decide⟩
    ·subst e; exact⟨2,rfl,by decide,by decide⟩
    ·subst e; exact⟨4,rfl,by decide,by decide⟩
   refine⟨_,rfl,_,_,rfl,rfl,l,_,_,_,rfl,rfl,SqL.of jA,hwd,p,N3,wd,rfl,by rw[jD pl]; exact hp1 _,d1,by omega,by omega,fun N4 r4 g1 g2 g3=>⟨_,_,rfl,rfl,?_⟩⟩
   have kp:Keep H (upd (upd (upd H p (.lst [.int N3])) l (.lst [V.int 1,V.int 2,V.int 4])) p (.lst [.int N4])) p:=(((Keep.refl H p).upd _).new hl _).upd _
   have hp4:(upd (upd (upd H p (.lst [.int N3])) l (.lst [V.int 1,V.int 2,V.int 4])) p (.lst [.int N4])) p=some (.lst [.int N4]):=jA
   generalize (upd (upd (upd H p (.lst [.int N3])) l (.lst [V.int 1,V.int 2,V.int 4])) p (.lst [.int N4]))=H4 at kp hp4 ⊢
   refine⟨_,rfl,1+r4,rfl,by omega,by omega,jBO (n:=(1+r4).toNat) (by rw[aC]; omega) (fun D i σ' H' ys=>(∃ v,σ'=[v,some (.int start),some (.int (1+st)),some (.int w)])/\(∃ ns:List Int,ys=ns.map V.int/\ns.length=i/\∀ z∈ns,0<=z/\z<w)/\H'=upd H4 D (.lst ys)) ?_ ?_ ?_ ?_⟩
   ·intro D hD
    exact⟨⟨_,rfl⟩,⟨[],rfl,rfl,fun z hz=>by cases hz⟩,rfl⟩
   ·rintro D i σ' H' ys hD hi ⟨_,⟨ns,rfl,e,_⟩,rfl⟩
    exact⟨jA,by rw[ag,e]; exact aq _⟩
   ·rintro D i σ' H' ys hD hi ⟨⟨v,rfl⟩,⟨ns,rfl,e,hb⟩,rfl⟩
    dsimp only [kX,qI]
    rw[aB rfl]
    refine⟨_,rfl,_,rfl,_,rfl,_,_,rfl,rfl, .inl ⟨by omega,by omega⟩,_,_,rfl,rfl,_,rfl,_,_,rfl,rfl,(by show 0<w; omega),jA,⟨_,rfl⟩,⟨ns++[(start+(1+st)*(0+(i:Int))) % w],by simp,by simp [e],fun z hz=>?_⟩,jCJ⟩
    rcases bq.mp hz with hz | hz
    ·exact hb z hz
    ·have:z=(start+(1+st)*(0+(i:Int))) % w:=by simpa using hz
     rw[this]
     exact⟨Int.emod_nonneg _ (by omega),hZ _ (by omega)⟩
   ·rintro D σ' H' ys hD ⟨_,⟨ns,rfl,e,hb⟩,rfl⟩
    refine⟨D,ns,rfl,SqL.of jA,by omega,fun z hz=>⟨(hb z hz).1,by have:=(hb z hz).2; omega⟩,fun l1 ks h11 hm1=>?_⟩
    refine⟨l1,ks,rfl,jA,fun l2 ms h12 srt hm2=>?_⟩
    refine⟨l2,_,rfl, .inl ⟨SqL.of jA,fun qq hqq=>?_⟩⟩
    have pD:p≠D:=jF hp4 hD
    have p1:p≠l1:=jF hp4 (jAJ h11).2
    have p2:p≠l2:=jF hp4 (jAJ (jAJ h12).2).2
    have pq:p≠qq:=jF hp4 (jAJ (jAJ (jAJ hqq).2).2).2
    refine q qq N4 ms _ g1 ⟨srt,fun z hz=>hb z ((hm1 z).mp ((hm2 z).mp hz)),fun z=>?_⟩ jA (by rw[jD pq,jD p2,jD p1,jD pD]; exact hp4) ((((kp.new hD _).new h11 _).new h12 _).new hqq _)
    subst z
    cases ns with
    | nil=>simp at e; omega
    | cons x r=>
     have:=(hm2 x).mpr ((hm1 x).mpr aJ)
     cases this
structure Ris (w:Int)(ts:List Int):Prop where
 ris:ts.Pairwise (· < ·)
 bnd:∀ z∈ts,0<=z/\z<w
def upto (n:Nat):List Int:=(List.range n).map fun (i:Nat)=>(i:Int)
theorem jEU (n:Nat):qH n=(upto n).map V.int:=by
 unfold qH upto
 rw[cq]
 rfl
theorem jA5 (n:Nat):Ris n (upto n):=by
 refine⟨?_,fun z hz=>?_⟩
 ·unfold upto
  rw[dk]
  exact eC.imp fun h=>by omega
 ·unfold upto at hz
  obtain⟨t,ht,rfl⟩:=bc.mp hz
  have:=bj.mp ht
  omega
def Tups (H H':Hp):Prop:=∀ b xs,H b=some (.tup xs)->H' b=some (.tup xs)
theorem Tups.trans {H H1 H2:Hp}(a:Tups H H1)(b:Tups H1 H2):Tups H H2:=fun c o h=>b c o (a c o h)
theorem Keep.tups {H H':Hp}{p:Addr}{xs:List V}(k:Keep H H' p)(hp:H p=some (.lst xs)):Tups H H':=fun b ys hb=>k b _ hb fun e=>by
 subst e
 rw[hb] at hp
 cases hp
theorem Tups.upd {H:Hp}{p:Addr}{xs:List V}(hp:H p=some (.lst xs))(o:HO):Tups H (upd H p o):=fun b ys hb=>by
 rw[jD (fun e=>by subst e; rw[hb] at hp; cases hp)]
 exact hb
def PcAt (H:Hp)(v:V)(pc:List Int×Int):Prop:=∃ a q,v= .ref a/\H a=some (.tup [.ref q, .int pc.2])/\H q=some (.tup (pc.1.map V.int))
def PcsAt (H:Hp):List V->List (List Int×Int)->Prop
 | [],[]=>True
 | v::vs,p::ps=>PcAt H v p/\PcsAt H vs ps
 | _,_=>False
theorem PcAt.mono {H H':Hp}{v:V}{pc:List Int×Int}(h:PcAt H v pc)(t:Tups H H'):PcAt H' v pc:=by
 obtain⟨a,q,rfl,h1,h2⟩:=h
 exact⟨a,q,rfl,t _ _ h1,t _ _ h2⟩
theorem PcsAt.mono {H H':Hp}(t:Tups H H'):∀ {vs:List V}{ps:List (List Int×Int)},PcsAt H vs ps->PcsAt H' vs ps
 | [],[],_=>trivial
 | _::_,_::_,h=>⟨h.1.mono t,PcsAt.mono t h.2⟩
 | [],_::_,h=>h.elim
 | _::_,[],h=>h.elim
theorem PcsAt.len {H:Hp} :∀ {vs:List V}{ps:List (List Int×Int)},PcsAt H vs ps->vs.length=ps.length
 | [],[],_=>rfl
 | _::_,_::_,h=>bO (· +1) (PcsAt.len h.2)
 | [],_::_,h=>h.elim
 | _::_,[],h=>h.elim
structure GoodPc (w:Int)(pc:List Int×Int):Prop where
 lot:Lot w pc.1
 lo: -1000000000000<=pc.2
 hi:pc.2<=1000000000000
structure BoxAt (H:Hp)(b:Addr)(w:Int)(mays:List Int)(ip:List (List Int×Int)):Prop where
 ex:∃ qm qp vs,H b=some (.tup [.int w, .ref qm, .ref qp])/\H qm=some (.tup (mays.map V.int))/\H qp=some (.tup vs)/\PcsAt H vs ip
theorem BoxAt.mono {H H':Hp}{b:Addr}{w:Int}{mays:List Int}{ip:List (List Int×Int)}(h:BoxAt H b w mays ip)(t:Tups H H'):BoxAt H' b w mays ip:=by
 obtain⟨qm,qp,vs,h1,h2,h3,h4⟩:=h.ex
 exact⟨qm,qp,vs,t _ _ h1,t _ _ h2,t _ _ h3,h4.mono t⟩
structure Good (mt mp:Int)(w:Int)(mays:List Int)(ip:List (List Int×Int)):Prop where
 w0:0<=w
 w1:w<=mt
 mr:Ris w mays
 pl:(ip.length:Int)<=mp
 pg:∀ pc∈ip,GoodPc w pc
def jRQ:Stmt->List Stmt
 | .For _ _ b _ _=>b
 | _=> []
inductive Ob where
 | int (i:Int)
 | oth
 | tup (os:List Ob)
def OthAt (H:Hp)(v:V):Prop:=v= .non\/(∃ b,v= .bl b)\/(∃ x,v= .str x)\/∃ a,v= .ref a/\((∃ xs,H a=some (.lst xs))\/∃ iq,H a=some (.dK iq))
mutual
def At (H:Hp):Ob->V->Prop
 | .int i,v=>v= .int i
 | .oth,v=>OthAt H v
 | .tup os,v=>∃ a vs,v= .ref a/\H a=some (.tup vs)/\vs.length<=100/\Ats H os vs
def Ats (H:Hp):List Ob->List V->Prop
 | [],vs=>vs=[]
 | o::os,vs=>∃ v r,vs=v::r/\At H o v/\Ats H os r
end
structure Kp (H H':Hp):Prop where
 t:Tups H H'
 l:∀ a xs,H a=some (.lst xs)->∃ ys,H' a=some (.lst ys)
 d:∀ a xs,H a=some (.dK xs)->∃ ys,H' a=some (.dK ys)
theorem Kp.of {H H':Hp}(e:Ext H H'):Kp H H':=⟨fun b xs h=>e b _ h,fun a xs h=>⟨xs,e a _ h⟩,fun a xs h=>⟨xs,e a _ h⟩⟩
theorem Kp.keep {H H':Hp}{p:Addr}{xs ys:List V}(k:Keep H H' p)(hp:H p=some (.lst xs))(hp':H' p=some (.lst ys)):Kp H H':=by
 refine⟨k.tups hp,fun a zs h=>?_,fun a zs h=>⟨zs,k a _ h (ne_of h hp (by intro z; cases z))⟩⟩
 by_cases e:a=p
 ·subst e
  exact⟨ys,hp'⟩
 ·exact⟨zs,k a _ h e⟩
theorem OthAt.mono {H H':Hp}(k:Kp H H'){v:V}(h:OthAt H v):OthAt H' v:=by
 rcases h with h | h | h | ⟨a,rfl,⟨xs,h⟩ | ⟨xs,h⟩⟩
 ·exact .inl h
 ·exact .inr (.inl h)
 ·exact .inr (.inr (.inl h))
 ·exact .inr (.inr (.inr ⟨a,rfl, .inl (k.l _ _ h)⟩))
 ·exact .inr (.inr (.inr ⟨a,rfl, .inr (k.d _ _ h)⟩))
mutual
theorem At.mono {H H':Hp}(k:Kp H H'):∀ (o:Ob) (v:V),At H o v->At H' o v
 | .int _,_,h=>h
 | .oth,_,h=>OthAt.mono k h
 | .tup os,_,⟨a,vs,e,h,n,r⟩=>⟨a,vs,e,k.t _ _ h,n,Ats.mono k os vs r⟩
theorem Ats.mono {H H':Hp}(k:Kp H H'):∀ (os:List Ob) (vs:List V),Ats H os vs->Ats H' os vs
 | [],_,h=>h
 | o::os,_,⟨v,r,e,h,t⟩=>⟨v,r,e,At.mono k o v h,Ats.mono k os r t⟩
end
theorem At.ext {H H':Hp}(e:Ext H H'){o:Ob}{v:V}(h:At H o v):At H' o v:=At.mono (.of e) o v h
theorem Ats.len {H:Hp} :∀ {os:List Ob}{vs:List V},Ats H os vs->vs.length=os.length
 | [],_,h=>by cases (show _=[] from h); rfl
 | o::os,_,⟨v,r,e,h,t⟩=>by rw[e,bB,bB,Ats.len t]
theorem Ats.get {H:Hp} :∀ {os:List Ob}{vs:List V},Ats H os vs->∀ {i:Nat}{v:V},vs[i]?=some v->∃ o,os[i]?=some o/\At H o v
 | [],_,h,i,v,e=>by cases (show _=[] from h); cases e
 | o::os,_,⟨v,r,e,h,t⟩,0,v',e'=>by subst e; cases e'; exact⟨o,rfl,h⟩
 | o::os,_,⟨v,r,e,h,t⟩,i+1,v',e'=>by subst e; exact Ats.get t (i:=i) e'
theorem Ats.ints {H:Hp} :∀ (l:List Int),Ats H (l.map Ob.int) (l.map V.int)
 | []=>rfl
 | i::r=>⟨.int i,_,rfl,rfl,Ats.ints r⟩
def isInt:Ob->Bool
 | .int _=>true
 | _=>false
def isTup:Ob->Bool
 | .tup _=>true
 | _=>false
def upB (lo hi:Int):Ob->Bool
 | .int i=>decide (lo<=i)&&decide (i<=hi)
 | _=>false
def val:Ob->Int
 | .int i=>i
 | _=>0
def adj (is:List Int):List Bool:=(List.range (is.length - 1)).map fun k=>decide (is.getD k 0<is.getD (k+1) 0)
noncomputable def risB:Ob->Bool
 | .tup os=>os.all isInt&&(adj (os.map val)).all id
 | _=>false
noncomputable def lotB (w:Int):Ob->Bool
 | .tup os=>os.all (upB 0 (w - 1))&&(adj (os.map val)).all id
 | _=>false
def lotB' (w:Int)(o:Ob):Bool:=risB o&&match o with
 | .tup os=>decide (os=[]) || (decide (0<=(os.map val).getD 0 0)&&decide ((os.map val).getLastD 0<w))
 | _=>false
theorem jL7 {is:List Int}(h:(adj is).all id=true){k:Nat}(hk:k+1<is.length):is.getD k 0<is.getD (k+1) 0:=by
 rw[aQ] at h
 exact ai (h _ (bc.mpr ⟨k,bj.mpr (by omega),rfl⟩))
theorem jHE {is:List Int}(h:(adj is).all id=true):∀ (j k:Nat),j<=k->k<is.length->is.getD j 0<=is.getD k 0
 | j,0,h1,_=>by
  have:j=0:=by omega
  subst this
  exact im _
 | j,k+1,h1,h2=>by
  rcases Nat.lt_or_ge k j with q | q
  ·have:j=k+1:=by omega
   subst this
   exact im _
  ·have a:=jHE h j k q (by omega)
   have b:=jL7 h h2
   omega
theorem jRP (w:Int)(o:Ob):lotB' w o=lotB w o:=by
 cases o with
 | int i=>rfl
 | oth=>rfl
 | tup os=>
  rw[ck]
  unfold lotB' risB lotB
  simp only [aV,de,cF]
  constructor
  ·rintro ⟨⟨a,b⟩,c⟩
   refine⟨?_,b⟩
   rw[aQ] at a ⊢
   intro x hx
   obtain⟨j,hj,rfl⟩:=cL hx
   have hi:=a _ hx
   have e:os≠ []:=fun e=>by subst e; cases hx
   obtain⟨c1,c2⟩:=c.resolve_left e
   have hl:(os.map val).length=os.length:=ag _
   have g:(os.map val).getD j 0=val os[j]:=by
    rw[aE,aL]
    simp [hj]
   have l1:=jHE b 0 j (by omega) (by omega)
   have l2:=jHE b j (os.length - 1) (by omega) (by omega)
   have l3:(os.map val).getLastD 0=(os.map val).getD (os.length - 1) 0:=by
    rw[bW,dG,aE,hl]
   rw[g] at l1 l2
   rw[l3] at c2
   cases e2:os[j] with
   | int i=>
    rw[e2] at l1 l2
    simp only [val] at l1 l2
    simp only [upB,aV,cF]
    omega
   | oth=>rw[e2] at hi; cases hi
   | tup r=>rw[e2] at hi; cases hi
  ·rintro ⟨a,b⟩
   rw[aQ] at a
   refine⟨⟨?_,b⟩,?_⟩
   ·rw[aQ]
    intro x hx
    have:=a x hx
    cases x with
    | int i=>rfl
    | oth=>cases this
    | tup r=>cases this
   ·by_cases e:os=[]
    ·exact .inl e
    ·refine .inr ?_
     have key:∀ j,j<os.length->0<=(os.map val).getD j 0/\(os.map val).getD j 0<w:=fun j hj=>by
      have g:(os.map val).getD j 0=val os[j]:=by
       rw[aE,aL]
       simp [hj]
      have:=a os[j] (bK hj)
      rw[g]
      cases e2:os[j] with
      | int i=>
       rw[e2] at this
       simp only [upB,aV,cF] at this
       simp only [val]
       omega
      | oth=>rw[e2] at this; cases this
      | tup r=>rw[e2] at this; cases this
     have hpos:0<os.length:=by
      cases os with
      | nil=>exact absurd rfl e
      | cons _ _=>simp
     have l3:(os.map val).getLastD 0=(os.map val).getD (os.length - 1) 0:=by
      rw[bW,dG,aE,ag]
     rw[l3]
     exact⟨(key 0 hpos).1,(key (os.length - 1) (by omega)).2⟩
theorem Ats.allInt {H:Hp} :∀ {os:List Ob}{vs:List V},Ats H os vs->os.all isInt=true->vs=(os.map val).map V.int
 | [],_,h,_=>by cases (show _=[] from h); rfl
 | o::os,_,⟨v,r,e,h,t⟩,ha=>by
  rw[dL,aV] at ha
  subst e
  rw[be,be,<- Ats.allInt t ha.2]
  cases o with
  | int i=>cases (show v= .int i from h); rfl
  | oth=>cases ha.1
  | tup _=>cases ha.1
theorem jO6 (l:List Ob)(F:Ob->Bool):(l.map F).all id=l.all F:=by
 rw[List.all_map]
 rfl
theorem jL6 (is:List Int):(adj is).length=is.length - 1:=by
 unfold adj
 rw[ag,cC]
theorem jS6 {is:List Int}{k:Nat}(h:k<is.length - 1):(adj is)[k]?=some (decide (is.getD k 0<is.getD (k+1) 0)):=by
 unfold adj
 rw[aL,cn h]
 rfl
theorem jHD {is:List Int}{k:Nat}(h:k<is.length - 1):(adj is).take (k+1)=(adj is).take k++[decide (is.getD k 0<is.getD (k+1) 0)]:=by
 rw[bP,jS6 h]
 rfl
theorem getI {is:List Int}{k:Nat}(h:k<is.length):(is.map V.int)[k]?=some (.int (is.getD k 0)):=by
 rw[aL,aE]
 simp [h]
theorem At.ty (K:W.Frag){H:Hp}{o:Ob}{v:V}(h:At H o v):∃ t,TyOf K H v t/\kitOne K t (.type "tuple")=some (isTup o)/\∃ b1 b2,kitOne K t (.type "int")=some b1/\kitOne K t (.type "bool")=some b2/\(b1&&!b2)=isInt o:=by
 cases o with
 | int i=>
  cases (show v= .int i from h)
  exact⟨_, .int i,rfl,true,false,rfl,rfl,rfl⟩
 | oth=>
  rcases (show OthAt H v from h) with rfl | ⟨b,rfl⟩ | ⟨x,rfl⟩ | ⟨a,rfl,⟨xs,e⟩ | ⟨xs,e⟩⟩
  ·exact⟨_, .non,rfl,false,false,rfl,rfl,rfl⟩
  ·exact⟨_, .bl b,rfl,true,true,rfl,rfl,rfl⟩
  ·exact⟨_, .str x,rfl,false,false,rfl,rfl,rfl⟩
  ·exact⟨_, .lst e,rfl,false,false,rfl,rfl,rfl⟩
  ·exact⟨_, .dK e,rfl,false,false,rfl,rfl,rfl⟩
 | tup os=>
  obtain⟨a,vs,rfl,e,_⟩:=h
  exact⟨_, .tup e,rfl,false,false,rfl,rfl,rfl⟩
theorem At.tupOf {H:Hp}{o:Ob}{v:V}(h:At H o v)(t:isTup o=true):∃ os a vs,o= .tup os/\v= .ref a/\H a=some (.tup vs)/\vs.length<=100/\Ats H os vs:=by
 cases o with
 | int i=>cases t
 | oth=>cases t
 | tup os=>
  obtain⟨a,vs,e1,e2,e4,e3⟩:=h
  exact⟨os,a,vs,rfl,e1,e2,e4,e3⟩
theorem jEX {K:W.Frag}{m:List (Option Nat)}{g:TG}{tt:TT}{te:TE}{σ:St}{H1:Hp}{Q:VK}{a:Addr}{xs:List V}{os:List Ob}{F:Ob->Bool}(ha:H1 a=some (.tup xs))(hx:Ats H1 os xs)(hn:xs.length<sizeLine)(σP:St->Prop)(h0:σP (blkσ m σ))
  (step:∀ (σ':St) (H':Hp) (v:V) (o:Ob) (R:St->V->Hp->Prop) (S:St->Hp->Prop),σP σ'->Ext H1 H'->At H' o v->(∀ σ2 H'',σP σ2->Ext H' H''->R σ2 (.bl (F o)) H'')->g v σ' H' fun σ2 H2=>tt σ2 H2 fun b H3=>if b=true then te σ2 H3 (R σ2) else S σ2 H3)
  (hd:∀ D H',Ext H1 H'->H' D=some (.lst ((os.map F).map V.bl))->Q (.ref D) H'):qZ m g tt te σ Q (Itt K a) H1:=by
 have hl:=hx.len
 refine jCF (xs:=xs) hn (fun D i σ' H' zs=>σP σ'/\Ext H1 H'/\H' D=some (.lst zs)/\H1 D=none/\zs=((os.take i).map F).map V.bl) ?_ ?_ ?_ ?_
 ·intro D hD
  exact⟨h0,(Ext.refl _).new hD _,jA,hD,rfl⟩
 ·rintro D i σ' H' zs hD ⟨_,e,h2,_,rfl⟩
  refine⟨e _ _ ha,h2,?_⟩
  rw[ag,ag,bJ]
  omega
 ·rintro D i σ' H' zs x hD hi ⟨p,e,h2,hn,rfl⟩
  obtain⟨o,ho,hAt⟩:=hx.get hi
  refine step σ' H' x o _ _ p e (hAt.ext e) fun σ2 H'' p2 e2=>⟨e2 _ _ h2,p2,(e.trans e2).updNew hn _,jA,hn,?_⟩
  have:os.take (i+1)=os.take i++[o]:=by
   rw[bP,ho]
   rfl
  rw[this,aU,aU]
  rfl
 ·rintro D σ' H' zs hD ⟨_,e,h2,_,rfl⟩
  rw[hl,bM] at h2
  exact hd D H' e h2
noncomputable abbrev XOf (N:List Str)(q:Str)(st:Stmt)(P:Program)(w:World)(K:W.Frag)(mg:Str->Option Value)(base:Heap)(f:Addr)(cdv:Value)(A:Around)(outer:List Env)(s:Shared)(H:Hp)(E:XK):Cx:=(cxOf CX0 P w K mg base N q (j9 st) f cdv A outer s H E).nox
abbrev jJU:List Str:=["thing"]
theorem scWhole0:FnScope jJU ["thing"] (j9 jB7):= {}
def spWh:Sp:=fun vs H Q _=>∃ v o,vs=[v]/\At H o v/\Q (.bl (isInt o)) H
def jO9 (T:Txt mg): { t:TS // JSs (XOf jJU "is_whole" jB7 P w K mg base f cdv A outer s H0 E) (jG jB7) t} :=
 have nd:=scWhole0.nd
 ⟨_,(jC (jQ ((jBK (jH jX gD T.isinstance (by decide+kernel) (j4 (jv 0 rfl vL) (j4 (yF (v:= .ty "int") gD T.int (by decide+kernel) rfl) j7 j6) j6) j6) (jB3 (jKC (jH jX gD T.isinstance (by decide+kernel) (j4 (jv 0 rfl vL) (j4 (yF (v:= .ty "bool") gD T.bool (by decide+kernel) rfl) j7 j6) j6) j6)))))))⟩
theorem jJH {fd:FuncData}(F:Fun K "is_whole" "is_whole" jB7 f fd)(T:Txt mg):FnOk P w K mg base CX0 1 f fd ["thing"] spWh:=by
 refine F.ok scWhole0 (fun vs H Q E h=>?_) (fun cdv A outer s H vs Q E hr h=>?_)
 ·obtain⟨_,_,rfl,_⟩:=h
  rfl
 ·obtain⟨v,o,rfl,hA,q⟩:=h
  obtain⟨t,ty,_,b1,b2,k1,k2,e⟩:=hA.ty K
  refine⟨_,(jO9 T).2.h,?_⟩
  refine⟨_,rfl,_,_,_,b1,rfl,ty,k1,b1,rfl,?_⟩
  rw[<- e] at q
  cases b1 with
  | true=>exact iteT ⟨_,rfl,_,_,_,b2,rfl,ty,k2,b2,rfl,q⟩
  | false=>exact iteF q
abbrev jCS:List Str:=["thing"]
theorem scRising:FnScope jCS ["thing"] (j9 jAC):= {}
def spB (F:Ob->Bool):Sp:=fun vs H Q _=>∃ v o,vs=[v]/\At H o v/\∀ H',Ext H H'->Q (.bl (F o)) H'
def jOK (T:Txt mg)(CW:Can P w K mg base "is_whole" 1 fW fdW ["thing"] spWh)(hr:Room 1 (XOf jCS "is_rising" jAC P w K mg base f cdv A outer s H0 E).A): { t:TS // JSs (XOf jCS "is_rising" jAC P w K mg base f cdv A outer s H0 E) (jG jAC) t} :=
 have nd:=scRising.nd
 ⟨_,(j8 (jR (yB (jZ (jH jX gD T.isinstance (by decide+kernel) (j4 (jv 0 rfl vC) (j4 (yF (v:= .ty "tuple") gD T.tuple (by decide+kernel) rfl) j7 j6) j6) j6) jU)) (jC (jQ (qU))) jI)
   (j8 (jR (yB (jZ (jH (jAV rfl) gD T.all (by decide+kernel) (j4 (yE (m:=[none]) (Nc:=["number"]) rfl (qT (jv 0 rfl vC)) rfl (by decide+kernel) (by decide+kernel) (kW (psc:=j9 jAC)) (jW (N:=jCS) rfl rfl (by decide+kernel)) (fun cl C fp s H=>kB (i:=0) (show (["number"]:List Str).Nodup by decide+kernel) rfl qO) (fun cl C fp s H=>yV) (fun cl C fp s H=>(CW.je hr gl_b (j4 (jv 0 rfl kO) j7 j6) j6)) jAN) j7 jV) jV) jU)) (jC (jQ (qU))) jI)
   (jC (jQ (jH (jAV rfl) gD T.all (by decide+kernel) (j4 (yE (m:=[none,some 0]) (Nc:=["k","thing"]) rfl (jK9 gD T.range (j4 (jE) (j4 (jH jJ gD T.len (by decide+kernel) (j4 (jv 0 rfl vC) j7 j6) j6) j7 jK) jB) jB jK) rfl (by decide+kernel) (by decide+kernel) (kW (psc:=j9 jAC)) (jW (N:=jCS) rfl rfl (by decide+kernel)) (fun cl C fp s H=>kB (i:=0) (show (["k","thing"]:List Str).Nodup by decide+kernel) rfl qO) (fun cl C fp s H=>yV) (fun cl C fp s H=>(y0 op_lt (jT jA3 (jv 1 rfl yI) (yL qG (jv 0 rfl kO) (jE)) jNO) (jT jA3 (jv 1 rfl yI) (jv 0 rfl kO) jDR) (jL _))) qC) j7 jV) jV)))))⟩
theorem jJJ {fd:FuncData}(F:Fun K "is_rising" "is_rising" jAC f fd)(T:Txt mg)(CW:Can P w K mg base "is_whole" 1 fW fdW ["thing"] spWh):FnOk P w K mg base CX0 2 f fd ["thing"] (spB risB):=by
 refine F.ok scRising (fun vs H Q E h=>?_) (fun cdv A outer s H vs Q E hr h=>?_)
 ·obtain⟨_,_,rfl,_⟩:=h
  rfl
 ·obtain⟨v,o,rfl,hA,q⟩:=h
  obtain⟨t,ty,kt,_⟩:=hA.ty K
  refine⟨_,(jOK T CW hr).2.h,?_⟩
  refine⟨_,rfl,_,_,_,_,rfl,ty,kt,_,rfl,?_⟩
  cases ht:isTup o with
  | false=>
   refine iteT ?_
   have:risB o=false:=by cases o <;> first | rfl | cases ht
   rw[<- this]
   exact q H (Ext.refl H)
  | true=>
   refine iteF ?_
   obtain⟨os,a,vs,rfl,rfl,ha,h100,hx⟩:=hA.tupOf ht
   have hl:=hx.len
   have hn:vs.length<sizeLine:=by rw[aC]; omega
   ·refine⟨_,rfl,a,rfl,⟨_,SqT.of ha⟩,jEX (F:=isInt) ha hx hn (fun σ'=>∃ v,σ'=[v]) ⟨_,rfl⟩ ?_ ?_⟩
    ·rintro σ' H' v o R S ⟨u,rfl⟩ e hA k
     dsimp only [kX,qI]
     rw[aB rfl]
     exact⟨_,rfl,v,o,rfl,hA,k _ H' ⟨_,rfl⟩ (Ext.refl _)⟩
    ·intro D H1 e1 hD
     refine⟨D,_,rfl,SqL.of hD,_,rfl,?_⟩
     rw[jO6]
     cases hi:os.all isInt with
     | false=>
      refine iteT ?_
      have:risB (.tup os)=false:=by
       show (os.all isInt&&_)=false
       rw[hi]
       rfl
      rw[<- this]
      exact q H1 e1
     | true=>
      refine iteF ?_
      have hv:=hx.allInt hi
      have hN:(os.map val).length=os.length:=ag _
      refine⟨_,rfl,a,_,rfl, .inr (SqT.of (e1 _ _ ha)),1,_,rfl,⟨by decide,by decide,by omega,by rw[aC] at hn; omega⟩,jBO (n:=((vs.length:Int) - 1).toNat) (by omega) (fun D i σ' H' zs=>(∃ v,σ'=[v,some (.ref a)])/\zs=((adj (os.map val)).take i).map V.bl/\H'=upd H1 D (.lst zs)) ?_ ?_ ?_ ?_⟩
      ·intro D hD
       exact⟨⟨_,rfl⟩,rfl,rfl⟩
      ·rintro D i σ' H' zs hD hi2 ⟨_,rfl,rfl⟩
       refine⟨jA,?_⟩
       rw[ag,bJ]
       omega
      ·rintro D i σ' H' zs hD hi2 ⟨⟨v,rfl⟩,rfl,rfl⟩
       have hi3:i<(os.map val).length - 1:=by omega
       have ha':(upd H1 D (.lst (((adj (os.map val)).take i).map V.bl))) a=some (.tup ((os.map val).map V.int)):=by
        rw[jD (jF (e1 _ _ ha) hD),e1 _ _ ha,hv]
       dsimp only [kX,qI]
       rw[aB rfl]
       have e0:(1+(i:Int)) - 1=(i:Int):=by omega
       have e2:(1+(i:Int))=((i+1:Nat):Int):=by omega
       refine⟨_,rfl,_,rfl,_,_,rfl,rfl,a,_,_,_,rfl,rfl,SqT.of ha',by rw[e0]; exact yQ (getI (by omega)),_,rfl,_,rfl,a,_,_,_,rfl,rfl,SqT.of ha',by rw[e2]; exact yQ (getI (by omega)),_,_,rfl,rfl,jA,⟨_,rfl⟩,?_,jCJ⟩
       rw[jHD hi3,aU]
       rfl
      ·rintro D2 σ' H' zs hD2 ⟨_,rfl,rfl⟩
       have hlen:((vs.length:Int) - 1).toNat=(adj (os.map val)).length:=by rw[jL6]; omega
       rw[hlen,bM]
       refine⟨D2,_,rfl,SqL.of jA,?_⟩
       have:(adj (os.map val)).all id=risB (.tup os):=by
        show _=(os.all isInt&&(adj (os.map val)).all id)
        rw[hi,eS]
       rw[this]
       exact q _ (e1.new hD2 _)
end Eo
namespace L2
open PySem
theorem jD0 {X:Cx}{p2 p3 p4:Pos}{k2 k3:Nat} :JE X (.BinOp (.Constant (.int 10) k2 p2) .Pow (.Constant (.int 12) k3 p3) p4) (tC (.int 1000000000000)):=⟨jJE (by decide) (by decide) (by decide) (by decide)⟩
theorem px_un {op:UnaryOp}{a:Expr}{pos:Pos} :jAW (.UnaryOp op a pos):=fun _ _=>rfl
theorem jQ6 {α:Type}{xs:List α}{v:α}(h:xs[xs.length - 1]?=some v):atI xs (-1)=some v:=by
 have hj:xs.length - 1<xs.length:=(ay.mp h).1
 have e:ixN xs.length (-1)=some (xs.length - 1):=by
  unfold ixN
  rw[av (by omega),aB (by omega)]
  congr 1
  omega
 unfold atI
 rw[e]
 exact h
theorem qb {Q:VK}{H:Hp}{a b:Bool}(q:Q (.bl a) H)(e:a=b):Q (.bl b) H:=e ▸ q
end L2
namespace Eo
open PySem L2
theorem jPR {w:Int}{o:Ob}(h:isTup o=false):lotB w o=false:=by cases o <;> first | rfl | cases h
section
variable {fPs:Addr}{fdPs:FuncData}
abbrev jJV:List Str:=["thing","many"]
theorem scIsLot:FnScope jJV ["thing","many"] (j9 jC4):= {}
def spB2 (F:Int->Ob->Bool):Sp:=fun vs H Q _=>∃ v o w,vs=[v, .int w]/\At H o v/\∀ H',Ext H H'->Q (.bl (F w o)) H'
def jS0 (T:Txt mg)(CR:Can P w K mg base "is_rising" 2 fR fdR ["thing"] (spB risB))(hr:Room 2 (XOf jJV "is_lot" jC4 P w K mg base f cdv A outer s H0 E).A): { t:TS // JSs (XOf jJV "is_lot" jC4 P w K mg base f cdv A outer s H0 E) (jG jC4) t} :=
 have nd:=scIsLot.nd
 ⟨_,(j8 (jR (yB (jZ (CR.je hr gD (j4 (jv 0 rfl vL) j7 j6) j6) jU)) (jC (jQ (qU))) jI)
   (jC (jQ ((je_or (y0 yA (jH jJ gD T.len (by decide+kernel) (j4 (jv 0 rfl vL) j7 j6) j6) (jE) (jL _)) (jB3 ((jBK (y0 op_ge (jT kR (jv 0 rfl vL) (jE) jO) (jE) (jL _)) (jB3 (y0 op_lt (jT kR (jv 0 rfl vL) (x9 qK (jE)) px_un) (jv 1 rfl vL) (jL _)))))))))))⟩
theorem jM8 {fd:FuncData}(F:Fun K "is_lot" "is_lot" jC4 f fd)(T:Txt mg)(CR:Can P w K mg base "is_rising" 2 fR fdR ["thing"] (spB risB)):FnOk P w K mg base CX0 3 f fd ["thing","many"] (spB2 lotB):=by
 refine F.ok scIsLot (fun vs H Q E h=>?_) (fun cdv A outer s H vs Q E hr h=>?_)
 ·obtain⟨_,_,_,rfl,_⟩:=h
  rfl
 ·obtain⟨v,o,w,rfl,hA,q⟩:=h
  refine⟨_,(jS0 T CR hr).2.h,?_⟩
  refine⟨_,rfl,v,o,rfl,hA,fun H1 e1=>⟨_,rfl,?_⟩⟩
  have eq:=jRP w o
  cases hR:risB o with
  | false=>
   refine iteT (qb (q H1 e1) ?_)
   rw[<- eq]
   unfold lotB'
   rw[hR]
   rfl
  | true=>
   refine iteF ?_
   have ht:isTup o=true:=by cases o <;> first | rfl | cases hR
   obtain⟨os,a,vs,rfl,rfl,ha,h100,hx⟩:=hA.tupOf ht
   have hl:=hx.len
   have hi:os.all isInt=true:=by
    have:(os.all isInt&&(adj (os.map val)).all id)=true:=hR
    rw[aV] at this
    exact this.1
   have hv:=hx.allInt hi
   have ha1:=e1 _ _ ha
   refine⟨_,rfl,a,_,rfl, .inr (SqT.of ha1),rfl,_,rfl,ite2 (fun hy=>?_) (fun hy=>?_)⟩
   ·have h0:=V.int.inj (ai hy)
    have e0:os=[]:=dU.mp (by omega)
    refine qb (q H1 e1) ?_
    rw[<- eq]
    unfold lotB'
    rw[hR]
    simp [e0]
   ·have h0:0<vs.length:=Nat.pos_of_ne_zero fun h=>hy (aj (by rw[h]; rfl))
    have hml:(os.map val).length=vs.length:=by rw[ag,hl]
    refine⟨_,rfl,a,_,0, .int ((os.map val).getD 0 0),rfl,rfl,SqT.of ha1,?_,_,_,rfl,rfl,_,rfl,ite2 (fun hz=>?_) (fun hz=>?_)⟩
    ·rw[hv]
     exact yQ (j:=0) (getI (by omega))
    ·refine⟨_,rfl,_,rfl,a,_,_, .int ((os.map val).getLastD 0),rfl,rfl,SqT.of ha1,?_,_,rfl,_,_,rfl,rfl,qb (q H1 e1) ?_⟩
     ·show atI vs (-1)=_
      refine jQ6 ?_
      rw[hv,ag,getI (by omega),bW,dG,aE]
     ·rw[<- eq]
      unfold lotB'
      rw[hR]
      have e0:¬ os=[]:=fun e=>by rw[e] at hl; have:vs.length=0:=hl; omega
      have hz:=ai hz
      simp [e0]
      intro hh
      simpa using hz
    ·refine qb (q H1 e1) ?_
     rw[<- eq]
     unfold lotB'
     rw[hR]
     have e0:¬ os=[]:=fun e=>by rw[e] at hl; have:vs.length=0:=hl; omega
     have hz:¬ (0<=(os.map val).getD 0 0):=fun h=>hz (aj h)
     simp only [e0,decide_false,Bool.false_or,eS,aw hz,cN]
end
end Eo
namespace L2
open PySem
section
variable {P:Program}{w:World}{K:W.Frag}{mg:Str->Option Value}{base:Heap}{N:List Str}{qual:Str}{sc:Scope}{f:Addr}{cdv:Value}{A:Around}{outer:List Env}{s:Shared}{H:Hp}{E:XK}{x y z:Str}{p1 p2 p3 pos:Pos}{k i j l:Nat}
theorem jH0 (hN:N.Nodup)(hi:N[i]?=some x)(hj:N[j]?=some y)(hl:N[l]?=some z)(hx:sc.names.lookup x=some .local)(hy:sc.names.lookup y=some .local)(hz:sc.names.lookup z=some .local):
  JG (cxOf CX0 P w K mg base N qual sc f cdv A outer s H E).nox (.Tuple [.Name x p1, .Name y p2, .Name z p3] k pos) (gTup K 3 (qP (kX i) (qP (kX j) (qP (kX l) gNil)))):=
 jGZ (X:=(cxOf CX0 P w K mg base N qual sc f cdv A outer s H E).nox) rfl (yO (kB hN hi (loc_l hx)) (yO (kB hN hj (loc_l hy)) (yO (kB hN hl (loc_l hz)) jCZ yY) yY) yY)
theorem jMF (hN:N.Nodup)(hi:N[i]?=some x)(hj:N[j]?=some y)(hx:sc.names.lookup x=some .local)(hy:sc.names.lookup y=some .local):
  JG (cxOf CX0 P w K mg base N qual sc f cdv A outer s H E).nox (.Tuple [.Name x p1, .Name y p2] k pos) (gTup K 2 (qP (kX i) (qP (kX j) gNil))):=
 jGZ (X:=(cxOf CX0 P w K mg base N qual sc f cdv A outer s H E).nox) rfl (yO (kB hN hi (loc_l hx)) (yO (kB hN hj (loc_l hy)) jCZ yY) yY)
end
section
variable {K:W.Frag}{m:List (Option Nat)}{g:TG}{tt:TT}{te:TE}{σ:St}{H1:Hp}{Q:VK}
end
end L2
namespace Eo
open PySem L2
theorem jD2 {α:Type}{l:List α}{i:Nat}{d:α}(h:i<l.length):l.getD i d=l[i]:=by
 rw[aE,az h]
 rfl
theorem jAU (l:List Int):(l.map V.int).all qQ=true:=by
 rw[aQ]
 intro x hx
 obtain⟨i,_,rfl⟩:=bc.mp hx
 rfl
theorem jBL (i:Int)(l:List Int):inV (.int i) (l.map V.int)=decide (i∈l):=by
 unfold inV
 rw[ck,bZ,decide_eq_true_iff]
 constructor
 ·rintro ⟨x,hx,e⟩
  obtain⟨j,hj,rfl⟩:=bc.mp hx
  have:j=i:=eq_of_beq e
  rw[<- this]
  exact hj
 ·intro h
  exact⟨.int i,bc.mpr ⟨i,h,rfl⟩,by simp [eqV]⟩
theorem jJ3:∀ (ts:List Int) (lo w:Int),ts.Pairwise (· < ·)->(∀ z∈ts,lo<=z/\z<w)->(ts.length:Int)<=max (w - lo) 0
 | [],lo,w,_,_=>by show (0:Int)<=_; omega
 | a::r,lo,w,hp,hb=>by
  have h1:=hb a aJ
  have hp':=g9.mp hp
  have:=jJ3 r (a+1) w hp'.2 fun z hz=>⟨by have:=hp'.1 z hz; omega,(hb z (aI _ hz)).2⟩
  rw[bB]
  omega
def yT (ip:List (List Int×Int))(k:Int):List Int:=(ip.getD k.toNat ([],0)).1
theorem PcsAt.get {H:Hp} :∀ {vs:List V}{ps:List (List Int×Int)},PcsAt H vs ps->∀ {k:Nat},k<ps.length->∃ v,vs[k]?=some v/\PcAt H v (ps.getD k ([],0))
 | v::vs,p::ps,h,0,_=>⟨v,rfl,h.1⟩
 | v::vs,p::ps,h,k+1,hk=>PcsAt.get h.2 (k:=k) (by simpa using hk)
 | [],[],_,k,hk=>absurd hk (dN _)
 | [],_::_,h,_,_=>h.elim
 | _::_,[],h,_,_=>h.elim
theorem Good.at {mt mp w:Int}{ms:List Int}{ip:List (List Int×Int)}(g:Good mt mp w ms ip){k:Nat}(hk:k<ip.length):GoodPc w (ip.getD k ([],0)):=by
 have e:ip.getD k ([],0)=ip[k]:=by simp [List.getD,hk]
 rw[e]
 exact g.pg _ (bK hk)
theorem yC (n:Nat):(upto n).length=n:=by
 unfold upto
 rw[ag,cC]
theorem jBB {n i:Nat}(h:i<n):(upto n)[i]?=some (i:Int):=by
 unfold upto
 rw[aL,cn h]
 rfl
theorem jL2 (H:Hp):At H .oth .non:= .inl rfl
theorem at_bl (H:Hp)(b:Bool):At H .oth (.bl b):= .inr (.inl ⟨b,rfl⟩)
theorem jO3 (H:Hp)(x:Str):At H .oth (.str x):= .inr (.inr (.inl ⟨x,rfl⟩))
theorem qM (H:Hp)(i:Int):At H (.int i) (.int i):=rfl
theorem jO5 {H:Hp}{a:Addr}{xs:List V}(h:H a=some (.lst xs)):At H .oth (.ref a):= .inr (.inr (.inr ⟨a,rfl, .inl ⟨xs,h⟩⟩))
theorem jC9 {H:Hp}{a:Addr}{vs:List V}{os:List Ob}(h:H a=some (.tup vs))(n:vs.length<=100)(r:Ats H os vs):At H (.tup os) (.ref a):=⟨a,vs,rfl,h,n,r⟩
theorem _root_.L2.Ext.tups {H H':Hp}(e:Ext H H'):Tups H H':=fun b xs h=>e b _ h
theorem PcsAt.snoc {H:Hp}{v:V}{p:List Int×Int}(hv:PcAt H v p):∀ {vs:List V}{ps:List (List Int×Int)},PcsAt H vs ps->PcsAt H (vs++[v]) (ps++[p])
 | [],[],_=>⟨hv,trivial⟩
 | x::vs,q::ps,h=>⟨h.1,PcsAt.snoc hv h.2⟩
 | [],_::_,h=>h.elim
 | _::_,[],h=>h.elim
def pcT (pc:List Int×Int):Tr:= .tup [.tup (pc.1.map Tr.int), .int pc.2]
def boxT (w:Int)(ms:List Int)(ip:List (List Int×Int)):Tr:= .tup [.int w, .tup (ms.map Tr.int), .tup (ip.map pcT)]
theorem jKG {H:Hp} :∀ l:List Int,TsAt H (l.map Tr.int) (l.map V.int)
 | []=>rfl
 | i::r=>⟨.int i,_,rfl,rfl,jKG r⟩
theorem pcs_T {H:Hp} :∀ {vs:List V}{ip:List (List Int×Int)},PcsAt H vs ip->TsAt H (ip.map pcT) vs
 | [],[],_=>rfl
 | v::vs,p::ps,h=>by
  obtain⟨a,q,e,h1,h2⟩:=h.1
  exact⟨v,vs,rfl,⟨a,_,e,h1, .ref q,_,rfl,⟨q,_,rfl,h2,jKG _⟩, .int p.2,[],rfl,rfl,rfl⟩,pcs_T h.2⟩
 | [],_::_,h=>h.elim
 | _::_,[],h=>h.elim
theorem box_T {H:Hp}{b:Addr}{w:Int}{ms:List Int}{ip:List (List Int×Int)}(h:BoxAt H b w ms ip):TAt H (boxT w ms ip) (.ref b):=by
 obtain⟨qm,qp,ps,b1,b2,b3,b4⟩:=h.ex
 exact⟨b,_,rfl,b1, .int w,_,rfl,rfl, .ref qm,_,rfl,⟨qm,_,rfl,b2,jKG _⟩, .ref qp,[],rfl,⟨qp,_,rfl,b3,pcs_T b4⟩,rfl⟩
theorem jD6:∀ l:List Int,deps (l.map Tr.int)=0
 | []=>by simp [deps]
 | i::r=>by simp [deps,dep,jD6 r]
theorem jH7:∀ l:List (List Int×Int),deps (l.map pcT)<=2
 | []=>by simp [deps]
 | p::r=>by
  have:=jH7 r
  simp only [be,deps,pcT,dep,jD6]
  omega
theorem jL0 (w:Int)(ms:List Int)(ip:List (List Int×Int)):dep (boxT w ms ip)<=4:=by
 have:=jH7 ip
 simp only [boxT,dep,deps,jD6]
 omega
theorem iteN {A B:Prop}{c:Bool}(hc:c=false)(h:B):if c=true then A else B:=by
 rw[hc]
 exact iteF h
abbrev leI:Int->Int->Bool:=fun a b=>decide (a<=b)
def srt (l:List Int):List Int:=l.mergeSort leI
theorem jDO (l:List Int):(srt l).Perm l:=List.mergeSort_perm _ _
theorem jNH (l:List Int):(srt l).Pairwise (· <= ·):=by
 have:=List.pairwise_mergeSort (le:=leI) (fun a b c h1 h2=>aj (Int.le_trans (ai h1) (ai h2))) (fun a b=>by
  rw[de]
  rcases Int.le_total a b with h | h
  ·exact .inl (aj h)
  ·exact .inr (aj h)) l
 exact this.imp fun h=>ai h
theorem jG3 {l m:List Int}(h1:m.Pairwise (· <= ·))(h2:m.Perm l):m=srt l:=
 List.Perm.eq_of_pairwise (fun a b _ _ h1 h2=>Int.le_antisymm h1 h2) h1 (jNH l) (h2.trans (jDO l).symm)
theorem jNI {l:List Int}(h:l.Pairwise (· <= ·)):srt l=l:=(jG3 h (.refl _)).symm
theorem jJ4 {a b:List Int}(ra:a.Pairwise (· < ·))(rb:b.Pairwise (· < ·))(h:∀ x,x∈a↔x∈b):a=b:=by
 have na:a.Nodup:=ra.imp fun {a b} h=>by omega
 have nb:b.Nodup:=rb.imp fun {a b} h=>by omega
 have pm:a.Perm b:=(List.perm_ext_iff_of_nodup na nb).mpr h
 rw[jG3 (ra.imp fun {a b} h=>by omega) pm,jNI (rb.imp fun {a b} h=>by omega)]
def plcs (ts lot:List Int):List Int:=(lot.filter fun t=>decide (t∈ts)).map fun t=>((ts.idxOf t:Nat):Int)
def nmd (ts lot:List Int):List Int:=srt (plcs ts lot)
theorem jGK (ts lot:List Int):(plcs ts lot).length<=lot.length:=by
 unfold plcs
 rw[ag]
 exact dj _ _
def pick (ts:List Int)(ip:List (List Int×Int))(ks:List Int):List (List Int×Int):=ks.map fun k=>(nmd ts (yT ip k),(ip.getD k.toNat ([],0)).2)
def plKv (ts:List Int):List (Key×V):=(List.range ts.length).map fun i=>(Sum.inl (ts.getD i 0),V.int (i:Int))
theorem jLN (ts:List Int):(plKv ts).length=ts.length:=by
 unfold plKv
 rw[ag,cC]
theorem jCQ (ts:List Int):(plKv ts).map (·.1)=ts.map Sum.inl:=by
 unfold plKv
 rw[cq]
 refine List.ext_getElem (by simp) fun i h1 h2=>?_
 have:i<ts.length:=by simpa using h1
 simp [List.getD,this]
theorem jLO {ts:List Int}{i:Nat}{k:Key}{v:V}(h:(plKv ts)[i]?=some (k,v)):∃ t,ts[i]?=some t/\k=Sum.inl t/\v=V.int (i:Int):=by
 unfold plKv at h
 rw[aL] at h
 by_cases hi:i<ts.length
 ·rw[cn hi] at h
  simp only [map_some,ej,gd] at h
  refine⟨ts[i],by simp [hi],?_,h.2.symm⟩
  rw[<- h.1]
  simp [List.getD,hi]
 ·rw[bn (by simp; omega)] at h
  cases h
theorem jL9 {κ:Type} [DecidableEq κ]{iq:List (κ×V)}{k:κ}(h:k∉iq.map (·.1)):valV iq k=none:=by
 unfold valV
 rw[List.find?_eq_none.mpr fun x hx=>?_]
 ·rfl
 ·intro e
  exact h (bc.mpr ⟨x,hx,ai e⟩)
theorem jN7 {κ:Type} [DecidableEq κ]:∀ {iq:List (κ×V)}{i:Nat}{k:κ}{v:V},(iq.map (·.1)).Nodup->iq[i]?=some (k,v)->valV iq k=some v
 | [],_,_,_,_,h=>by simp at h
 | p::r,0,k,v,_,h=>by
  simp at h
  subst h
  exact jDM rfl
 | p::r,i+1,k,v,nd,h=>by
  rw[be,bS] at nd
  have h:r[i]?=some (k,v):=by simpa using h
  have hm:k∈r.map (·.1):=bc.mpr ⟨_,aP h,rfl⟩
  have ne:¬ p.1=k:=fun e=>nd.1 (by rw[e]; exact hm)
  have:=jN7 (i:=i) nd.2 h
  unfold valV at this ⊢
  rw[cz,aw ne]
  exact this
theorem jEM {ts:List Int}(h:ts.Nodup):(ts.map (Sum.inl:Int->Key)).Nodup:=by
 rw[List.Nodup,dk]
 exact h.imp fun hne e=>hne (ik e)
theorem jLM {ts:List Int}(nd:ts.Nodup)(t:Int):valV (plKv ts) (Sum.inl t)=if t∈ts then some (.int ((ts.idxOf t:Nat):Int)) else none:=by
 by_cases h:t∈ts
 ·rw[aB h]
  have hi:=cb.mpr h
  refine jN7 (i:=ts.idxOf t) (by rw[jCQ]; exact jEM nd) ?_
  unfold plKv
  rw[aL,cn hi]
  show some (Sum.inl (ts.getD (ts.idxOf t) 0),_)=_
  rw[show ts.getD (ts.idxOf t) 0=t by simp [List.getD,hi,cY]]
 ·rw[av h]
  refine jL9 ?_
  rw[jCQ]
  intro z
  obtain⟨x,hx,e⟩:=bc.mp z
  exact h (ik e ▸ hx)
section
variable {cd:Value}{cl:List (Str×Addr)}
abbrev qB:Stmt:=(jG yD).getD 1 (.Pass ⟨0,0,0,0⟩)
abbrev jGS:List Str:=["lot","places"]
theorem scNamed:NScope jGS ["lot"] ["places"] (j9 qB):=⟨rfl,rfl,rfl,by decide+kernel,rfl,by decide+kernel,by decide+kernel,fun x h=>by
 have:=bQ h
 revert this
 have hl:∀ y∈(j9 qB).names,y.2= .free->y.1= "places" :=by decide+kernel
 intro m
 have:=hl _ m rfl
 exact this ▸ aJ,by decide+kernel⟩
def jIV:List V->Sp:=fun fv vs H Q _=>∃ (d a:Addr) (ts lot:List Int),fv=[.ref d]/\vs=[.ref a]/\ts.Nodup/\H d=some (.dK (plKv ts))/\H a=some (.tup (lot.map V.int))/\lot.length<64/\∀ r H',H' r=some (.tup ((nmd ts lot).map V.int))->Ext H H'->Q (.ref r) H'
def jRO (T:Txt mg)(hr:Room 0 (cxN P w K mg base jGS "picked.<locals>.named" (j9 qB) f cd cl A outer s H0).A): { t:TS // JSs (cxN P w K mg base jGS "picked.<locals>.named" (j9 qB) f cd cl A outer s H0) (jG qB) t} :=
 have nd:=scNamed.nd
 ⟨_,(jC (jQ (kY jA0 (gl_n (by decide+kernel)) T.tuple (by decide+kernel) (j4 (jH jF0 (gl_n (by decide+kernel)) T.sorted (by decide+kernel) (j4 (yE (m:=[none,some 1]) (Nc:=["thing","places"]) rfl (qT (jv 0 rfl (vis_n (by decide+kernel)))) rfl (by decide+kernel) (by decide+kernel) (kW (psc:=j9 qB)) (jW (N:=jGS) rfl rfl (by decide+kernel)) (fun cl C fp s H=>kB (i:=0) (show (["thing","places"]:List Str).Nodup by decide+kernel) rfl qO) (fun cl C fp s H=>jBW (jRZ (hu_of hr) (jv 0 rfl kO) (jv 1 rfl yI) rfl)) (fun cl C fp s H=>(jPW (hu_of hr) (jv 1 rfl yI) (jv 0 rfl kO) jDR)) jAN) j7 jV) jV) j7 jK) jK)))⟩
theorem jM7 (T:Txt mg):FnN P w K mg base 1 "named" "picked.<locals>.named" (kS qB) (jG qB) (j9 qB) ["lot"] ["places"] jIV:=by
 refine jS3 scNamed (fun fv vs H Q E h=>?_) (fun cl doc pm c ctv us hl=>?_) (fun A outer s H a c cl vs fv Q E hr h=>?_)
 ·obtain⟨_,_,_,_,_,rfl,_⟩:=h
  rfl
 ·match us,hl with
  | [u],_=>rfl
 ·obtain⟨d,a,ts,lot,rfl,rfl,nd,hd,ha,hl,q⟩:=h
  refine⟨_,(jRO T hr).2.h,?_⟩
  refine⟨_,rfl,a,rfl,⟨_,SqT.of ha⟩,jCF (xs:=lot.map V.int) (by rw[ag,aC]; omega) (fun D j σ' H' zs=>(∃ v,σ'=[v,some (.ref d)])/\Ext H H'/\H' D=some (.lst zs)/\H D=none/\zs=(plcs ts (lot.take j)).map V.int) ?_ ?_ ?_ ?_⟩
  ·intro D hD
   exact⟨⟨_,rfl⟩,(Ext.refl _).new hD _,jA,hD,rfl⟩
  ·rintro D j σ' H' zs hD ⟨_,e,h2,_,rfl⟩
   refine⟨e _ _ ha,h2,?_⟩
   rw[ag]
   have:=jGK ts (lot.take j)
   have:=bR j lot
   omega
  ·rintro D j σ' H' zs x hD hx ⟨⟨v,rfl⟩,e,h2,hn,rfl⟩
   obtain⟨z,hz,rfl⟩:∃ z:Int,lot[j]?=some z/\V.int z=x:=by
    rw[aL] at hx
    cases hq:lot[j]? with
    | none=>rw[hq] at hx; cases hx
    | some z=>rw[hq] at hx; cases hx; exact⟨z,rfl,rfl⟩
   have ht:plcs ts (lot.take (j+1))=plcs ts (lot.take j)++(if z∈ts then [((ts.idxOf z:Nat):Int)] else []):=by
    unfold plcs
    rw[bP,hz,dR,aU]
    congr 1
    by_cases hzz:z∈ts <;> simp [hzz]
   have hD':H' d=some (.dK (plKv ts)):=e _ _ hd
   have gv:=jLM nd z
   refine⟨_,rfl,_,rfl,d,_,rfl,DGet.k (k:=Sum.inl z) hD',_,rfl,?_⟩
   rw[gv]
   by_cases hzz:z∈ts
   ·rw[aB hzz] at gv ht ⊢
    refine⟨_,rfl,_,rfl,d,_,rfl,by rw[<- gv]; exact DGet.k (k:=Sum.inl z) hD',h2,⟨_,rfl⟩,e.updNew hn _,jA,hn,?_⟩
    rw[ht,aU]
    rfl
   ·rw[av hzz] at gv ht ⊢
    refine⟨⟨_,rfl⟩,e,h2,hn,?_⟩
    rw[ht,bH]
  ·rintro D σ' H' zs hD ⟨_,e,h2,hn,rfl⟩
   rw[ag,bM] at h2
   refine⟨D,_,rfl,SqL.of h2,?_,fun l ns hl hs hp=>?_⟩
   ·have:=jGK ts lot
    omega
   refine⟨l,_,rfl, .inl ⟨SqL.of jA,fun r hr=>?_⟩⟩
   refine q r _ ?_ ((e.new hl _).new hr _)
   rw[jA,jG3 hs hp]
   rfl
end
theorem jJB {H:Hp}{vs:List V}{ip:List (List Int×Int)}(h:PcsAt H vs ip){k:Int}(h0:0<=k)(h1:k<ip.length):∃ a q,atI vs k=some (.ref a)/\H a=some (.tup [.ref q, .int (ip.getD k.toNat ([],0)).2])/\H q=some (.tup ((yT ip k).map V.int)):=by
 obtain⟨v,hv,a,q,rfl,b1,b2⟩:=h.get (k:=k.toNat) (by omega)
 refine⟨a,q,?_,b1,b2⟩
 have e:((k.toNat:Nat):Int)=k:=by omega
 have:=yQ hv
 rw[e] at this
 exact this
section
variable {c0:Addr}
abbrev jBT:List Str:=["box","things","pieces","places","named"]
theorem scPicked:FnScope jBT ["box","things","pieces"] (j9 yD):= {}
abbrev jRD:Pos:=match qB with
 | .FunctionDef _ _ _ _ _ _ _ _ _ p=>p
 | _=>⟨0,0,0,0⟩
abbrev TabP (H:Hp)(tb:Addr):Prop:=TabOk H tb jRD "picked.<locals>.named"
theorem jH3:∀ x∈(["places"]:List Str),(j9 qB).names.lookup x=some .free:=by decide+kernel
theorem jD3:FsAt (XOf jBT "picked" yD P w K mg base f (.ref c0) A outer s H0 E) ["places"] [3]:=⟨rfl,fun k x h=>by
 cases k with
 | zero=>cases h; exact⟨3,rfl,rfl, .inl (show (j9 yD).names.lookup ("places" :Str)=some NameKind.cell by decide+kernel)⟩
 | succ k=>cases h⟩
def jAX (tb:Addr):Sp:=fun vs H Q _=>∃ (b a c:Addr) (tp tq:Bool) (w:Int) (ms:List Int) (ip:List (List Int×Int)) (ts ks:List Int),vs=[.ref b, .ref a, .ref c]/\BoxAt H b w ms ip/\AtS tp H a (ts.map V.int)/\AtS tq H c (ks.map V.int)/\ts.Nodup/\ts.length<=100/\ms.length<64/\(∀ p∈ip,p.1.length<64)/\(∀ k∈ks,0<=k/\k<ip.length)/\ks.length<=1000/\TabP H tb/\
 ∀ r H',BoxAt H' r ts.length (nmd ts ms) (pick ts ip ks)->ExtT tb H H'->TabP H' tb->Q (.ref r) H'
def jOY (T:Txt mg)(CH:PySem.W.CodeHd base c0 tb)(BM:BltAt base mg)(FN:FnN P w K mg base 1 "named" "picked.<locals>.named" (kS qB) (jG qB) (j9 qB) ["lot"] ["places"] jIV)(hr:Room 1 (XOf jBT "picked" yD P w K mg base f (.ref c0) A outer s H0 E).A): { t:TS // JSs (XOf jBT "picked" yD P w K mg base f (.ref c0) A outer s H0 E) (jG yD) t} :=
 have nd:=scPicked.nd
 ⟨_,(j8 (kP (i:=3) nd rfl loc_c (kY (jIA rfl) gD T.dict (by decide+kernel) (j4 (yE (m:=[none,none]) (Nc:=["place","thing"]) rfl (jKA gD T.enumerate (j4 (jv 1 rfl vL) j7 j6) j6) rfl (by decide+kernel) (by decide+kernel) (kW (psc:=j9 yD)) (jW (N:=jBT) rfl rfl (by decide+kernel)) (fun cl C fp s H=>jAT (i:=0) (j:=1) rfl (show (["place","thing"]:List Str).Nodup by decide+kernel) rfl rfl (by decide+kernel) (by decide+kernel)) (fun cl C fp s H=>yV) (fun cl C fp s H=>(jM (j4 (jv 1 rfl kO) (j4 (jv 0 rfl kO) j7 j6) j6))) qC) j7 jV) jV) kI)
   (j8 (jRW (j:=4) nd rfl loc_c rfl CH BM (kW (psc:=j9 yD)) rfl rfl)
   (jC (jQ (jM (j4 (jH jJ gD T.len (by decide+kernel) (j4 (jv 1 rfl vL) j7 j6) j6) (j4 (jPV (j:=4) FN hr rfl vC (kW (psc:=j9 yD)) jH3 jD3 (j4 (jT kR (jv 0 rfl vC) (jE) jO) j7 kT) kT) (j4 (kY jA0 gD T.tuple (by decide+kernel) (j4 (jMI (m:=[none,some 4,some 0]) (Nc:=["piece","named","box"]) rfl (jRX (jv 2 rfl vL)) rfl (by decide+kernel) (by decide+kernel) (kW (psc:=j9 yD)) (jW (N:=jBT) rfl rfl (by decide+kernel)) (fun cl C fp s H=>kB (i:=0) (show (["piece","named","box"]:List Str).Nodup by decide+kernel) rfl qO) (fun cl C fp s H=>yV) (fun cl C fp s H ad σ I0 hfp=>(jM (j4 (jMG (j:=1) I0 hfp FN hr rfl yI (kW (psc:=j9 yD)) jH3 jD3 (j4 (jT jA3 (jT jA3 (jT jA3 (jv 2 rfl yI) (jE) jO) (jv 0 rfl kO) jDR) (jE) jO) j7 kT) kT) (j4 (jT jA3 (jT jA3 (jT jA3 (jv 2 rfl yI) (jE) jO) (jv 0 rfl kO) jDR) (jE) jO) j7 kT) jK))) jAN) j7 jV) jV) j7 jK) jK) jK))))))⟩
theorem jJO {fd:FuncData}(F:FunC K "picked" "picked" yD f fd c0)(T:Txt mg)(CH:PySem.W.CodeHd base c0 tb)(BM:BltAt base mg):FnOk P w K mg base CX0 2 f fd ["box","things","pieces"] (jAX tb):=by
 refine F.ok scPicked (fun vs H Q E h=>?_) (fun A outer s H vs Q E hr h=>?_)
 ·obtain⟨_,_,_,_,_,_,_,_,_,_,rfl,_⟩:=h
  rfl
 ·obtain⟨b,a,c,tp,tq,w,ms,ip,ts,ks,rfl,hB,ha,hc,nd,lts,lms,lpc,hks,lks,tab,q⟩:=h
  refine⟨_,(jOY T CH BM (jM7 T) hr).2.h,?_⟩
  obtain⟨qm,qp,ps,b1,b2,b3,b4⟩:=id hB.ex
  have pl:=b4.len
  refine⟨_,rfl,tp,a,rfl,⟨_,ha.sq⟩,jKS (xs:=ts.map V.int) (by rw[ag,aC]; omega) (fun D j σ' H' zs=>(∃ v v',σ'=[v,v'])/\Ext H H'/\H' D=some (.lst zs)/\H D=none/\zs.length=j/\∀ i,i<j->∃ r:Addr,zs[i]?=some (V.ref r)/\H' r=some (.tup [.int (ts.getD i 0), .int (i:Int)])) ?_ ?_ ?_ ?_⟩
  ·intro D hD
   exact⟨⟨_,_,rfl⟩,(Ext.refl _).new hD _,jA,hD,rfl,fun i hi=>absurd hi (dN _)⟩
  ·rintro D j σ' H' zs hD ⟨_,e,h2,_,hl,_⟩
   exact⟨(ha.ext e).sq,h2,by omega⟩
  ·rintro D j σ' H' zs x X hD hx hX ⟨⟨v,v',rfl⟩,e,h2,hn,hl,hz⟩
   obtain⟨z,hz1,rfl⟩:∃ z:Int,ts[j]?=some z/\V.int z=x:=by
    rw[aL] at hx
    cases hq:ts[j]? with
    | none=>rw[hq] at hx; cases hx
    | some z=>rw[hq] at hx; cases hx; exact⟨z,rfl,rfl⟩
   have hgd:ts.getD j 0=z:=by rw[aE,hz1]; rfl
   refine⟨X,_,rfl,SqT.of jA,rfl,_,_,rfl,_,_,rfl,rfl,?_⟩
   dsimp only [kX,qI]
   rw[aB rfl]
   refine⟨_,rfl,_,rfl,by show (2:Nat)<=_; decide,fun r H2 d2 e2=>?_⟩
   have e1:Ext H' (L2.upd H' X (.tup [.int (j:Int), .int z])):=(Ext.refl _).new hX _
   have hD2:H2 D=some (.lst zs):=e2 _ _ (e1 _ _ h2)
   have rD:r≠D:=fun z=>by rw[z,hD2] at d2; cases d2
   refine⟨hD2,⟨_,_,rfl⟩,((e.trans e1).trans e2).updNew hn _,jA,hn,by rw[aD,hl]; rfl,fun i hi=>?_⟩
   by_cases hij:i=j
   ·subst hij
    refine⟨r,?_,?_⟩
    ·rw[bt (by omega),hl,ij]
     rfl
    ·rw[jD rD,d2,hgd]
   ·obtain⟨r',z1,z2⟩:=hz i (by omega)
    have z3:=e2 _ _ (e1 _ _ z2)
    refine⟨r',?_,?_⟩
    ·rw[bV (by omega)]
     exact z1
    ·rw[jD (fun y=>by rw[y,hD2] at z3; cases z3)]
     exact z3
  ·rintro D σ' H1 zs hD ⟨_,e1,h2,hn,hl,hz⟩
   rw[ag] at hl hz
   refine⟨D,zs,plKv ts,rfl,h2,by rw[jLN]; exact hl,fun i k v hk=>?_,by rw[jCQ]; exact jEM nd,fun d hd=>?_⟩
   ·obtain⟨t,z1,rfl,rfl⟩:=jLO hk
    obtain⟨r,z2,z3⟩:=hz i (ay.mp z1).1
    refine⟨r,z2,?_⟩
    rw[z3]
    show _=some (HO.tup [V.int t,V.int (i:Int)])
    rw[aE,z1]
    rfl
   have e2:Ext H (L2.upd H1 d (.dK (plKv ts))):=e1.new hd _
   have d2:(L2.upd H1 d (.dK (plKv ts))) d=some (.dK (plKv ts)):=jA
   generalize L2.upd H1 d (.dK (plKv ts))=H2 at e2 d2
   refine⟨tab.ext e2,fun fa fc H3 k1 k2 k3 k4 k5=>?_⟩
   have tab3:TabP H3 tb:= .inr ⟨fc,k3,k2⟩
   have E3:ExtT tb H H3:=(ExtT.of e2).trans k4
   have B1:=E3.at tab b1
   have B2:=E3.at tab b2
   have B3:=E3.at tab b3
   have dd:=k4.at (tab.ext e2) d2
   have aa:=E3.seq tab ha
   have cc:=E3.seq tab hc
   refine⟨_,rfl,a,_,rfl,aa.or,?_⟩
   refine⟨fa,rfl,_,rfl,b,_,1,_,rfl,rfl,SqT.of B1,rfl,fc,[.ref d],k1,k2,rfl,d,qm,ts,ms,rfl,rfl,nd,dd,B2,lms,fun r1 H4 d4 e4=>?_⟩
   refine jN2 (tp:=tq) (xs:=ks.map V.int) (cc.ext e4) (fun Q h=>⟨_,rfl,h⟩) (by rw[ag,aC]; omega) (fun D j σ' H' zs=>(∃ v,σ'=[v,some (.ref fa),some (.ref b)])/\Ext H4 H'/\H' D=some (.lst zs)/\H4 D=none/\PcsAt H' zs (pick ts ip (ks.take j))) ?_ ?_ ?_ ?_
   ·intro D hD
    exact⟨⟨_,rfl⟩,(Ext.refl _).new hD _,jA,hD,trivial⟩
   ·rintro D j σ' H' zs hD ⟨_,e,h2,_,pz⟩
    refine⟨cc.ext (e4.trans e),h2,?_⟩
    rw[pz.len]
    unfold pick
    rw[ag]
    exact bR _ _
   ·rintro D j σ' H' zs x hD hx ⟨⟨v,rfl⟩,e,h2,hn,pz⟩
    obtain⟨k,hk,rfl⟩:∃ z:Int,ks[j]?=some z/\V.int z=x:=by
     rw[aL] at hx
     cases hq:ks[j]? with
     | none=>rw[hq] at hx; cases hx
     | some z=>rw[hq] at hx; cases hx; exact⟨z,rfl,rfl⟩
    have hkb:=hks k (aP hk)
    have e34:=e4.trans e
    obtain⟨pa,pq,g1,g2,g3⟩:=jJB b4 hkb.1 hkb.2
    have g2':=e34 _ _ (E3.at tab g2)
    have g3':=e34 _ _ (E3.at tab g3)
    have hlen:(yT ip k).length<64:=by
     unfold yT
     rw[jD2 (by omega)]
     exact lpc _ (bK _)
    dsimp only [kX,qI]
    rw[aB rfl]
    refine⟨fa,rfl,_,rfl,b,_,2,_,rfl,rfl,SqT.of (e34 _ _ B1),rfl,_,rfl,qp,_,k,_,rfl,rfl,SqT.of (e34 _ _ B3),g1,pa,_,0,_,rfl,rfl,SqT.of g2',rfl,fc,[.ref d],e34 _ _ k1,e34 _ _ k2,rfl,d,pq,ts,yT ip k,rfl,rfl,nd,e34 _ _ dd,g3',hlen,fun r2 H5 d5 e5=>?_⟩
    have e35:=e34.trans e5
    refine⟨_,rfl,b,_,2,_,rfl,rfl,SqT.of (e35 _ _ B1),rfl,_,rfl,qp,_,k,_,rfl,rfl,SqT.of (e35 _ _ B3),g1,pa,_,1,_,rfl,rfl,SqT.of (e5 _ _ g2'),rfl,by show (2:Nat)<=_; decide,fun r3 H6 d6 e6=>?_⟩
    have hD6:H6 D=some (.lst zs):=e6 _ _ (e5 _ _ h2)
    refine⟨hD6,⟨_,rfl⟩,((e.trans e5).trans e6).updNew hn _,jA,hn,?_⟩
    have ez:pick ts ip (ks.take (j+1))=pick ts ip (ks.take j)++[(nmd ts (yT ip k),(ip.getD k.toNat ([],0)).2)]:=by
     unfold pick
     rw[bP,hk,aU]
     rfl
    rw[ez]
    exact PcsAt.mono (Tups.upd hD6 _) (PcsAt.snoc (p:=(nmd ts (yT ip k),(ip.getD k.toNat ([],0)).2)) ⟨r3,r2,rfl,d6,e6 _ _ d5⟩ (pz.mono (e5.trans e6).tups))
   ·rintro D σ' H5 zs hD ⟨_,e5,h5,hn5,pz⟩
    rw[ag,bM] at pz
    refine⟨D,_,rfl, .inl ⟨SqL.of h5,fun l hl=>?_⟩⟩
    have e6:Ext H5 (L2.upd H5 l (.tup zs)):=(Ext.refl _).new hl _
    have d6:(L2.upd H5 l (.tup zs)) l=some (.tup zs):=jA
    generalize L2.upd H5 l (.tup zs)=H6 at e6 d6
    refine⟨by show (3:Nat)<=_; decide,fun r H7 d7 e7=>?_⟩
    have e47:=(e5.trans e6).trans e7
    refine q r H7 ⟨r1,l,zs,?_,e47 _ _ d4,e7 _ _ d6,pz.mono (e6.trans e7).tups⟩ (E3.trans (ExtT.of (e4.trans e47))) (tab3.ext (e4.trans e47))
    rw[d7,ag]
end
theorem jGT {H:Hp}{n:Int}{os:List Ob}{vs:List V}(h:lotB n (.tup os)=true)(hx:Ats H os vs):vs=(os.map val).map V.int/\(os.map val).Pairwise (· < ·)/\∀ k∈os.map val,0<=k/\k<n:=by
 have h:(os.all (upB 0 (n - 1))&&(adj (os.map val)).all id)=true:=h
 rw[aV] at h
 obtain⟨h1,h2⟩:=h
 rw[aQ] at h1
 have hi:os.all isInt=true:=by
  rw[aQ]
  intro x hx
  have:=h1 x hx
  cases x with
  | int i=>rfl
  | oth=>cases this
  | tup r=>cases this
 refine⟨hx.allInt hi,?_,fun k hk=>?_⟩
 ·rw[cx]
  intro i j hi hj hij
  have a1:=jL7 h2 (k:=i) (by omega)
  have a2:=jHE h2 (i+1) j (by omega) hj
  have e1:(os.map val).getD i 0=(os.map val)[i]:=jD2 hi
  have e2:(os.map val).getD j 0=(os.map val)[j]:=jD2 hj
  omega
 ·obtain⟨o,ho,rfl⟩:=bc.mp hk
  have:=h1 o ho
  cases o with
  | int i=>
   have this:(decide (0<=i)&&decide (i<=n - 1))=true:=this
   rw[aV] at this
   have q1:=ai this.1
   have q2:=ai this.2
   show 0<=i/\i<n
   omega
  | oth=>cases this
  | tup r=>cases this
theorem jCT {n:Int}{ks:List Int}(h:ks.Pairwise (· < ·))(hb:∀ k∈ks,0<=k/\k<n):lotB n (.tup (ks.map Ob.int))=true:=by
 have hv:(ks.map Ob.int).map val=ks:=by rw[cq]; exact io _
 show ((ks.map Ob.int).all (upB 0 (n - 1))&&(adj ((ks.map Ob.int).map val)).all id)=true
 rw[hv,aV,aQ,aQ]
 refine⟨fun x hx=>?_,fun x hx=>?_⟩
 ·obtain⟨k,hk,rfl⟩:=bc.mp hx
  have:=hb k hk
  show (decide (0<=k)&&decide (k<=n - 1))=true
  rw[aj (by omega),aj (by omega)]
  rfl
 ·unfold adj at hx
  obtain⟨i,hi,rfl⟩:=bc.mp hx
  have hi:=bj.mp hi
  refine aj ?_
  rw[jD2 (by omega),jD2 (by omega)]
  exact cx.mp h i (i+1) (by omega) (by omega) (by omega)
theorem jDD (n:Nat):(upto n).Nodup:=(jA5 n).ris.imp fun h=>by omega
theorem yU {w:Int}{ts:List Int}(h:ts.Pairwise (· < ·))(b:∀ z∈ts,0<=z/\z<w)(hw:w<=16):ts.length<=16:=by
 have:=jJ3 ts 0 w h b
 omega
theorem jS1 {ts:List Int}(h:ts.Pairwise (· < ·)){a b:Int}(ha:a∈ts)(hb:b∈ts)(hab:a<b):ts.idxOf a<ts.idxOf b:=by
 have ia:=cb.mpr ha
 have ib:=cb.mpr hb
 have ea:=cY ia
 have eb:=cY ib
 rcases Nat.lt_trichotomy (ts.idxOf a) (ts.idxOf b) with q | q | q
 ·exact q
 ·exfalso
  have e2:ts[ts.idxOf a]=ts[ts.idxOf b]:=by congr 1
  omega
 ·exfalso
  have:=cx.mp h _ _ ib ia q
  omega
theorem jGJ {ts lot:List Int}(h:ts.Pairwise (· < ·))(hl:lot.Pairwise (· < ·)):(plcs ts lot).Pairwise (· < ·):=by
 unfold plcs
 rw[dk]
 refine List.Pairwise.imp_of_mem (R:=fun a b=>a<b) (fun {a b} ha hb hab=>?_) (hl.sublist List.filter_sublist)
 have:=jS1 h (ai (bz.mp ha).2) (ai (bz.mp hb).2) hab
 omega
theorem jFI {ts lot:List Int}(h:ts.Pairwise (· < ·))(hl:lot.Pairwise (· < ·)):nmd ts lot=plcs ts lot:=jNI ((jGJ h hl).imp fun h=>by omega)
theorem jLL {ts lot:List Int}(h:∀ t∈lot,t∈ts):plcs ts lot=lot.map fun t=>((ts.idxOf t:Nat):Int):=by
 unfold plcs
 rw[fm.mpr fun t ht=>aj (h t ht)]
theorem mem_upto {n:Nat}{t:Int} :t∈upto n↔0<=t/\t<n:=by
 constructor
 ·exact fun h=>(jA5 n).bnd t h
 ·intro h
  unfold upto
  exact bc.mpr ⟨t.toNat,bj.mpr (by omega),by omega⟩
section
variable {S S':List Addr}{L:List TT}
end
end Eo
namespace L2
open PySem
theorem jNZ {X:Cx}{a b c:Expr}{pos:Pos}{ta tb:TE}{tc:TT}(hc:JT X c tc)(ha:JE X a ta)(hb:JE X b tb):JE X (.IfExp c a b pos) (tIf tc ta tb):=⟨jLU hc.h ha.h hb.h⟩
theorem jNG {a b c:Expr}{pos:Pos}{o:Option Expr} :SwOk (.IfExp c a b pos) o:=⟨fun _ _=>rfl⟩
theorem jOF {x:Str}{pos:Pos}{o:Option Expr} :SwOk (.Name x pos) o:=⟨fun _ _=>rfl⟩
end L2
namespace Eo
open PySem L2
abbrev natV (n:Nat):V:= .int (n:Int)
abbrev jNS:List Str:=["found"]
theorem scWhole:FnScope jNS ["found"] (j9 jCO):= {}
def jQ9 (T:Txt mg): { t:TS // JSs (XOf jNS "_law_whole" jCO P w K mg base f cdv A outer s H0 E) (jG jCO) t} :=
 have nd:=scWhole.nd
 ⟨_,(jC (jQ ((jBK (jH jX gD T.isinstance (by decide+kernel) (j4 (jv 0 rfl vL) (j4 (yF (v:= .ty "int") gD T.int (by decide+kernel) rfl) j7 j6) j6) j6) (jB3 (jKC (jH jX gD T.isinstance (by decide+kernel) (j4 (jv 0 rfl vL) (j4 (yF (v:= .ty "bool") gD T.bool (by decide+kernel) rfl) j7 j6) j6) j6)))))))⟩
theorem jLZ {fd:FuncData}(F:Fun K "_law_whole" "_law_whole" jCO f fd)(T:Txt mg):FnOk P w K mg base CX0 1 f fd ["found"] spWh:=by
 refine F.ok scWhole (fun vs H Q E h=>?_) (fun cdv A outer s H vs Q E hr h=>?_)
 ·obtain⟨_,_,rfl,_⟩:=h
  rfl
 ·obtain⟨v,o,rfl,hA,q⟩:=h
  obtain⟨t,ty,_,b1,b2,k1,k2,e⟩:=hA.ty K
  refine⟨_,(jQ9 T).2.h,?_⟩
  refine⟨_,rfl,_,_,_,b1,rfl,ty,k1,b1,rfl,?_⟩
  rw[<- e] at q
  cases b1 with
  | true=>exact iteT ⟨_,rfl,_,_,_,b2,rfl,ty,k2,b2,rfl,q⟩
  | false=>exact iteF q
noncomputable abbrev nUpto:List Str:=["thing","least","most"]
theorem scUpto:FnScope nUpto ["thing","least","most"] (j9 sUpto):= {}
def spUp:Sp:=fun vs H Q _=>∃ v o lo hi,vs=[v, .int lo, .int hi]/\At H o v/\Q (.bl (upB lo hi o)) H
def uptoA (T:Txt mg)(CW:Can P w K mg base "_law_whole" 1 fW fdW ["found"] spWh)(hr:Room 1 (XOf nUpto "_law_upto" sUpto P w K mg base f cdv A outer s H0 E).A): { t:TS // JSs (XOf nUpto "_law_upto" sUpto P w K mg base f cdv A outer s H0 E) (jG sUpto) t} :=
 have nd:=scUpto.nd
 ⟨_,(jC (jQ ((jBK (CW.je hr gD (j4 (jv 0 rfl vL) j7 j6) j6) (jB3 (jH2 op_le op_le (jv 1 rfl vL) (jv 0 rfl vL) (jv 2 rfl vL)))))))⟩
theorem jPC {fd:FuncData}(F:Fun K "_law_upto" "_law_upto" sUpto f fd)(T:Txt mg)(CW:Can P w K mg base "_law_whole" 1 fW fdW ["found"] spWh):FnOk P w K mg base CX0 2 f fd ["thing","least","most"] spUp:=by
 refine F.ok scUpto (fun vs H Q E h=>?_) (fun cdv A outer s H vs Q E hr h=>?_)
 ·obtain⟨_,_,_,_,rfl,_⟩:=h
  rfl
 ·obtain⟨v,o,lo,hi,rfl,hA,q⟩:=h
  refine⟨_,(uptoA T CW hr).2.h,?_⟩
  refine⟨_,rfl,v,o,rfl,hA,_,rfl,?_⟩
  cases o with
  | int i=>
   cases (show v= .int i from hA)
   refine iteT ⟨_,rfl,_,rfl,_,_,rfl,rfl,_,rfl,ite2 (fun hy=>?_) (fun hy=>?_)⟩
   ·refine⟨_,rfl,_,_,rfl,rfl,qb q ?_⟩
    have hy:lo<=i:=ai hy
    show (decide _&&decide _)=decide _
    rw[aj hy,eS]
   ·refine qb q ?_
    have hy:¬ lo<=i:=fun h=>hy (aj h)
    show (decide _&&decide _)=false
    rw[aw hy,cN]
  | oth=>exact iteF q
  | tup os=>exact iteF q
noncomputable abbrev nLotR:List Str:=["thing","wide"]
theorem scLotR:FnScope nLotR ["thing","wide"] (j9 sLotR):= {}
def lotRA (T:Txt mg)(CU:Can P w K mg base "_law_upto" 2 fU fdU ["thing","least","most"] spUp)(hr:Room 2 (XOf nLotR "_law_lot_right" sLotR P w K mg base f cdv A outer s H0 E).A): { t:TS // JSs (XOf nLotR "_law_lot_right" sLotR P w K mg base f cdv A outer s H0 E) (jG sLotR) t} :=
 have nd:=scLotR.nd
 ⟨_,(j8 (jR (jt_w (xD (yB (jZ (jH jX gD T.isinstance (by decide+kernel) (j4 (jv 0 rfl vL) (j4 (yF (v:= .ty "tuple") gD T.tuple (by decide+kernel) rfl) j7 j6) j6) j6) jU)) (qS (yB (jZ (jH (jAV rfl) gD T.all (by decide+kernel) (j4 (yE (m:=[none,some 1]) (Nc:=["one","wide"]) rfl (qT (jv 0 rfl vL)) rfl (by decide+kernel) (by decide+kernel) (kW (psc:=j9 sLotR)) (jW (N:=nLotR) rfl rfl (by decide+kernel)) (fun cl C fp s H=>kB (i:=0) (show (["one","wide"]:List Str).Nodup by decide+kernel) rfl qO) (fun cl C fp s H=>yV) (fun cl C fp s H=>(CU.je hr gl_b (j4 (jv 0 rfl kO) (j4 (jE) (j4 (yL qG (jv 1 rfl yI) (jE)) j7 kZ) jB) j6) j6)) jAN) j7 jV) jV) jU))))) (jC (jQ (qU))) jI)
   (jC (jQ (jH (jAV rfl) gD T.all (by decide+kernel) (j4 (yE (m:=[none,none]) (Nc:=["one","other"]) rfl (jNX gD T.zip (j4 (jv 0 rfl vL) (j4 (jDZ jFB (jv 0 rfl vL) (jDY (jE)) jFQ) j7 kT) j6) j6) rfl (by decide+kernel) (by decide+kernel) (kW (psc:=j9 sLotR)) (jW (N:=nLotR) rfl rfl (by decide+kernel)) (fun cl C fp s H=>jAT (i:=0) (j:=1) rfl (show (["one","other"]:List Str).Nodup by decide+kernel) rfl rfl (by decide+kernel) (by decide+kernel)) (fun cl C fp s H=>yV) (fun cl C fp s H=>(y0 op_lt (jv 0 rfl kO) (jv 1 rfl kO) (jL _))) qC) j7 jV) jV))))⟩
theorem jPJ {fd:FuncData}(F:Fun K "_law_lot_right" "_law_lot_right" sLotR f fd)(T:Txt mg)(CU:Can P w K mg base "_law_upto" 2 fU fdU ["thing","least","most"] spUp):FnOk P w K mg base CX0 3 f fd ["thing","wide"] (spB2 lotB):=by
 refine F.ok scLotR (fun vs H Q E h=>?_) (fun cdv A outer s H vs Q E hr h=>?_)
 ·obtain⟨_,_,_,rfl,_⟩:=h
  rfl
 ·obtain⟨v,o,w,rfl,hA,q⟩:=h
  obtain⟨t,ty,kt,_⟩:=hA.ty K
  refine⟨_,(lotRA T CU hr).2.h,?_⟩
  refine⟨_,rfl,_,_,_,_,rfl,ty,kt,_,rfl,?_⟩
  cases ht:isTup o with
  | false=>exact iteT (iteT (qb (q H (Ext.refl H)) (jPR ht)))
  | true=>
   refine iteF ?_
   obtain⟨os,a,vs,rfl,rfl,ha,h100,hx⟩:=hA.tupOf ht
   have hl:=hx.len
   have hn:vs.length<sizeLine:=by rw[aC]; omega
   refine⟨_,rfl,a,rfl,⟨_,SqT.of ha⟩,jEX (F:=upB 0 (w - 1)) ha hx hn (fun σ'=>∃ v,σ'=[v,some (.int w)]) ⟨_,rfl⟩ ?_ ?_⟩
   ·rintro σ' H' v o R S ⟨u,rfl⟩ e hA k
    dsimp only [kX,qI]
    rw[aB rfl]
    exact⟨_,rfl,_,rfl,_,_,rfl,rfl,v,o,0,w - 1,rfl,hA,k _ H' ⟨_,rfl⟩ (Ext.refl _)⟩
   ·intro D H1 e1 hD
    refine⟨D,_,rfl,SqL.of hD,_,rfl,?_⟩
    rw[jO6]
    cases hi:os.all (upB 0 (w - 1)) with
    | false=>
     refine iteT (qb (q H1 e1) ?_)
     show (os.all (upB 0 (w - 1))&&_)=false
     rw[hi]
     rfl
    | true=>
     refine iteF ?_
     have hint:os.all isInt=true:=by
      rw[aQ] at hi ⊢
      intro x hx
      have:=hi x hx
      cases x with
      | int i=>rfl
      | oth=>cases this
      | tup r=>cases this
     have hv:=hx.allInt hint
     have ha1:=e1 _ _ ha
     have hml:(os.map val).length=vs.length:=by rw[ag,hl]
     refine⟨_,rfl,_,rfl,1,rfl,a,_,rfl,ha1,fun r H2 hr2 e2=>?_⟩
     have ecut:cutV vs (some 1) none=vs.drop 1:=by
      unfold cutV
      have s1:HT.sIx vs.length 0 (some 1)=min 1 vs.length:=HT.sIx_nat _ _ 1
      rw[s1,HT.sIx_none]
      by_cases h1:vs.length=0
      ·have:vs=[]:=dU.mp h1
       subst this
       rfl
      ·rw[show min 1 vs.length=1 by omega]
       exact bx (by rw[cr]; omega)
     rw[ecut] at hr2
     refine⟨true,true,a,r,rfl,⟨_,SqT.of (e2 _ _ ha1)⟩,⟨_,SqT.of hr2⟩,jH9 (xs:=vs) (ys:=vs.drop 1) hn (fun D i σ' H' zs=>(∃ v1 v2,σ'=[v1,v2])/\zs=((adj (os.map val)).take i).map V.bl/\Ext H2 H'/\H' D=some (.lst zs)/\H2 D=none) ?_ ?_ ?_ ?_⟩
     ·intro D hD
      exact⟨⟨_,_,rfl⟩,rfl,(Ext.refl _).new hD _,jA,hD⟩
     ·rintro D i σ' H' zs hD ⟨_,rfl,ex,h2,_⟩
      refine⟨SqT.of (ex _ _ (e2 _ _ ha1)),SqT.of (ex _ _ hr2),h2,?_⟩
      rw[ag,bJ]
      omega
     ·rintro D i σ' H' zs x y t hD hx1 hy1 ht1 ⟨⟨v1,v2,rfl⟩,rfl,ex,h2,hn2⟩
      rw[ic,gw] at hy1
      have hlt:i+1<vs.length:=(ay.mp hy1).1
      rw[hv,getI (by omega)] at hx1 hy1
      cases hx1
      cases hy1
      have tD:D≠t:=jF h2 ht1
      refine⟨t,_,rfl,SqT.of jA,rfl,_,_,rfl,_,_,rfl,rfl,?_⟩
      dsimp only [kX,qI]
      rw[aB rfl]
      refine⟨_,rfl,_,rfl,_,_,rfl,rfl,by rw[jD tD]; exact h2,⟨_,_,rfl⟩,?_,(ex.new ht1 _).updNew hn2 _,jA,hn2⟩
      rw[jHD (by omega),aU]
      rfl
     ·rintro D2 σ' H' zs hD2 ⟨_,rfl,ex,h2,_⟩
      have hlen:min vs.length (vs.drop 1).length=(adj (os.map val)).length:=by
       rw[jL6,cr]
       omega
      rw[hlen,bM] at h2
      refine⟨D2,_,rfl,SqL.of h2,qb (q H' ((e1.trans e2).trans ex)) ?_⟩
      show (os.all (upB 0 (w - 1))&&_)=_
      rw[hi,eS]
end Eo
namespace L2
mutual
def wid:Tr->Nat
 | .lst ts=>max ts.length (wids ts)
 | .tup ts=>max ts.length (wids ts)
 | _=>0
def wids:List Tr->Nat
 | []=>0
 | t::ts=>max (wid t) (wids ts)
end
theorem jO7 {ts:List Tr}{t:Tr}(h:t∈ts):wid t<=wids ts:=by
 induction ts with
 | nil=>cases h
 | cons a r ih=>
  rw[wids]
  rcases am.mp h with q | q
  ·subst q; omega
  ·have:=ih q; omega
end L2
namespace Eo
open PySem L2
noncomputable abbrev nSame:List Str:=["found","due"]
theorem scSame:FnScope nSame ["found","due"] (j9 sSame):= {}
def jCM:Sp:=fun vs H Q _=>∃ i:Int,vs=[.int i]/\Q (.bl true) H
theorem jO8 {f:Addr}{fd:FuncData}(F:FnOk P w K mg base CX0 1 f fd ["found"] spWh):FnOk P w K mg base CX0 1 f fd ["found"] jCM:=F.imp fun vs H Q E ⟨i,e,q⟩=>⟨.int i, .int i,e,qM _ _,q⟩
def sameA {k:Nat}{spS:Sp}{f fW fS:Addr}{fdW fdS:FuncData}{cdv:Value}{A:Around}{outer:List Env}{s:Shared}{H:Hp}{E:XK}(T:Txt mg)(CW:Can P w K mg base "_law_whole" 1 fW fdW ["found"] jCM)(CS:Can P w K mg base "_law_same" (k+1) fS fdS ["found","due"] spS)
  (hr:Room (k+1) (XOf nSame "_law_same" sSame P w K mg base f cdv A outer s H E).A): { t:TS // JSs (XOf nSame "_law_same" sSame P w K mg base f cdv A outer s H E) (jG sSame) t} :=
 have nd:=scSame.nd
 ⟨_,(j8 (jR (jN jJG (jv 1 rfl vL) (y6) (jL _)) (jC (jQ (y0 jJG (jv 0 rfl vL) (y6) (jL _)))) jI)
   (j8 (jR (jZ (jH jX gD T.isinstance (by decide+kernel) (j4 (jv 1 rfl vL) (j4 (yF (v:= .ty "bool") gD T.bool (by decide+kernel) rfl) j7 j6) j6) j6) jU) (jC (jQ ((jBK (jH jX gD T.isinstance (by decide+kernel) (j4 (jv 0 rfl vL) (j4 (yF (v:= .ty "bool") gD T.bool (by decide+kernel) rfl) j7 j6) j6) j6) (jB3 (y0 yA (jv 0 rfl vL) (jv 1 rfl vL) (jL _))))))) jI)
   (j8 (jR (jZ (jH jX gD T.isinstance (by decide+kernel) (j4 (jv 1 rfl vL) (j4 (yF (v:= .ty "int") gD T.int (by decide+kernel) rfl) j7 j6) j6) j6) jU) (jC (jQ ((jBK (CW.je (hr.mono (by omega)) gD (j4 (jv 0 rfl vL) j7 j6) j6) (jB3 (y0 yA (jv 0 rfl vL) (jv 1 rfl vL) (jL _))))))) jI)
   (j8 (jR (jZ (jH jX gD T.isinstance (by decide+kernel) (j4 (jv 1 rfl vL) (j4 (yF (v:= .ty "str") gD T.str (by decide+kernel) rfl) j7 j6) j6) j6) jU) (jC (jQ ((jBK (jH jX gD T.isinstance (by decide+kernel) (j4 (jv 0 rfl vL) (j4 (yF (v:= .ty "str") gD T.str (by decide+kernel) rfl) j7 j6) j6) j6) (jB3 (y0 yA (jv 0 rfl vL) (jv 1 rfl vL) (jL _))))))) jI)
   (j8 (jR (jt_w (xD (jN op_ne (jH jX gD T.isinstance (by decide+kernel) (j4 (jv 1 rfl vL) (j4 (yF (v:= .ty "tuple") gD T.tuple (by decide+kernel) rfl) j7 j6) j6) j6) (jH jX gD T.isinstance (by decide+kernel) (j4 (jv 0 rfl vL) (j4 (yF (v:= .ty "tuple") gD T.tuple (by decide+kernel) rfl) j7 j6) j6) j6) (jL _)) (qS (jN op_ne (jH jX gD T.isinstance (by decide+kernel) (j4 (jv 1 rfl vL) (j4 (yF (v:= .ty "list") gD T.list (by decide+kernel) rfl) j7 j6) j6) j6) (jH jX gD T.isinstance (by decide+kernel) (j4 (jv 0 rfl vL) (j4 (yF (v:= .ty "list") gD T.list (by decide+kernel) rfl) j7 j6) j6) j6) (jL _))))) (jC (jQ (qU))) jI)
   (jC (jQ ((jBK (y0 yA (jH jJ gD T.len (by decide+kernel) (j4 (jv 0 rfl vL) j7 j6) j6) (jH jJ gD T.len (by decide+kernel) (j4 (jv 1 rfl vL) j7 j6) j6) (jL _)) (jB3 (jH (jAV rfl) gD T.all (by decide+kernel) (j4 (yE (m:=[none,none]) (Nc:=["one","other"]) rfl (jNX gD T.zip (j4 (jv 0 rfl vL) (j4 (jv 1 rfl vL) j7 j6) j6) j6) rfl (by decide+kernel) (by decide+kernel) (kW (psc:=j9 sSame)) (jW (N:=nSame) rfl rfl (by decide+kernel)) (fun cl C fp s H=>jAT (i:=0) (j:=1) rfl (show (["one","other"]:List Str).Nodup by decide+kernel) rfl rfl (by decide+kernel) (by decide+kernel)) (fun cl C fp s H=>yV) (fun cl C fp s H=>(CS.je hr gl_b (j4 (jv 0 rfl kO) (j4 (jv 1 rfl kO) j7 j6) j6) j6)) qC) j7 jV) jV)))))))))))⟩
def spNo:Sp:=fun _ _ _ _=>False
theorem ok_no {k:Nat}{f:Addr}{fd:FuncData}{ps:List Str} :FnOk P w K mg base CX0 k f fd ps spNo:=⟨fun _ _ _ _ h=>h.elim,fun _ _ _ _ _ _ _ _ _ _ _ _ _ h=>h.elim⟩
def jCN (d:Nat):Sp:=fun vs H Q _=>∃ (x y:V) (t:Tr),vs=[x,y]/\TAt H t x/\TAt H t y/\dep t<=d/\wid t<=1000000/\∀ H',Ext H H'->Q (.bl true) H'
def jNM:Nat->Sp
 | 0=>spNo
 | d+1=>jCN d
theorem jN5 (n:Nat):(replicate n true).all id=true:=by
 induction n with
 | zero=>rfl
 | succ n ih=>rw[cm,dL,ih]; rfl
theorem jGF (d:Nat)(tp:Bool){H:Hp}{p q:Addr}{ts:List Tr}{vs ws:List V}{Q:VK}
  (hp:Sq tp K H p vs) (hq:Sq tp K H q ws) (ex:∀ H',Ext H H'->Sq tp K H' p vs/\Sq tp K H' q ws) (h1:TsAt H ts vs) (h2:TsAt H ts ws) (hd:deps ts<d) (hw:ts.length<=1000000) (hws:wids ts<=1000000) (k:∀ H',Ext H H'->Q (.bl true) H') {m:List (Option Nat)}{σ:St}
  (hm:m=[none,none]):
  qZ m (gTup K 2 (qP (kX 0) (qP (kX 1) gNil))) qI (tCall (jNM d) [] E0 (tCons (tVar 0) (tCons (tVar 1) tNil))) σ (fun x H1=>∃ (p:Addr) (bs:List Bool),[x]=[.ref p]/\SqL K H1 p (bs.map V.bl)/\Q (.bl (bs.all id)) H1) (Itz tp tp K p q) H:=by
 subst hm
 have l1:=h1.len
 have l2:=h2.len
 refine jH9 (xs:=vs) (ys:=ws) (by rw[aC]; omega) (fun D i σ' H' zs=>(∃ v1 v2,σ'=[v1,v2])/\zs=(replicate i true).map V.bl/\Ext H H'/\H' D=some (.lst zs)/\H D=none) ?_ ?_ ?_ ?_
 ·intro D hD
  exact⟨⟨_,_,rfl⟩,rfl,(Ext.refl H).new hD _,jA,hD⟩
 ·rintro D i σ' H' zs hD ⟨_,rfl,e,e2,_⟩
  obtain⟨q1,q2⟩:=ex H' e
  refine⟨q1,q2,e2,?_⟩
  rw[ag,eF]
  exact aq _
 ·rintro D i σ' H' zs x y t hD hx hy ht ⟨⟨v1,v2,rfl⟩,rfl,e,e2,hn⟩
  obtain⟨u,hu,hxu⟩:=h1.get hx
  obtain⟨u',hu',hyu⟩:=h2.get hy
  rw[hu] at hu'
  cases hu'
  have tD:D≠t:=jF e2 ht
  have hmem:=aP hu
  have e3:Ext H (upd H' t (.tup [x,y])):=e.new ht _
  refine⟨t,_,rfl,SqT.of jA,rfl,_,_,rfl,_,_,rfl,rfl,?_⟩
  dsimp only [kX,qI]
  rw[aB rfl]
  cases d with
  | zero=>omega
  | succ d=>
   refine⟨_,rfl,_,rfl,x,y,u,rfl,hxu.ext e3,hyu.ext e3,by have:=jQ2 hmem; omega,by have:=jO7 hmem; omega,fun H4 e4=>⟨e4 _ _ (by rw[jD tD]; exact e2),⟨_,_,rfl⟩,?_,(e3.trans e4).updNew hn _,jA,hn⟩⟩
   rw[List.replicate_succ',aU]
   rfl
 ·rintro D σ' H' zs hD ⟨_,rfl,e,e2,hn⟩
  refine⟨D,_,rfl,SqL.of e2,?_⟩
  rw[jN5]
  exact k H' e
theorem jEG {f fW:Addr}{fd fdW:FuncData}(d:Nat)(F:Fun K "_law_same" "_law_same" sSame f fd)(T:Txt mg)(CW:Can P w K mg base "_law_whole" 1 fW fdW ["found"] jCM)(CS:Can P w K mg base "_law_same" (d+1) f fd ["found","due"] (jNM d)):
  FnOk P w K mg base CX0 (d+2) f fd ["found","due"] (jCN d):=by
 refine F.ok scSame (fun vs H Q E h=>?_) (fun cdv A outer s H vs Q E hr h=>?_)
 ·obtain⟨_,_,_,rfl,_⟩:=h
  rfl
 ·obtain⟨x,y,t,rfl,hx,hy,hd,hw,k⟩:=h
  refine⟨_,(sameA T CW CS hr).2.h,?_⟩
  have k0:=k H (Ext.refl H)
  cases t with
  | non=>
   cases (show x= .non from hx)
   cases (show y= .non from hy)
   exact⟨_,rfl,rfl,_,rfl,iteT ⟨_,rfl,rfl,k0⟩⟩
  | bl b=>
   cases (show x= .bl b from hx)
   cases (show y= .bl b from hy)
   refine⟨_,rfl,rfl,_,rfl,iteF ?_⟩
   refine⟨_,rfl,_,_,_,true,rfl, .bl b,rfl,true,rfl,iteT ?_⟩
   refine⟨_,rfl,_,_,_,true,rfl, .bl b,rfl,true,rfl,iteT ⟨_,rfl,_,rfl,rfl,?_⟩⟩
   show Q (.bl (decide (V.bl b=V.bl b))) H
   rw[aj rfl]
   exact k0
  | int i=>
   cases (show x= .int i from hx)
   cases (show y= .int i from hy)
   refine⟨_,rfl,rfl,_,rfl,iteF ?_⟩
   refine⟨_,rfl,_,_,_,false,rfl, .int i,rfl,false,rfl,iteF ?_⟩
   refine⟨_,rfl,_,_,_,true,rfl, .int i,rfl,true,rfl,iteT ?_⟩
   refine⟨_,rfl,_,rfl,true,rfl,iteT ⟨_,rfl,_,rfl,rfl,?_⟩⟩
   show Q (.bl (decide (V.int i=V.int i))) H
   rw[aj rfl]
   exact k0
  | str z=>
   cases (show x= .str z from hx)
   cases (show y= .str z from hy)
   refine⟨_,rfl,rfl,_,rfl,iteF ?_⟩
   refine⟨_,rfl,_,_,_,false,rfl, .str z,rfl,false,rfl,iteF ?_⟩
   refine⟨_,rfl,_,_,_,false,rfl, .str z,rfl,false,rfl,iteF ?_⟩
   refine⟨_,rfl,_,_,_,true,rfl, .str z,rfl,true,rfl,iteT ?_⟩
   refine⟨_,rfl,_,_,_,true,rfl, .str z,rfl,true,rfl,iteT ⟨_,rfl,_,rfl,rfl,?_⟩⟩
   show Q (.bl (decide (V.str z=V.str z))) H
   rw[aj rfl]
   exact k0
  | lst ts=>
   obtain⟨p,vs,rfl,hp,h1⟩:=hx
   obtain⟨q,ws,rfl,hq,h2⟩:=hy
   rw[dep] at hd
   rw[wid] at hw
   refine⟨_,rfl,rfl,_,rfl,iteF ?_⟩
   refine⟨_,rfl,_,_,_,false,rfl, .lst hq,rfl,false,rfl,iteF ?_⟩
   refine⟨_,rfl,_,_,_,false,rfl, .lst hq,rfl,false,rfl,iteF ?_⟩
   refine⟨_,rfl,_,_,_,false,rfl, .lst hq,rfl,false,rfl,iteF ?_⟩
   refine⟨_,rfl,_,_,_,false,rfl, .lst hq,rfl,_,rfl,_,_,_,false,rfl, .lst hp,rfl,rfl,_,rfl,iteF ?_⟩
   refine⟨_,rfl,_,_,_,true,rfl, .lst hq,rfl,_,rfl,_,_,_,true,rfl, .lst hp,rfl,rfl,_,rfl,iteF ?_⟩
   refine⟨_,rfl,p,_,rfl, .inl (SqL.of hp),_,rfl,q,_,rfl, .inl (SqL.of hq),rfl,_,rfl,?_⟩
   rw[show (vs.length:Int)=(ws.length:Int) by rw[h1.len,h2.len],aj rfl]
   refine iteT ⟨_,rfl,_,rfl,false,false,p,q,rfl,⟨_,SqL.of hp⟩,⟨_,SqL.of hq⟩,?_⟩
   exact jGF d false (SqL.of hp) (SqL.of hq) (fun H' e=>⟨SqL.of (e _ _ hp),SqL.of (e _ _ hq)⟩) h1 h2 (by omega) (by omega) (by omega) k rfl
  | tup ts=>
   obtain⟨p,vs,rfl,hp,h1⟩:=hx
   obtain⟨q,ws,rfl,hq,h2⟩:=hy
   rw[dep] at hd
   rw[wid] at hw
   refine⟨_,rfl,rfl,_,rfl,iteF ?_⟩
   refine⟨_,rfl,_,_,_,false,rfl, .tup hq,rfl,false,rfl,iteF ?_⟩
   refine⟨_,rfl,_,_,_,false,rfl, .tup hq,rfl,false,rfl,iteF ?_⟩
   refine⟨_,rfl,_,_,_,false,rfl, .tup hq,rfl,false,rfl,iteF ?_⟩
   refine⟨_,rfl,_,_,_,true,rfl, .tup hq,rfl,_,rfl,_,_,_,true,rfl, .tup hp,rfl,rfl,_,rfl,iteF ?_⟩
   refine⟨_,rfl,_,_,_,false,rfl, .tup hq,rfl,_,rfl,_,_,_,false,rfl, .tup hp,rfl,rfl,_,rfl,iteF ?_⟩
   refine⟨_,rfl,p,_,rfl, .inr (SqT.of hp),_,rfl,q,_,rfl, .inr (SqT.of hq),rfl,_,rfl,?_⟩
   rw[show (vs.length:Int)=(ws.length:Int) by rw[h1.len,h2.len],aj rfl]
   refine iteT ⟨_,rfl,_,rfl,true,true,p,q,rfl,⟨_,SqT.of hp⟩,⟨_,SqT.of hq⟩,?_⟩
   exact jGF d true (SqT.of hp) (SqT.of hq) (fun H' e=>⟨SqT.of (e _ _ hp),SqT.of (e _ _ hq)⟩) h1 h2 (by omega) (by omega) (by omega) k rfl
theorem jGN {f fW:Addr}{fd fdW:FuncData}(F:Fun K "_law_same" "_law_same" sSame f fd)(T:Txt mg)(CW:Can P w K mg base "_law_whole" 1 fW fdW ["found"] jCM)(hm:mg "_law_same" =some (.ref f))(kp:keepIn K (.ref f)=true)(hb:Binds K fd ["found","due"] []):
  ∀ d:Nat,FnOk P w K mg base CX0 (d+2) f fd ["found","due"] (jCN d)
 | 0=>jEG 0 F T CW ⟨ok_no,hm,kp,hb⟩
 | d+1=>jEG (d+1) F T CW ⟨jGN F T CW hm kp hb d,hm,kp,hb⟩
abbrev Bx:=Int×List Int×List (List Int×Int)
abbrev BxB (H:Hp)(q:Addr)(x:Bx):Prop:=BoxAt H q x.1 x.2.1 x.2.2
def BxAt (H:Hp)(v:V)(x:Bx):Prop:=∃ q,v= .ref q/\BxB H q x
theorem BxAt.mono {H H':Hp}(tu:Tups H H'){v:V}{x:Bx}(h:BxAt H v x):BxAt H' v x:=let ⟨q,e,b⟩:=h; ⟨q,e,b.mono tu⟩
structure ShopAt (C:Addr)(H:Hp)(sh l:Addr)(x:Bx)(hs:List Bx):Prop where
 ex:∃ dx b us,H sh=some (.ins C dx [("kept", .ref b),("earlier", .ref l)])/\BxB H b x/\H l=some (.lst us)/\All2 (BxAt H) us hs
def Fr2 (sh l:Addr)(H H':Hp):Prop:=∀ c o,H c=some o->c≠sh->c≠l->H' c=some o
theorem Fr2.trans (a:Fr2 sh l H H')(b:Fr2 sh l H' H''):Fr2 sh l H H'':=fun c o h m n=>b c o (a c o h m n) m n
theorem Fr2.of (e:Ext H H'):Fr2 sh l H H':=fun c o h _ _=>e c o h
theorem Fr2.tups (f:Fr2 sh l H H')(s:ShopAt C H sh l x hs):Tups H H':=fun c xs h=>by
 obtain⟨dx,b,us,h1,_,h2,_⟩:=s.ex
 exact f c _ h (fun z=>by rw[z,h1] at h; cases h) fun z=>by rw[z,h2] at h; cases h
theorem ShopAt.keep (s:ShopAt C H sh l x hs)(k1:∀ o,H sh=some o->H' sh=some o)(k2:∀ o,H l=some o->H' l=some o)(tu:Tups H H'):ShopAt C H' sh l x hs:=by
 obtain⟨dx,b,us,h1,h2,h3,h4⟩:=s.ex
 exact⟨dx,b,us,k1 _ h1,h2.mono tu,k2 _ h3,All2.imp (fun _ _=>BxAt.mono tu) h4⟩
theorem ShopAt.ext (s:ShopAt C H sh l x hs)(e:Ext H H'):ShopAt C H' sh l x hs:=s.keep (fun o=>e _ o) (fun o=>e _ o) e.tups
theorem ShopAt.ne (s:ShopAt C H sh l x hs):sh≠l:=fun z=>by
 obtain⟨dx,b,us,h1,_,h3,_⟩:=s.ex
 rw[z,h3] at h1
 cases h1
theorem ShopAt.put (s:ShopAt C H sh l x hs){dx b b':Addr}{us:List V}{x':Bx}(h1:H sh=some (.ins C dx [("kept", .ref b),("earlier", .ref l)]))(hb:BxB H b x)(h3:H l=some (.lst us))(h4:All2 (BxAt H) us hs)(hb':BxB H b' x'):
  ShopAt C (L2.upd (L2.upd H l (.lst (us++[.ref b]))) sh (.ins C dx [("kept", .ref b'),("earlier", .ref l)])) sh l x' (hs++[x])/\Fr2 sh l H (L2.upd (L2.upd H l (.lst (us++[.ref b]))) sh (.ins C dx [("kept", .ref b'),("earlier", .ref l)])):=by
 have ne:=s.ne
 have f:Fr2 sh l H (L2.upd (L2.upd H l (.lst (us++[.ref b]))) sh (.ins C dx [("kept", .ref b'),("earlier", .ref l)])):=fun c o h m n=>by rw[jD m,jD n]; exact h
 have tu:=f.tups s
 refine⟨⟨dx,b',us++[.ref b],jA,hb'.mono tu,by rw[jD (bo ne)]; exact jA,?_⟩,f⟩
 have e:All2 (BxAt H) (us++[V.ref b]) (hs++[x]):=by
  clear f tu hb' h1 h3 s ne
  induction us generalizing hs with
  | nil=>cases hs with
   | nil=>exact⟨⟨b,rfl,hb⟩,trivial⟩
   | cons _ _=>exact h4.elim
  | cons u us ih=>cases hs with
   | nil=>exact h4.elim
   | cons y hs=>exact⟨h4.1,ih h4.2⟩
 exact All2.imp (fun _ _=>BxAt.mono tu) e
theorem TabOk.keepO {H H':Hp}{T:Addr}{p:Pos}{q:Str}(t:TabOk H T p q)(k:∀ c o,H c=some o->(∀ xs,o≠ .lst xs)->(∀ C dx fs,o≠ .ins C dx fs)->H' c=some o):TabOk H' T p q:=by
 rcases t with h | ⟨c,h,h2⟩
 ·exact .inl (k _ _ h (by intro _ z; cases z) (by intro _ _ _ z; cases z))
 ·exact .inr ⟨c,k _ _ h (by intro _ z; cases z) (by intro _ _ _ z; cases z),k _ _ h2 (by intro _ z; cases z) (by intro _ _ _ z; cases z)⟩
theorem Fr2.other {C sh l:Addr}{H H':Hp}{x:Bx}{hs:List Bx}(f:Fr2 sh l H H')(S:ShopAt C H sh l x hs):∀ c o,H c=some o->(∀ xs,o≠ .lst xs)->(∀ C dx fs,o≠ .ins C dx fs)->H' c=some o:=fun c o h n1 n2=>by
 obtain⟨dx,b,us,h1,_,h2,_⟩:=S.ex
 exact f c _ h (fun z=>by rw[z,h1] at h; cases h; exact n2 _ _ _ rfl) fun z=>by rw[z,h2] at h; cases h; exact n1 _ rfl
theorem ShopAt.extT {C sh l T:Addr}{p:Pos}{q:Str}{H H':Hp}{x:Bx}{hs:List Bx}(S:ShopAt C H sh l x hs)(t:TabOk H T p q)(e:ExtT T H H'):ShopAt C H' sh l x hs:=by
 obtain⟨dx,b,us,h1,_,h2,_⟩:=id S.ex
 refine S.keep (fun o h=>e _ _ h (t.ne h1 (by intro _ z; cases z))) (fun o h=>e _ _ h (t.ne h2 (by intro _ z; cases z))) fun c xs h=>e _ _ h (t.ne h (by intro _ z; cases z))
structure ShopK (K:W.Frag)(C:Addr):Prop where
 cl:Cls K C
 nk:NoAttr K C "kept"
 ne:NoAttr K C "earlier"
noncomputable abbrev nSelf:List Str:=["self"]
noncomputable abbrev nInit:List Str:=["self"]
theorem scInit:FnScope nInit ["self"] (j9 sInit):= {}
def jIW (C:Addr):Sp:=fun vs H Q _=>∃ (sh dx:Addr),vs=[.ref sh]/\H sh=some (.ins C dx [])/\∀ l H',ShopAt C H' sh l (0,[],[]) []->H l=none->(∀ c o,H c=some o->c≠sh->H' c=some o)->Q .non H'
def initA (hr:Room 1 (XOf nInit "Shop.__init__" sInit P w K mg base f cdv A outer s H0 E).A): { t:TS // JSs (XOf nInit "Shop.__init__" sInit P w K mg base f cdv A outer s H0 E) (jG sInit) t} :=
 have nd:=scInit.nd
 ⟨_,(j8 (jGY (jv 0 rfl vL) (jM (j4 (jE) (j4 (jM j7) (j4 (jM j7) j7 jS) jS) jB)) jNF)
   (jC (jGY (jv 0 rfl vL) (kN j7) jG2)))⟩
theorem jPK {fd:FuncData}(F:Fun K "__init__" "Shop.__init__" sInit f fd)(SK:ShopK K C):FnOk P w K mg base CX0 2 f fd ["self"] (jIW C):=by
 refine F.ok scInit (fun vs H Q E h=>?_) (fun cdv A outer s H vs Q E hr h=>?_)
 ·obtain⟨_,_,rfl,_⟩:=h
  rfl
 ·obtain⟨sh,dx,rfl,h1,q⟩:=h
  refine⟨_,(initA hr).2.h,?_⟩
  refine⟨by show (0:Nat)<=_; decide,fun q1 H1 d1 e1=>?_⟩
  refine⟨by show (0:Nat)<=_; decide,fun q2 H2 d2 e2=>?_⟩
  refine⟨by show (3:Nat)<=_; decide,fun b H3 d3 e3=>?_⟩
  have E3:=(e1.trans e2).trans e3
  refine⟨_,rfl,sh,C,dx,_,rfl,E3 _ _ h1,SK.cl,SK.nk,by decide,?_⟩
  have k4:∀ c o,H3 c=some o->c≠sh->(L2.upd H3 sh (.ins C dx (putF "kept" (.ref b) []))) c=some o:=fun c o h n=>by rw[jD n]; exact h
  have s4:(L2.upd H3 sh (.ins C dx (putF "kept" (.ref b) []))) sh=some (.ins C dx [("kept", .ref b)]):=jA
  generalize L2.upd H3 sh (.ins C dx (putF "kept" (.ref b) []))=H4 at k4 s4
  refine⟨by show (0:Nat)<=_; decide,fun l H5 d5 e5 n5=>?_⟩
  refine⟨_,rfl,sh,C,dx,_,rfl,e5 _ _ s4,SK.cl,SK.ne,by show (1:Nat)<1000; decide,?_⟩
  have k6:∀ c o,H5 c=some o->c≠sh->(L2.upd H5 sh (.ins C dx (putF "earlier" (.ref l) [("kept", .ref b)]))) c=some o:=fun c o h n=>by rw[jD n]; exact h
  have s6:(L2.upd H5 sh (.ins C dx (putF "earlier" (.ref l) [("kept", .ref b)]))) sh=some (.ins C dx [("kept", .ref b),("earlier", .ref l)]):=jA
  generalize L2.upd H5 sh (.ins C dx (putF "earlier" (.ref l) [("kept", .ref b)]))=H6 at k6 s6
  have ls:l≠sh:=fun z=>by rw[z,s4] at n5; cases n5
  have K:∀ c o,H3 c=some o->c≠sh->H6 c=some o:=fun c o h n=>k6 _ _ (e5 _ _ (k4 _ _ h n)) n
  have nsh:∀ {c:Addr}{xs:List V},H3 c=some (.tup xs)->c≠sh:=fun h z=>by rw[z,E3 _ _ h1] at h; cases h
  refine q l H6 ⟨dx,b,[],s6,⟨q1,q2,[],K _ _ d3 (nsh d3),K _ _ (e3 _ _ (e2 _ _ d1)) (nsh (e3 _ _ (e2 _ _ d1))),K _ _ (e3 _ _ d2) (nsh (e3 _ _ d2)),trivial⟩,k6 _ _ d5 ls,trivial⟩ ?_ fun c o h n=>K _ _ (E3 _ _ h) n
  cases z:H l with
  | none=>rfl
  | some o=>rw[k4 _ _ (E3 _ _ z) ls] at n5; cases n5
abbrev jFL:List Str:=["self","changed"]
theorem scBecome:FnScope jFL ["self","changed"] (j9 jAD):= {}
def yJ (C:Addr):Sp:=fun vs H Q _=>∃ (sh l b:Addr) (x x':Bx) (hs:List Bx),vs=[.ref sh, .ref b]/\ShopAt C H sh l x hs/\BxB H b x'/\hs.length<=1000/\∀ H',ShopAt C H' sh l x' (hs++[x])->Fr2 sh l H H'->Q .non H'
def jQ4 (hr:Room 1 (XOf jFL "Shop.become" jAD P w K mg base f cdv A outer s H0 E).A): { t:TS // JSs (XOf jFL "Shop.become" jAD P w K mg base f cdv A outer s H0 E) (jG jAD) t} :=
 have nd:=scBecome.nd
 ⟨_,(j8 (yN (je_bm bg cJ cK jAS (kD (jv 0 rfl vL)) (j4 (kD (jv 0 rfl vL)) j7 jAB) jAB) kI)
   (jC (jGY (jv 0 rfl vL) (jv 1 rfl vL) jOF)))⟩
theorem jJP {fd:FuncData}(F:Fun K "become" "Shop.become" jAD f fd)(SK:ShopK K C):FnOk P w K mg base CX0 2 f fd ["self","changed"] (yJ C):=by
 refine F.ok scBecome (fun vs H Q E h=>?_) (fun cdv A outer s H vs Q E hr h=>?_)
 ·obtain⟨_,_,_,_,_,_,rfl,_⟩:=h
  rfl
 ·obtain⟨sh,l,b',x,x',hs,rfl,S,hb',hl,q⟩:=h
  refine⟨_,(jQ4 hr).2.h,?_⟩
  obtain⟨dx,b,us,h1,h2,h3,h4⟩:=id S.ex
  have ul:=h4.len
  have ne:=S.ne
  refine⟨_,rfl,sh,C,dx,_,_,rfl,h1,SK.cl,SK.ne,rfl, .inl ⟨rfl,_,SqL.of h3⟩,_,rfl,sh,C,dx,_,_,rfl,h1,SK.cl,SK.nk,rfl,l,us,_,rfl,rfl,h3,by rw[aC]; omega,?_⟩
  obtain⟨s1,s2⟩:=S.put h1 h2 h3 h4 hb'
  exact⟨_,rfl,_,rfl,sh,C,dx,[("kept", .ref b),("earlier", .ref l)],rfl,by rw[jD ne]; exact h1,SK.cl,SK.nk,by show (2:Nat)<1000; decide,q _ s1 s2⟩
noncomputable abbrev nPutT:List Str:=["self","must","thing","mays"]
theorem scPutT:FnScope nPutT ["self","must"] (j9 qX):= {}
def jNK (C:Addr):Sp:=fun vs H Q _=>∃ (sh l:Addr) (m:Bool) (wi:Int) (ms:List Int) (ip:List (List Int×Int)) (hs:List Bx),vs=[.ref sh, .bl m]/\ShopAt C H sh l (wi,ms,ip) hs/\wi<16/\ms.length<=1000/\hs.length<=1000/\∀ H',ShopAt C H' sh l (wi+1,if m=true then ms else ms++[wi],ip) (hs++[(wi,ms,ip)])->Fr2 sh l H H'->Q (.int wi) H'
def putTA (CB:CanM P w K mg base C "become" 2 fB fdB ["self","changed"] (yJ C))(M16:mg "MOST_THINGS" =some (.int 16 u1))(hr:Room 2 (XOf nPutT "Shop.put_thing" qX P w K mg base f cdv A outer s H0 E).A): { t:TS // JSs (XOf nPutT "Shop.put_thing" qX P w K mg base f cdv A outer s H0 E) (jG qX) t} :=
 have nd:=scPutT.nd
 ⟨_,(j8 (kP (i:=2) nd rfl lL (jT kR (kD (jv 0 rfl vL)) (jE) jO) qF)
   (j8 (jR (jN op_ge (jv 2 rfl vL) (yG (v:= .int 16) gD M16 ⟨_,rfl⟩) (jL _)) (jC (kQ)) jI)
   (j8 (kP (i:=3) nd rfl lL (jNZ (jZ (jv 1 rfl vL) jBP) (jT kR (kD (jv 0 rfl vL)) (jE) jO) (yL jAR (jT kR (kD (jv 0 rfl vL)) (jE) jO) (jM (j4 (jv 2 rfl vL) j7 j6)))) jNG)
   (j8 (yN (CB.je hr (jv 0 rfl vL) (j4 (jM (j4 (yL yW (jv 2 rfl vL) (jE)) (j4 (jv 3 rfl vL) (j4 (jT kR (kD (jv 0 rfl vL)) (jE) jO) j7 kT) j6) kZ)) j7 jS) jS) kI)
   (jC (jQ (jv 2 rfl vL)))))))⟩
theorem jPG {fd:FuncData}(F:Fun K "put_thing" "Shop.put_thing" qX f fd)(SK:ShopK K C)(CB:CanM P w K mg base C "become" 2 fB fdB ["self","changed"] (yJ C))(M16:mg "MOST_THINGS" =some (.int 16 u1)):FnOk P w K mg base CX0 3 f fd ["self","must"] (jNK C):=by
 refine F.ok scPutT (fun vs H Q E h=>?_) (fun cdv A outer s H vs Q E hr h=>?_)
 ·obtain⟨_,_,_,_,_,_,_,rfl,_⟩:=h
  rfl
 ·obtain⟨sh,l,m,wi,ms,ip,hs,rfl,S,w16,ml,hl,q⟩:=h
  refine⟨_,(putTA CB M16 hr).2.h,?_⟩
  obtain⟨dx,b,us,h1,h2,h3,h4⟩:=id S.ex
  obtain⟨qm,qp,ps,b1,b2,b3,b4⟩:=id h2.ex
  have b1:H b=some (.tup [.int wi, .ref qm, .ref qp]):=b1
  have b2:H qm=some (.tup (ms.map V.int)):=b2
  have b4:PcsAt H ps ip:=b4
  refine⟨_,rfl,sh,C,dx,_,_,rfl,h1,SK.cl,SK.nk,rfl,b,_,0,_,rfl,rfl,SqT.of b1,rfl,?_⟩
  refine⟨_,rfl,_,_,rfl,rfl,_,rfl,iteN (aw (by omega)) ?_⟩
  have fin:∀ (r:Addr) (ms':List Int) (H1:Hp),H1 r=some (.tup (ms'.map V.int))->Ext H H1->∀ (b':Addr) (H2:Hp),H2 b'=some (.tup [.int (wi+1), .ref r, .ref qp])->Ext H1 H2->BxB H2 b' (wi+1,ms',ip):=fun r ms' H1 d1 e1 b' H2 d2 e2=>⟨r,qp,ps,d2,e2 _ _ d1,(e1.trans e2) _ _ b3,b4.mono (e1.trans e2).tups⟩
  cases m with
  | true=>
   refine⟨_,rfl,true,rfl,iteT ?_⟩
   refine⟨_,rfl,sh,C,dx,_,_,rfl,h1,SK.cl,SK.nk,rfl,b,_,1,_,rfl,rfl,SqT.of b1,rfl,?_⟩
   refine⟨_,rfl,sh,dx,_,rfl,h1,rfl,_,rfl,_,_,rfl,rfl,_,rfl,_,rfl,sh,C,dx,_,_,rfl,h1,SK.cl,SK.nk,rfl,b,_,2,_,rfl,rfl,SqT.of b1,rfl,by show (3:Nat)<=_; decide,fun b' H2 d2 e2=>?_⟩
   exact⟨sh,l,b',_,_,hs,rfl,S.ext e2,fin qm ms H b2 (Ext.refl _) b' H2 d2 e2,hl,fun H3 S3 f3=>⟨_,rfl,q H3 S3 ((Fr2.of e2).trans f3)⟩⟩
  | false=>
   refine⟨_,rfl,false,rfl,iteF ?_⟩
   refine⟨_,rfl,sh,C,dx,_,_,rfl,h1,SK.cl,SK.nk,rfl,b,_,1,_,rfl,rfl,SqT.of b1,rfl,?_⟩
   refine⟨_,rfl,by show (1:Nat)<=_; decide,fun q1 H1 d1 e1=>?_⟩
   refine⟨qm,q1,_,_,rfl,rfl,e1 _ _ b2,d1,by rw[ag,aC]; show _+1<=_; omega,fun r H2 d2 e2=>?_⟩
   have E2:=e1.trans e2
   have d2':H2 r=some (.tup ((ms++[wi]).map V.int)):=by rw[d2,aU]; rfl
   refine⟨_,rfl,sh,dx,_,rfl,E2 _ _ h1,rfl,_,rfl,_,_,rfl,rfl,_,rfl,_,rfl,sh,C,dx,_,_,rfl,E2 _ _ h1,SK.cl,SK.nk,rfl,b,_,2,_,rfl,rfl,SqT.of (E2 _ _ b1),rfl,by show (3:Nat)<=_; decide,fun b' H3 d3 e3=>?_⟩
   exact⟨sh,l,b',_,_,hs,rfl,S.ext (E2.trans e3),fin r _ H2 d2' E2 b' H3 d3 e3,hl,fun H4 S4 f4=>⟨_,rfl,q H4 S4 ((Fr2.of (E2.trans e3)).trans f4)⟩⟩
noncomputable abbrev nIsW:List Str:=["thing"]
theorem scIsW:FnScope nIsW ["thing"] (j9 sIsW):= {}
def isWA (T:Txt mg)(CW:Can P w K mg base "is_whole" 1 fW fdW ["thing"] spWh)(hr:Room 1 (XOf nIsW "is_weight" sIsW P w K mg base f cdv A outer s H0 E).A): { t:TS // JSs (XOf nIsW "is_weight" sIsW P w K mg base f cdv A outer s H0 E) (jG sIsW) t} :=
 have nd:=scIsW.nd
 ⟨_,(jC (jQ ((jBK (CW.je hr gD (j4 (jv 0 rfl vL) j7 j6) j6) (jB3 (jH2 op_le op_le (x9 qK jD0) (jv 0 rfl vL) (jD0)))))))⟩
abbrev wtB:Ob->Bool:=upB (-1000000000000) 1000000000000
theorem jRM {fd:FuncData}(F:Fun K "is_weight" "is_weight" sIsW f fd)(T:Txt mg)(CW:Can P w K mg base "is_whole" 1 fW fdW ["thing"] spWh):FnOk P w K mg base CX0 2 f fd ["thing"] (spB wtB):=by
 refine F.ok scIsW (fun vs H Q E h=>?_) (fun cdv A outer s H vs Q E hr h=>?_)
 ·obtain⟨_,_,rfl,_⟩:=h
  rfl
 ·obtain⟨v,o,rfl,hA,q⟩:=h
  refine⟨_,(isWA T CW hr).2.h,?_⟩
  have q:=q H (Ext.refl H)
  refine⟨_,rfl,v,o,rfl,hA,_,rfl,?_⟩
  cases o with
  | int i=>
   cases (show v= .int i from hA)
   refine iteT ⟨_,rfl,_,rfl,_,_,rfl,rfl,_,rfl,ite2 (fun hy=>?_) (fun hy=>?_)⟩
   ·refine⟨_,_,rfl,rfl,qb q ?_⟩
    have hy:(-1000000000000:Int)<=i:=ai hy
    show (decide _&&decide _)=decide _
    rw[aj hy,eS]
   ·refine qb q ?_
    have hy:¬ (-1000000000000:Int)<=i:=fun h=>hy (aj h)
    show (decide _&&decide _)=false
    rw[aw hy,cN]
  | oth=>exact iteF q
  | tup os=>exact iteF q
noncomputable abbrev nPutP:List Str:=["self","things","weight","pieces"]
theorem scPutP:FnScope nPutP ["self","things","weight"] (j9 yZ):= {}
def jNL (C:Addr):Sp:=fun vs H Q _=>∃ (sh l a:Addr) (ts:List Int) (z:Int) (wi:Int) (ms:List Int) (ip:List (List Int×Int)) (hs:List Bx),vs=[.ref sh, .ref a, .int z]/\ShopAt C H sh l (wi,ms,ip) hs/\H a=some (.tup (ts.map V.int))/\GoodPc wi (ts,z)/\wi<=16/\ip.length<32/\hs.length<=1000/\∀ H',ShopAt C H' sh l (wi,ms,ip++[(ts,z)]) (hs++[(wi,ms,ip)])->Fr2 sh l H H'->Q (natV ip.length) H'
def putPA (T:Txt mg)(CL:Can P w K mg base "is_lot" 3 fL fdL ["thing","many"] (spB2 lotB))(CG:Can P w K mg base "is_weight" 2 fG fdG ["thing"] (spB wtB))(CB:CanM P w K mg base C "become" 2 fB fdB ["self","changed"] (yJ C))(M32:mg "MOST_PIECES" =some (.int 32 u1))(hr:Room 3 (XOf nPutP "Shop.put_piece" yZ P w K mg base f cdv A outer s H0 E).A): { t:TS // JSs (XOf nPutP "Shop.put_piece" yZ P w K mg base f cdv A outer s H0 E) (jG yZ) t} :=
 have nd:=scPutP.nd
 ⟨_,(j8 (kP (i:=3) nd rfl lL (jT kR (kD (jv 0 rfl vL)) (jE) jO) qF)
   (j8 (jR (jN op_ge (jH jJ gD T.len (by decide+kernel) (j4 (jv 3 rfl vL) j7 j6) j6) (yG (v:= .int 32) gD M32 ⟨_,rfl⟩) (jL _)) (jC (kQ)) jI)
   (j8 (jR (jt_w (xD (yB (jZ (CL.je hr gD (j4 (jv 1 rfl vL) (j4 (jT kR (kD (jv 0 rfl vL)) (jE) jO) j7 kT) j6) j6) jU)) (qS (jN yA (jH jJ gD T.len (by decide+kernel) (j4 (jv 1 rfl vL) j7 j6) j6) (jE) (jL _))))) (jC (kQ)) jI)
   (j8 (jR (yB (jZ (CG.je (hr.mono (by decide)) gD (j4 (jv 2 rfl vL) j7 j6) j6) jU)) (jC (kQ)) jI)
   (j8 (yN (CB.je (hr.mono (by decide)) (jv 0 rfl vL) (j4 (jM (j4 (jT kR (kD (jv 0 rfl vL)) (jE) jO) (j4 (jT kR (kD (jv 0 rfl vL)) (jE) jO) (j4 (yL jAR (jv 3 rfl vL) (jM (j4 (jM (j4 (jv 1 rfl vL) (j4 (jv 2 rfl vL) j7 j6) j6)) j7 jS))) j7 kZ) kT) kT)) j7 jS) jS) kI)
   (jC (jQ (jH jJ gD T.len (by decide+kernel) (j4 (jv 3 rfl vL) j7 j6) j6))))))))⟩
theorem jPH {fd:FuncData}(F:Fun K "put_piece" "Shop.put_piece" yZ f fd)(T:Txt mg)(SK:ShopK K C)(CL:Can P w K mg base "is_lot" 3 fL fdL ["thing","many"] (spB2 lotB))(CG:Can P w K mg base "is_weight" 2 fG fdG ["thing"] (spB wtB))(CB:CanM P w K mg base C "become" 2 fB fdB ["self","changed"] (yJ C))(M32:mg "MOST_PIECES" =some (.int 32 u1)):FnOk P w K mg base CX0 4 f fd ["self","things","weight"] (jNL C):=by
 refine F.ok scPutP (fun vs H Q E h=>?_) (fun cdv A outer s H vs Q E hr h=>?_)
 ·obtain⟨_,_,_,_,_,_,_,_,_,rfl,_⟩:=h
  rfl
 ·obtain⟨sh,l,a,ts,z,wi,ms,ip,hs,rfl,S,ha,gp,w16,pl,hl,q⟩:=h
  refine⟨_,(putPA T CL CG CB M32 hr).2.h,?_⟩
  obtain⟨dx,b,us,h1,h2,h3,h4⟩:=id S.ex
  obtain⟨qm,qp,ps,b1,b2,b3,b4⟩:=id h2.ex
  have b1:H b=some (.tup [.int wi, .ref qm, .ref qp]):=b1
  have b2:H qm=some (.tup (ms.map V.int)):=b2
  have b4:PcsAt H ps ip:=b4
  have psl:=b4.len
  have lt:Lot wi ts:=gp.lot
  have tl16:=yU lt.ris lt.bnd w16
  refine⟨_,rfl,sh,C,dx,_,_,rfl,h1,SK.cl,SK.nk,rfl,b,_,2,_,rfl,rfl,SqT.of b1,rfl,?_⟩
  refine⟨_,rfl,qp,_,rfl, .inr (SqT.of b3),_,_,rfl,rfl,_,rfl,iteN (aw (by rw[psl]; omega)) ?_⟩
  refine⟨_,rfl,_,rfl,sh,C,dx,_,_,rfl,h1,SK.cl,SK.nk,rfl,b,_,0,_,rfl,rfl,SqT.of b1,rfl, .ref a,_,_,rfl,jC9 ha (by rw[ag]; omega) (Ats.ints ts),fun H1 e1=>⟨_,rfl,?_⟩⟩
  rw[jCT lt.ris lt.bnd]
  refine iteN rfl ?_
  have l0:(ts.map V.int).length≠0:=by rw[ag]; exact fun z=>lt.ne (cS z)
  refine⟨_,rfl,a,_,rfl, .inr (SqT.of (e1 _ _ ha)),rfl,_,rfl,iteN (aw fun z=>l0 (by have:=V.int.inj z; omega)) ?_⟩
  refine⟨_,rfl, .int z, .int z,rfl,qM _ _,fun H2 e2=>⟨_,rfl,?_⟩⟩
  have wz:wtB (.int z)=true:=by
   have g1: -1000000000000<=z:=gp.lo
   have g2:z<=1000000000000:=gp.hi
   show (decide _&&decide _)=true
   rw[aj g1,aj g2]
   rfl
  rw[wz]
  refine iteF ?_
  have E2:=e1.trans e2
  refine⟨_,rfl,sh,dx,_,rfl,E2 _ _ h1,rfl,_,rfl,sh,C,dx,_,_,rfl,E2 _ _ h1,SK.cl,SK.nk,rfl,b,_,0,_,rfl,rfl,SqT.of (E2 _ _ b1),rfl,_,rfl,sh,C,dx,_,_,rfl,E2 _ _ h1,SK.cl,SK.nk,rfl,b,_,1,_,rfl,rfl,SqT.of (E2 _ _ b1),rfl,?_⟩
  refine⟨_,rfl,_,rfl,_,rfl,by show (2:Nat)<=_; decide,fun r1 H3 d3 e3=>?_⟩
  refine⟨by show (1:Nat)<=_; decide,fun r2 H4 d4 e4=>?_⟩
  have E4:=(E2.trans e3).trans e4
  refine⟨qp,r2,_,_,rfl,rfl,E4 _ _ b3,d4,by rw[psl,aC]; show _+1<=_; omega,fun r3 H5 d5 e5=>?_⟩
  refine⟨by show (3:Nat)<=_; decide,fun b' H6 d6 e6=>?_⟩
  have E6:=(E4.trans e5).trans e6
  have hb':BxB H6 b' (wi,ms,ip++[(ts,z)]):=⟨qm,r3,_,d6,E6 _ _ b2,e6 _ _ d5,PcsAt.snoc (p:=(ts,z)) ⟨r1,a,rfl,(e4.trans (e5.trans e6)) _ _ d3,E6 _ _ ha⟩ (b4.mono E6.tups)⟩
  refine⟨sh,l,b',_,_,hs,rfl,S.ext E6,hb',hl,fun H7 S7 f7=>?_⟩
  have tu:=f7.tups (S.ext E6)
  refine⟨_,rfl,qp,_,rfl, .inr (SqT.of (tu _ _ (E6 _ _ b3))),?_⟩
  rw[psl]
  exact q H7 S7 ((Fr2.of E6).trans f7)
noncomputable abbrev nRefT:List Str:=["self","thing"]
theorem scRefT:FnScope nRefT ["self","thing"] (j9 qW):= {}
def jC2 (C:Addr):Sp:=fun vs H Q _=>∃ (sh l:Addr) (t:Int) (x:Bx) (hs:List Bx),vs=[.ref sh, .int t]/\ShopAt C H sh l x hs/\0<=t/\t<x.1/\∀ H',Ext H H'->Q .non H'
def refTA (T:Txt mg)(CL:Can P w K mg base "is_lot" 3 fL fdL ["thing","many"] (spB2 lotB))(hr:Room 3 (XOf nRefT "Shop.refuse_no_thing" qW P w K mg base f cdv A outer s H0 E).A): { t:TS // JSs (XOf nRefT "Shop.refuse_no_thing" qW P w K mg base f cdv A outer s H0 E) (jG qW) t} :=
 have nd:=scRefT.nd
 have _h:=T
 ⟨_,(jC (jR (yB (jZ (CL.je hr gD (j4 (jM (j4 (jv 1 rfl vL) j7 j6)) (j4 (jT kR (kD (jv 0 rfl vL)) (jE) jO) j7 kT) jS) jS) jU)) (jC (kQ)) jI))⟩
theorem lot1 {t n:Int}(h0:0<=t)(h1:t<n):lotB n (.tup [Ob.int t])=true:=jCT (ks:=[t]) (gt _ _) fun k hk=>by rw[aG.mp hk]; exact⟨h0,h1⟩
theorem jO4 {H:Hp}{r:Addr}{t:Int}(d:H r=some (.tup [.int t])):At H (.tup [Ob.int t]) (.ref r):=jC9 d (by show (1:Nat)<=100; decide) (Ats.ints [t])
theorem jPF {fd:FuncData}(F:Fun K "refuse_no_thing" "Shop.refuse_no_thing" qW f fd)(T:Txt mg)(SK:ShopK K C)(CL:Can P w K mg base "is_lot" 3 fL fdL ["thing","many"] (spB2 lotB)):FnOk P w K mg base CX0 4 f fd ["self","thing"] (jC2 C):=by
 refine F.ok scRefT (fun vs H Q E h=>?_) (fun cdv A outer s H vs Q E hr h=>?_)
 ·obtain⟨_,_,_,_,_,rfl,_⟩:=h
  rfl
 ·obtain⟨sh,l,t,x,hs,rfl,S,t0,t1,q⟩:=h
  refine⟨_,(refTA T CL hr).2.h,?_⟩
  obtain⟨dx,b,us,h1,h2,h3,h4⟩:=id S.ex
  obtain⟨qm,qp,ps,b1,b2,b3,b4⟩:=id h2.ex
  refine⟨_,rfl,by show (1:Nat)<=_; decide,fun r H1 d1 e1=>?_⟩
  refine⟨_,rfl,sh,C,dx,_,_,rfl,e1 _ _ h1,SK.cl,SK.nk,rfl,b,_,0,_,rfl,rfl,SqT.of (e1 _ _ b1),rfl, .ref r,_,_,rfl,jO4 d1,fun H2 e2=>⟨_,rfl,?_⟩⟩
  rw[lot1 t0 t1]
  exact iteF (q H2 (e1.trans e2))
abbrev jFM:List Str:=["number","count"]
theorem scAllBut:FnScope jFM ["number","count"] (j9 jAQ):= {}
abbrev allB (t:Int)(n:Nat):List Int:=(upto n).filter fun k=>!decide (k=t)
def jAY:Sp:=fun vs H Q _=>∃ (t:Int) (n:Nat),vs=[.int t,natV n]/\n<=1000/\∀ r H',H' r=some (.lst ((allB t n).map V.int))->Ext H H'->H r=none->Q (.ref r) H'
def jQ8 (T:Txt mg): { t:TS // JSs (XOf jFM "all_but" jAQ P w K mg base f cdv A outer s H0 E) (jG jAQ) t} :=
 have nd:=scAllBut.nd
 ⟨_,(jC (jQ (yE (m:=[none,some 0]) (Nc:=["other","number"]) rfl (jAH gD T.range (j4 (jv 1 rfl vL) j7 j6) j6) rfl (by decide+kernel) (by decide+kernel) (kW (psc:=j9 jAQ)) (jW (N:=jFM) rfl rfl (by decide+kernel)) (fun cl C fp s H=>kB (i:=0) (show (["other","number"]:List Str).Nodup by decide+kernel) rfl qO) (fun cl C fp s H=>jBW (jN op_ne (jv 0 rfl kO) (jv 1 rfl yI) (jL _))) (fun cl C fp s H=>(jv 0 rfl kO)) qC)))⟩
theorem jJQ {fd:FuncData}(F:Fun K "all_but" "all_but" jAQ f fd)(T:Txt mg):FnOk P w K mg base CX0 1 f fd ["number","count"] jAY:=by
 refine F.ok scAllBut (fun vs H Q E h=>?_) (fun cdv A outer s H vs Q E hr h=>?_)
 ·obtain⟨_,_,rfl,_⟩:=h
  rfl
 ·obtain⟨t,n,rfl,n1,q⟩:=h
  refine⟨_,(jQ8 T).2.h,?_⟩
  refine⟨_,rfl,(n:Int),rfl,by omega,by omega,jE4 (n:=(n:Int).toNat) (fun σ=>∃ v,σ=[v,some (.int t)]) (outZ (upto n) (fun k=>!decide (k=t)) V.int) (outZ.ok _ _ _) (by rw[aC]; omega) ⟨_,rfl⟩ ?_ ?_⟩
  ·rintro j σ' H1 zs hj ⟨v,rfl⟩ e1 hz S1 S2 yes no
   have hx:(upto n)[j]?=some (j:Int):=by
    unfold upto
    rw[aL,cn (by omega)]
    rfl
   have e0:(0+(j:Int))=(j:Int):=by omega
   dsimp only [kX]
   rw[e0]
   refine⟨_,rfl,_,rfl,rfl,_,rfl,?_⟩
   show if (!decide (V.int (j:Int)=V.int t))=true then _ else _
   have ed:decide (V.int (j:Int)=V.int t)=decide ((j:Int)=t):=cQ.mpr ⟨fun z=>V.int.inj z,fun z=>by rw[z]⟩
   rw[ed]
   by_cases h:(j:Int)=t
   ·rw[aj h]
    exact iteF (no _ _ ⟨_,rfl⟩ (Ext.refl _) (hz.no hx (by rw[aj h]; rfl)))
   ·rw[aw h]
    exact iteT ⟨_,rfl,yes _ _ _ ⟨_,rfl⟩ (Ext.refl _) (hz.yes hx (by rw[aw h]; rfl))⟩
  ·rintro D H1 zs hD e1 n1 hz
   have hz:zs=(((upto n).take (n:Int).toNat).filter fun k=>!decide (k=t)).map V.int:=hz
   rw[bv,bx (by rw[yC]; exact aq _)] at hz
   rw[hz] at hD
   exact q D H1 hD e1 n1
abbrev jC7:List Str:=["self","thing","mays","turned"]
theorem scTurnT:FnScope jC7 ["self","thing"] (j9 yP):= {}
def trn (t:Int)(ms:List Int):List Int:=if t∈ms then ms.filter fun m=>!decide (m=t) else srt (ms++[t])
def jIP (C:Addr):Sp:=fun vs H Q _=>∃ (sh l:Addr) (t wi:Int) (ms:List Int) (ip:List (List Int×Int)) (hs:List Bx),vs=[.ref sh, .int t]/\ShopAt C H sh l (wi,ms,ip) hs/\0<=t/\t<wi/\ms.length<=60/\hs.length<=1000/\∀ H',ShopAt C H' sh l (wi,trn t ms,ip) (hs++[(wi,ms,ip)])->Fr2 sh l H H'->Q .non H'
def jNA (T:Txt mg)(CB:CanM P w K mg base C "become" 2 fB fdB ["self","changed"] (yJ C))(hr:Room 4 (XOf jC7 "Shop.turn_thing" yP P w K mg base f cdv A outer s H0 E).A): { t:TS // JSs (XOf jC7 "Shop.turn_thing" yP P w K mg base f cdv A outer s H0 E) ((jG yP).drop 3) t} :=
 have nd:=scTurnT.nd
 ⟨_,(jC (yN (CB.je (hr.mono (by decide)) (jv 0 rfl vL) (j4 (jM (j4 (jT kR (kD (jv 0 rfl vL)) (jE) jO) (j4 (kY jA0 gD T.tuple (by decide+kernel) (j4 (jv 3 rfl vL) j7 j6) j6) (j4 (jT kR (kD (jv 0 rfl vL)) (jE) jO) j7 kT) jK) kT)) j7 jS) jS) kI))⟩
def jQD (T:Txt mg)(CR:CanM P w K mg base C "refuse_no_thing" 4 fR fdR ["self","thing"] (jC2 C))(CB:CanM P w K mg base C "become" 2 fB fdB ["self","changed"] (yJ C))(hr:Room 4 (XOf jC7 "Shop.turn_thing" yP P w K mg base f cdv A outer s H0 E).A): { t:TS // JSs (XOf jC7 "Shop.turn_thing" yP P w K mg base f cdv A outer s H0 E) (jG yP) t} :=
 have nd:=scTurnT.nd
 ⟨_,(j8 (yN (CR.je hr (jv 0 rfl vL) (j4 (jv 1 rfl vC) j7 j6) j6) kI) (j8 (kP (i:=2) nd rfl lL (jT kR (kD (jv 0 rfl vL)) (jE) jO) qF) (j8 (kP (i:=3) nd rfl lL (jNZ (jN jEL (jv 1 rfl vC) (jv 2 rfl vL) jFK) (yE (m:=[none,some 1]) (Nc:=["may","thing"]) rfl (qT (jv 2 rfl vL)) rfl (by decide+kernel) (by decide+kernel) (kW (psc:=j9 yP)) (jW (N:=jC7) rfl rfl (by decide+kernel)) (fun cl C fp s H=>kB (i:=0) (show (["may","thing"]:List Str).Nodup by decide+kernel) rfl qO) (fun cl C fp s H=>jBW (jN op_ne (jv 0 rfl kO) (jv 1 rfl yI) (jL _))) (fun cl C fp s H=>(jv 0 rfl kO)) jAN) (jH jEZ gD T.sorted (by decide+kernel) (j4 (yL jAR (jv 2 rfl vL) (jM (j4 (jv 1 rfl vC) j7 j6))) j7 kZ) kZ)) jNG) (jNA T CB hr).2)))⟩
theorem jM2 {fd:FuncData}(F:Fun K "turn_thing" "Shop.turn_thing" yP f fd)(T:Txt mg)(SK:ShopK K C)(CR:CanM P w K mg base C "refuse_no_thing" 4 fR fdR ["self","thing"] (jC2 C))(CB:CanM P w K mg base C "become" 2 fB fdB ["self","changed"] (yJ C)):FnOk P w K mg base CX0 5 f fd ["self","thing"] (jIP C):=by
 refine F.ok scTurnT (fun vs H Q E h=>?_) (fun cdv A outer s H vs Q E hr h=>?_)
 ·obtain⟨_,_,_,_,_,_,_,rfl,_⟩:=h
  rfl
 ·obtain⟨sh,l,t,wi,ms,ip,hs,rfl,S,t0,t1,ml,hl,q⟩:=h
  refine⟨_,(jQD T CR CB hr).2.h,?_⟩
  obtain⟨dx,b,us,h1,h2,h3,h4⟩:=id S.ex
  obtain⟨qm,qp,ps,b1,b2,b3,b4⟩:=id h2.ex
  have b1:H b=some (.tup [.int wi, .ref qm, .ref qp]):=b1
  have b2:H qm=some (.tup (ms.map V.int)):=b2
  have b4:PcsAt H ps ip:=b4
  refine⟨_,rfl,sh,dx,_,rfl,h1,rfl,_,rfl,sh,l,t,_,hs,rfl,S,t0,t1,fun H1 e1=>?_⟩
  refine⟨_,rfl,sh,C,dx,_,_,rfl,e1 _ _ h1,SK.cl,SK.nk,rfl,b,_,1,_,rfl,rfl,SqT.of (e1 _ _ b1),rfl,?_⟩
  have fin:∀ (r:Addr) (H2:Hp),H2 r=some (.lst ((trn t ms).map V.int))->Ext H1 H2->(jNA (f:=f) (cdv:=cdv) (A:=A) (outer:=outer) (s:=s) (H0:=H) (E:=E) T CB hr).1 { nx:=fun _ H'=>Q .non H',rt:=Q} [some (.ref sh),some (.int t),some (.ref qm),some (.ref r)] H2:=fun r H2 d2 e2=>by
   have E2:=e1.trans e2
   refine⟨_,rfl,sh,dx,_,rfl,E2 _ _ h1,rfl,_,rfl,sh,C,dx,_,_,rfl,E2 _ _ h1,SK.cl,SK.nk,rfl,b,_,0,_,rfl,rfl,SqT.of (E2 _ _ b1),rfl,_,rfl,r,_,rfl, .inl ⟨SqL.of d2,fun r2 n2=>?_⟩⟩
   have e3:Ext H2 (L2.upd H2 r2 (.tup ((trn t ms).map V.int))):=(Ext.refl _).new n2 _
   have d3:(L2.upd H2 r2 (.tup ((trn t ms).map V.int))) r2=some (.tup ((trn t ms).map V.int)):=jA
   generalize L2.upd H2 r2 (.tup ((trn t ms).map V.int))=H3 at e3 d3
   have E3:=E2.trans e3
   refine⟨_,rfl,sh,C,dx,_,_,rfl,E3 _ _ h1,SK.cl,SK.nk,rfl,b,_,2,_,rfl,rfl,SqT.of (E3 _ _ b1),rfl,by show (3:Nat)<=_; decide,fun b' H4 d4 e4=>?_⟩
   have E4:=E3.trans e4
   exact⟨sh,l,b',_,_,hs,rfl,S.ext E4,⟨r2,qp,ps,d4,e4 _ _ d3,E4 _ _ b3,b4.mono E4.tups⟩,hl,fun H5 S5 f5=>q H5 S5 ((Fr2.of E4).trans f5)⟩
  refine⟨_,rfl,_,rfl,qm,_,rfl, .inr (SqT.of (e1 _ _ b2)),rfl,jAU ms,_,rfl,?_⟩
  rw[show (if false=true then !inV (V.int t) (ms.map V.int) else inV (V.int t) (ms.map V.int))=inV (V.int t) (ms.map V.int) from av au,jBL]
  refine ite2 (fun hin=>?_) (fun hin=>?_)
  ·have hin:t∈ms:=ai hin
   refine⟨_,rfl,qm,rfl,⟨_,SqT.of (e1 _ _ b2)⟩,jAO (xs:=ms.map V.int) (fun σ=>∃ v,σ=[v,some (.int t)]) (outZ ms (fun m=>!decide (m=t)) V.int) (outZ.ok _ _ _) (e1 _ _ b2) (by rw[ag,aC]; omega) ⟨_,rfl⟩ ?_ ?_⟩
   ·rintro j x σ' H2 zs hx ⟨v,rfl⟩ e2 hz S1 S2 yes no
    obtain⟨g,hg,rfl⟩:∃ g,ms[j]?=some g/\V.int g=x:=by simpa using hx
    dsimp only [kX]
    refine⟨_,rfl,_,rfl,rfl,_,rfl,?_⟩
    show if (!decide (V.int g=V.int t))=true then _ else _
    have ed:decide (V.int g=V.int t)=decide (g=t):=cQ.mpr ⟨fun z=>V.int.inj z,fun z=>by rw[z]⟩
    rw[ed]
    by_cases h:g=t
    ·rw[aj h]
     exact iteF (no _ _ ⟨_,rfl⟩ (Ext.refl _) (hz.no hg (by rw[aj h]; rfl)))
    ·rw[aw h]
     exact iteT ⟨_,rfl,yes _ _ _ ⟨_,rfl⟩ (Ext.refl _) (hz.yes hg (by rw[aw h]; rfl))⟩
   ·rintro D H2 zs hD e2 n2 hz
    have hz:zs=((ms.take (ms.map V.int).length).filter fun m=>!decide (m=t)).map V.int:=hz
    rw[ag,bM] at hz
    refine fin D H2 ?_ e2
    rw[hD,hz]
    unfold trn
    rw[aB hin]
  ·have hin:¬ t∈ms:=fun z=>hin (aj z)
   refine⟨_,rfl,_,rfl,by show (1:Nat)<=_; decide,fun r1 H2 d2 e2=>?_⟩
   refine⟨qm,r1,_,_,rfl,rfl,e2 _ _ (e1 _ _ b2),d2,by rw[ag,aC]; show _+1<=_; omega,fun r2 H3 d3 e3=>?_⟩
   refine⟨r2,ms++[t],rfl,by rw[d3,aU]; rfl,by rw[aD]; show _+1<_; omega,fun r3 ns n3 pw pm=>?_⟩
   refine fin r3 _ ?_ ((e2.trans e3).new n3 _)
   rw[jA,jG3 pw pm]
   unfold trn
   rw[av hin]
abbrev jBJ:List Str:=["self","thing"]
theorem scTakeT:FnScope jBJ ["self","thing"] (j9 yK):= {}
def lss (t:Int)(x:Bx):Bx:=((allB t x.1.toNat).length,nmd (allB t x.1.toNat) x.2.1,pick (allB t x.1.toNat) x.2.2 (upto x.2.2.length))
def jIQ (C tb:Addr):Sp:=fun vs H Q _=>∃ (sh l:Addr) (t wi:Int) (ms:List Int) (ip:List (List Int×Int)) (hs:List Bx),vs=[.ref sh, .int t]/\ShopAt C H sh l (wi,ms,ip) hs/\Good 16 32 wi ms ip/\0<=t/\t<wi/\(∀ pc∈ip,t∉pc.1)/\hs.length<=1000/\TabP H tb/\∀ H',ShopAt C H' sh l (lss t (wi,ms,ip)) (hs++[(wi,ms,ip)])->TabP H' tb->(∀ c o,H c=some o->c≠tb->c≠sh->c≠l->H' c=some o)->Q .non H'
def jQF (T:Txt mg)(CR:CanM P w K mg base C "refuse_no_thing" 4 fR fdR ["self","thing"] (jC2 C))(CB:CanM P w K mg base C "become" 2 fB fdB ["self","changed"] (yJ C))(CA:Can P w K mg base "all_but" 1 fA fdA ["number","count"] jAY)(CK:Can P w K mg base "picked" 2 fK fdK ["box","things","pieces"] (jAX tb))(hr:Room 4 (XOf jBJ "Shop.take_thing" yK P w K mg base f cdv A outer s H0 E).A): { t:TS // JSs (XOf jBJ "Shop.take_thing" yK P w K mg base f cdv A outer s H0 E) (jG yK) t} :=
 have nd:=scTakeT.nd
 ⟨_,(j8 (yN (CR.je hr (jv 0 rfl vL) (j4 (jv 1 rfl vC) j7 j6) j6) kI)
   (j8 (jR (jZ (jH (jD8 rfl) gD T.any (by decide+kernel) (j4 (yE (m:=[none,some 1]) (Nc:=["piece","thing"]) rfl (qT (jT kR (kD (jv 0 rfl vL)) (jE) jO)) rfl (by decide+kernel) (by decide+kernel) (kW (psc:=j9 yK)) (jW (N:=jBJ) rfl rfl (by decide+kernel)) (fun cl C fp s H=>kB (i:=0) (show (["piece","thing"]:List Str).Nodup by decide+kernel) rfl qO) (fun cl C fp s H=>yV) (fun cl C fp s H=>(y0 jDW (jv 1 rfl yI) (jT jA3 (jv 0 rfl kO) (jE) jO) jNR)) jO1) j7 jV) jV) jU) (jC (kQ)) jI)
   (jC (yN (CB.je (hr.mono (by decide)) (jv 0 rfl vL) (j4 (CK.je (hr.mono (by decide)) gD (j4 (kD (jv 0 rfl vL)) (j4 (CA.je (hr.mono (by decide)) gD (j4 (jv 1 rfl vC) (j4 (jT kR (kD (jv 0 rfl vL)) (jE) jO) j7 kT) j6) j6) (j4 (kY (jC8 rfl) gD T.list (by decide+kernel) (j4 (kY jD7 gD T.range (by decide+kernel) (j4 (jH jJ gD T.len (by decide+kernel) (j4 (jT kR (kD (jv 0 rfl vL)) (jE) jO) j7 kT) kT) j7 jK) jK) j7 jK) jK) j7 jK) jK) jAB) jAB) j7 jK) jK) kI))))⟩
theorem jC1 (t:Int)(n:Nat):(allB t n).Pairwise (· < ·):=(jA5 n).ris.filter _
theorem jCI (t:Int)(n:Nat):(allB t n).length<=n:=by
 have:=dj (fun k=>!decide (k=t)) (upto n)
 rwa [yC] at this
theorem jCH {t:Int}{n:Nat}{z:Int}(h:z∈allB t n):(0<=z/\z<n)/\z≠t:=by
 obtain⟨h1,h2⟩:=bz.mp h
 exact⟨(jA5 n).bnd z h1,fun e=>by rw[aj e] at h2; cases h2⟩
theorem jM3 {fd:FuncData}(F:Fun K "take_thing" "Shop.take_thing" yK f fd)(T:Txt mg)(SK:ShopK K C)(CR:CanM P w K mg base C "refuse_no_thing" 4 fR fdR ["self","thing"] (jC2 C))(CB:CanM P w K mg base C "become" 2 fB fdB ["self","changed"] (yJ C))(CA:Can P w K mg base "all_but" 1 fA fdA ["number","count"] jAY)(CK:Can P w K mg base "picked" 2 fK fdK ["box","things","pieces"] (jAX tb)):FnOk P w K mg base CX0 5 f fd ["self","thing"] (jIQ C tb):=by
 refine F.ok scTakeT (fun vs H Q E h=>?_) (fun cdv A outer s H vs Q E hr h=>?_)
 ·obtain⟨_,_,_,_,_,_,_,rfl,_⟩:=h
  rfl
 ·obtain⟨sh,l,t,wi,ms,ip,hs,rfl,S,g,t0,t1,hn,hl,tab,q⟩:=h
  refine⟨_,(jQF T CR CB CA CK hr).2.h,?_⟩
  obtain⟨dx,b,us,h1,h2,h3,h4⟩:=id S.ex
  obtain⟨qm,qp,ps,b1,b2,b3,b4⟩:=id h2.ex
  have b1:H b=some (.tup [.int wi, .ref qm, .ref qp]):=b1
  have b2:H qm=some (.tup (ms.map V.int)):=b2
  have b4:PcsAt H ps ip:=b4
  have psl:=b4.len
  have gpl:=g.pl
  have w1:=g.w1
  have w0:=g.w0
  refine⟨_,rfl,sh,dx,_,rfl,h1,rfl,_,rfl,sh,l,t,_,hs,rfl,S,t0,t1,fun H1 e1=>?_⟩
  refine⟨_,rfl,sh,C,dx,_,_,rfl,e1 _ _ h1,SK.cl,SK.nk,rfl,b,_,2,_,rfl,rfl,SqT.of (e1 _ _ b1),rfl,qp,rfl,⟨_,SqT.of (e1 _ _ b3)⟩,jAO (xs:=ps) (fun σ=>∃ v,σ=[v,some (.int t)]) (mapZ ip fun pc=>V.bl (decide (t∈pc.1))) (mapZ.ok _ _) (e1 _ _ b3) (by rw[aC]; omega) ⟨_,rfl⟩ ?_ ?_⟩
  ·rintro j x σ' H2 zs hx ⟨v,rfl⟩ e2 hz S1 S2 yes no
   have jl:j<ip.length:=by rw[<- psl]; exact(ay.mp hx).1
   obtain⟨v',hv',r,qt,rfl,dr,dt⟩:=b4.get jl
   obtain rfl:=aM (hx.symm.trans hv')
   have E2:=e1.trans e2
   dsimp only [kX,qI]
   rw[aB rfl]
   refine⟨_,rfl,_,rfl,r,_,0,_,rfl,rfl,SqT.of (E2 _ _ dr),rfl,qt,_,rfl, .inr (SqT.of (E2 _ _ dt)),rfl,jAU _,?_⟩
   rw[show (if false=true then !inV (V.int t) ((ip.getD j ([],0)).1.map V.int) else inV (V.int t) ((ip.getD j ([],0)).1.map V.int))=inV (V.int t) ((ip.getD j ([],0)).1.map V.int) from av au,jBL]
   refine yes _ _ _ ⟨_,rfl⟩ (Ext.refl _) (hz.yes (x:=ip.getD j ([],0)) ?_)
   rw[aE,az jl]
   rfl
  ·rintro D H2 zs hD e2 n2 hz
   have hz:=hz.all (by omega)
   have hz2:zs=(ip.map fun pc=>decide (t∈pc.1)).map V.bl:=by rw[hz,cq]; rfl
   rw[hz2] at hD
   have E2:=e1.trans e2
   have tab2:=tab.ext E2
   have S2:=S.ext E2
   have a1:(ip.map fun pc=>decide (t∈pc.1)).any id=false:=by
    rw[List.any_eq_false]
    intro x hx
    obtain⟨pc,hp,rfl⟩:=bc.mp hx
    exact fun z=>hn pc hp (ai z)
   refine⟨D,_,rfl,SqL.of hD,_,rfl,iteN a1 ?_⟩
   refine⟨_,rfl,sh,dx,_,rfl,E2 _ _ h1,rfl,_,rfl,sh,C,dx,_,_,rfl,E2 _ _ h1,SK.cl,SK.nk,rfl,_,rfl,_,rfl,sh,C,dx,_,_,rfl,E2 _ _ h1,SK.cl,SK.nk,rfl,b,_,0,_,rfl,rfl,SqT.of (E2 _ _ b1),rfl,t,wi.toNat,by show [V.int t,V.int wi]=[V.int t,V.int ((wi.toNat:Nat):Int)]; rw[gZ w0],by omega,fun r1 H3 d3 e3 n3=>?_⟩
   have E3:=E2.trans e3
   refine⟨_,rfl,sh,C,dx,_,_,rfl,E3 _ _ h1,SK.cl,SK.nk,rfl,b,_,2,_,rfl,rfl,SqT.of (E3 _ _ b1),rfl,qp,_,rfl, .inr (SqT.of (E3 _ _ b3)),_,rfl,fun pr n4=>⟨pr,_,rfl,jA,by omega,by omega,fun r5 n5=>?_⟩⟩
   have e5:Ext H3 (L2.upd (L2.upd H3 pr (.rng 0 (ps.length:Int))) r5 (.lst (qH ((ps.length:Int)).toNat))):=((Ext.refl _).new n4 _).new n5 _
   have d5:(L2.upd (L2.upd H3 pr (.rng 0 (ps.length:Int))) r5 (.lst (qH ((ps.length:Int)).toNat))) r5=some (.lst ((upto ip.length).map V.int)):=by rw[jA,jEU,bv,psl]
   generalize L2.upd (L2.upd H3 pr (.rng 0 (ps.length:Int))) r5 (.lst (qH ((ps.length:Int)).toNat))=H5 at e5 d5
   have E5:=E3.trans e5
   have al:=jCI t wi.toNat
   have tab5:=tab.ext E5
   have ml:=yU g.mr.ris g.mr.bnd w1
   refine⟨b,r1,r5,false,false,wi,ms,ip,allB t wi.toNat,upto ip.length,rfl,(h2.mono E5.tups),e5 _ _ d3,d5,(jC1 t _).imp (fun h=>by omega),by omega,by omega,fun pc hp=>?_,fun k hk=>(jA5 ip.length).bnd k hk,by rw[yC]; omega,tab5,fun r H6 B6 e6 t6=>?_⟩
   ·have:=yU (g.pg pc hp).lot.ris (g.pg pc hp).lot.bnd w1
    omega
   ·have S6:=(S.ext E5).extT tab5 e6
    refine⟨sh,l,r,_,lss t (wi,ms,ip),hs,rfl,S6,B6,hl,fun H7 S7 f7=>q H7 S7 (TabOk.keepO t6 (f7.other S6)) fun c o h m1 m2 m3=>f7 _ _ (e6 _ _ (E5 _ _ h) m1) m2 m3⟩
abbrev jEN:List Str:=["self","piece","count"]
theorem scTakeP:FnScope jEN ["self","piece"] (j9 qA):= {}
def lsp (k:Int)(x:Bx):Bx:=((upto x.1.toNat).length,nmd (upto x.1.toNat) x.2.1,pick (upto x.1.toNat) x.2.2 (allB k x.2.2.length))
def jIR (C tb:Addr):Sp:=fun vs H Q _=>∃ (sh l:Addr) (k wi:Int) (ms:List Int) (ip:List (List Int×Int)) (hs:List Bx),vs=[.ref sh, .int k]/\ShopAt C H sh l (wi,ms,ip) hs/\Good 16 32 wi ms ip/\0<=k/\k<ip.length/\hs.length<=1000/\TabP H tb/\∀ H',ShopAt C H' sh l (lsp k (wi,ms,ip)) (hs++[(wi,ms,ip)])->TabP H' tb->(∀ c o,H c=some o->c≠tb->c≠sh->c≠l->H' c=some o)->Q .non H'
def jQG (T:Txt mg)(CL:Can P w K mg base "is_lot" 3 fL fdL ["thing","many"] (spB2 lotB))(CB:CanM P w K mg base C "become" 2 fB fdB ["self","changed"] (yJ C))(CA:Can P w K mg base "all_but" 1 fA fdA ["number","count"] jAY)(CK:Can P w K mg base "picked" 2 fK fdK ["box","things","pieces"] (jAX tb))(hr:Room 3 (XOf jEN "Shop.take_piece" qA P w K mg base f cdv A outer s H0 E).A): { t:TS // JSs (XOf jEN "Shop.take_piece" qA P w K mg base f cdv A outer s H0 E) (jG qA) t} :=
 have nd:=scTakeP.nd
 ⟨_,(j8 (kP (i:=2) nd rfl lL (jH jJ gD T.len (by decide+kernel) (j4 (jT kR (kD (jv 0 rfl vL)) (jE) jO) j7 kT) kT) kI)
   (j8 (jR (yB (jZ (CL.je hr gD (j4 (jM (j4 (jv 1 rfl vL) j7 j6)) (j4 (jv 2 rfl vL) j7 j6) jS) jS) jU)) (jC (kQ)) jI)
   (jC (yN (CB.je (hr.mono (by decide)) (jv 0 rfl vL) (j4 (CK.je (hr.mono (by decide)) gD (j4 (kD (jv 0 rfl vL)) (j4 (kY (jC8 rfl) gD T.list (by decide+kernel) (j4 (kY jD7 gD T.range (by decide+kernel) (j4 (jT kR (kD (jv 0 rfl vL)) (jE) jO) j7 kT) kT) j7 jK) jK) (j4 (CA.je (hr.mono (by decide)) gD (j4 (jv 1 rfl vL) (j4 (jv 2 rfl vL) j7 j6) j6) j6) j7 jK) jK) jAB) jAB) j7 jK) jK) kI))))⟩
theorem jM4 {fd:FuncData}(F:Fun K "take_piece" "Shop.take_piece" qA f fd)(T:Txt mg)(SK:ShopK K C)(CL:Can P w K mg base "is_lot" 3 fL fdL ["thing","many"] (spB2 lotB))(CB:CanM P w K mg base C "become" 2 fB fdB ["self","changed"] (yJ C))(CA:Can P w K mg base "all_but" 1 fA fdA ["number","count"] jAY)(CK:Can P w K mg base "picked" 2 fK fdK ["box","things","pieces"] (jAX tb)):FnOk P w K mg base CX0 4 f fd ["self","piece"] (jIR C tb):=by
 refine F.ok scTakeP (fun vs H Q E h=>?_) (fun cdv A outer s H vs Q E hr h=>?_)
 ·obtain⟨_,_,_,_,_,_,_,rfl,_⟩:=h
  rfl
 ·obtain⟨sh,l,k,wi,ms,ip,hs,rfl,S,g,k0,k1,hl,tab,q⟩:=h
  refine⟨_,(jQG T CL CB CA CK hr).2.h,?_⟩
  obtain⟨dx,b,us,h1,h2,h3,h4⟩:=id S.ex
  obtain⟨qm,qp,ps,b1,b2,b3,b4⟩:=id h2.ex
  have b1:H b=some (.tup [.int wi, .ref qm, .ref qp]):=b1
  have b4:PcsAt H ps ip:=b4
  have psl:=b4.len
  have gpl:=g.pl
  have w1:=g.w1
  have w0:=g.w0
  refine⟨_,rfl,sh,C,dx,_,_,rfl,h1,SK.cl,SK.nk,rfl,b,_,2,_,rfl,rfl,SqT.of b1,rfl,qp,_,rfl, .inr (SqT.of b3),?_⟩
  refine⟨_,rfl,by show (1:Nat)<=_; decide,fun r H1 d1 e1=>?_⟩
  refine⟨_,rfl, .ref r,_,_,rfl,jO4 d1,fun H2 e2=>⟨_,rfl,?_⟩⟩
  rw[lot1 k0 (by rw[psl]; exact k1)]
  refine iteF ?_
  have E2:=e1.trans e2
  refine⟨_,rfl,sh,dx,_,rfl,E2 _ _ h1,rfl,_,rfl,sh,C,dx,_,_,rfl,E2 _ _ h1,SK.cl,SK.nk,rfl,?_⟩
  refine⟨_,rfl,sh,C,dx,_,_,rfl,E2 _ _ h1,SK.cl,SK.nk,rfl,b,_,0,_,rfl,rfl,SqT.of (E2 _ _ b1),rfl,_,rfl,fun pr n4=>⟨pr,_,rfl,jA,by omega,by omega,fun r5 n5=>?_⟩⟩
  have e5:Ext H2 (L2.upd (L2.upd H2 pr (.rng 0 wi)) r5 (.lst (qH wi.toNat))):=((Ext.refl _).new n4 _).new n5 _
  have d5:(L2.upd (L2.upd H2 pr (.rng 0 wi)) r5 (.lst (qH wi.toNat))) r5=some (.lst ((upto wi.toNat).map V.int)):=by rw[jA,jEU]
  generalize L2.upd (L2.upd H2 pr (.rng 0 wi)) r5 (.lst (qH wi.toNat))=H5 at e5 d5
  refine⟨_,rfl,_,rfl,k,ip.length,by show [V.int k,V.int (ps.length:Int)]=_; rw[psl],by omega,fun r1 H6 d6 e6 n6=>?_⟩
  have E6:=(E2.trans e5).trans e6
  have al:=jCI k ip.length
  have tab6:=tab.ext E6
  have ml:=yU g.mr.ris g.mr.bnd w1
  refine⟨b,r5,r1,false,false,wi,ms,ip,upto wi.toNat,allB k ip.length,rfl,(h2.mono E6.tups),e6 _ _ d5,d6,(jA5 _).ris.imp (fun h=>by omega),by rw[yC]; omega,by omega,fun pc hp=>?_,fun z hz=>(jCH hz).1,by omega,tab6,fun r H7 B7 e7 t7=>?_⟩
  ·have:=yU (g.pg pc hp).lot.ris (g.pg pc hp).lot.bnd w1
   omega
  ·have S7:=(S.ext E6).extT tab6 e7
   refine⟨sh,l,r,_,lsp k (wi,ms,ip),hs,rfl,S7,B7,hl,fun H8 S8 f8=>q H8 S8 (TabOk.keepO t7 (f8.other S7)) fun c o h m1 m2 m3=>f8 _ _ (e7 _ _ (E6 _ _ h) m1) m2 m3⟩
noncomputable abbrev nUndo:List Str:=["self"]
theorem scUndo:FnScope nUndo ["self"] (j9 qY):= {}
def jNJ (C:Addr):Sp:=fun vs H Q _=>∃ (sh l:Addr) (x y:Bx) (hs:List Bx),vs=[.ref sh]/\ShopAt C H sh l x (hs++[y])/\∀ H',ShopAt C H' sh l y hs->Fr2 sh l H H'->Q .non H'
def undoA (T:Txt mg)(hr:Room 1 (XOf nUndo "Shop.undo" qY P w K mg base f cdv A outer s H0 E).A): { t:TS // JSs (XOf nUndo "Shop.undo" qY P w K mg base f cdv A outer s H0 E) (jG qY) t} :=
 have nd:=scUndo.nd
 ⟨_,(j8 (jR (jN yA (jH jJ gD T.len (by decide+kernel) (j4 (kD (jv 0 rfl vL)) j7 jAB) jAB) (jE) (jL _)) (jC (kQ)) jI)
   (jC (jGY (jv 0 rfl vL) (jO0 bg gG gH jNT (kD (jv 0 rfl vL))) kI)))⟩
theorem jD9 {α β:Type}{R:α->β->Prop} :∀ {us:List α}{hs:List β}{y:β},All2 R us (hs++[y])->∃ vs u,us=vs++[u]/\All2 R vs hs/\R u y
 | [u],[],_,h=>⟨[],u,rfl,trivial,h.1⟩
 | u::us,x::hs,y,h=>by
  obtain⟨vs,v,e,a,b⟩:=jD9 (us:=us) (hs:=hs) (y:=y) h.2
  exact⟨u::vs,v,by rw[e]; rfl,⟨h.1,a⟩,b⟩
 | [],[],_,h=>h.elim
 | [],_::_,_,h=>h.elim
 | _::_::_,[],_,h=>h.2.elim
theorem jPD {fd:FuncData}(F:Fun K "undo" "Shop.undo" qY f fd)(T:Txt mg)(SK:ShopK K C):FnOk P w K mg base CX0 2 f fd ["self"] (jNJ C):=by
 refine F.ok scUndo (fun vs H Q E h=>?_) (fun cdv A outer s H vs Q E hr h=>?_)
 ·obtain⟨_,_,_,_,_,rfl,_⟩:=h
  rfl
 ·obtain⟨sh,l,x,y,hs,rfl,S,q⟩:=h
  refine⟨_,(undoA T hr).2.h,?_⟩
  obtain⟨dx,b,us,h1,h2,h3,h4⟩:=id S.ex
  have ne:=S.ne
  obtain⟨vs,u,rfl,ha,b',rfl,hb'⟩:=jD9 h4
  refine⟨_,rfl,sh,C,dx,_,_,rfl,h1,SK.cl,SK.ne,rfl,l,_,rfl, .inl (SqL.of h3),rfl,_,rfl,iteN (aw fun z=>?_) ?_⟩
  ·have:=V.int.inj z
   rw[aD] at this
   have e:([V.ref b']:List V).length=1:=rfl
   omega
  ·refine⟨_,rfl,sh,C,dx,_,_,rfl,h1,SK.cl,SK.ne,rfl, .inl ⟨rfl,_,SqL.of h3⟩,l,_, .ref b',rfl,rfl,h3,by rw[aD]; show (vs++[V.ref b'])[vs.length+1 - 1]?=_; rw[ie,bt (aq _),ij]; rfl,?_⟩
   rw[fe]
   refine⟨_,rfl,sh,C,dx,[("kept", .ref b),("earlier", .ref l)],rfl,by rw[jD ne]; exact h1,SK.cl,SK.nk,by show (2:Nat)<1000; decide,?_⟩
   have f:Fr2 sh l H (L2.upd (L2.upd H l (.lst vs)) sh (.ins C dx [("kept", .ref b'),("earlier", .ref l)])):=fun c o h m n=>by rw[jD m,jD n]; exact h
   have tu:=f.tups S
   exact q _ ⟨dx,b',vs,jA,hb'.mono tu,by rw[jD (bo ne)]; exact jA,All2.imp (fun _ _=>BxAt.mono tu) ha⟩ f
theorem jJS {ts lot:List Int}(h:ts.Pairwise (· < ·))(hl:lot.Pairwise (· < ·)):Ris ts.length (nmd ts lot):=by
 rw[jFI h hl]
 refine⟨jGJ h hl,fun z hz=>?_⟩
 unfold plcs at hz
 obtain⟨t,ht,rfl⟩:=bc.mp hz
 have:=cb.mpr (ai (bz.mp ht).2)
 omega
theorem jLA {n:Nat}{t:Int}(h0:0<=t)(h1:t<n):(((upto n).idxOf t:Nat):Int)=t:=by
 have e:t=(upto n)[t.toNat]'(by rw[yC]; omega):=by
  have:=jBB (n:=n) (i:=t.toNat) (by omega)
  rw[az (by rw[yC]; omega)] at this
  rw[aM this]
  omega
 have:=(jDD n).idxOf_getElem t.toNat (by rw[yC]; omega)
 rw[<- e] at this
 omega
theorem jGQ {n:Nat}{lot:List Int}(r:lot.Pairwise (· < ·))(hb:∀ t∈lot,0<=t/\t<n):nmd (upto n) lot=lot:=by
 rw[jFI (jA5 n).ris r,jLL fun t ht=>mem_upto.mpr (hb t ht)]
 refine(fo fun t ht=>jLA (hb t ht).1 (hb t ht).2).trans ?_
 exact io _
section
variable {t:Int}{n:Nat}(h0:0<=t)(h1:t<(n+1:Nat))
include h0 h1
theorem jN6:(allB t (n+1)).length=n:=by
 have e:=List.length_eq_countP_add_countP (fun k=>decide (k=t)) (l:=upto (n+1))
 have c1:(upto (n+1)).countP (fun k=>decide (k=t))=1:=by
  have:(upto (n+1)).countP (fun k=>decide (k=t))=(upto (n+1)).count t:=by
   unfold List.count
   refine List.countP_congr fun x _=>?_
   simp
  rw[this]
  rw[(jDD _).count,aB (mem_upto.mpr ⟨h0,h1⟩)]
 rw[yC,c1] at e
 have c2:(allB t (n+1)).length=(upto (n+1)).countP (fun k=>!decide (k=t)):=List.countP_eq_length_filter.symm
 have c3:(upto (n+1)).countP (fun k=>!decide (k=t))=(upto (n+1)).countP (fun k=>decide ¬ (decide (k=t)=true)):=List.countP_congr fun x _=>by simp
 omega
end
theorem trn_mem {t z:Int}{ms:List Int} :z∈trn t ms↔if z=t then t∉ms else z∈ms:=by
 unfold trn
 by_cases h:t∈ms
 ·rw[aB h,bz]
  by_cases e:z=t
  ·rw[aB e,aj e]
   exact⟨fun q=>absurd q.2 (by decide),fun q=>absurd h q⟩
  ·rw[av e,aw e]
   exact⟨fun q=>q.1,fun q=>⟨q,rfl⟩⟩
 ·rw[av h,(jDO _).mem_iff,bq,aG]
  by_cases e:z=t
  ·rw[aB e]
   exact⟨fun _=>h,fun _=> .inr e⟩
  ·rw[av e]
   exact⟨fun q=>q.elim id fun z=>absurd z e,fun q=> .inl q⟩
theorem jIH {w t:Int}{ms:List Int}(r:Ris w ms)(h0:0<=t)(h1:t<w):Ris w (trn t ms):=by
 refine⟨?_,fun z hz=>?_⟩
 ·unfold trn
  by_cases h:t∈ms
  ·rw[aB h]
   exact r.ris.filter _
  ·rw[av h]
   have nd:(srt (ms++[t])).Nodup:=(jDO _).nodup_iff.mpr (List.nodup_append.mpr ⟨r.ris.imp fun h=>by omega,bS.mpr ⟨ar,List.nodup_nil⟩,fun a ha b hb e=>by rw[aG.mp hb] at e; exact h (e ▸ ha)⟩)
   exact(List.Pairwise.and (jNH (ms++[t])) nd).imp fun {a b} ⟨x,y⟩=>by omega
 ·have:=trn_mem.mp hz
  by_cases e:z=t
  ·rw[e]; exact⟨h0,h1⟩
  ·rw[av e] at this
   exact r.bnd z this
end Eo
namespace L2
open PySem
open PySem.Spec PyProof.Rows
end L2
namespace Eo
open PySem L2
abbrev XOfX (C:Addr)(N:List Str)(q:Str)(st:Stmt)(P:Program)(w:World)(K:W.Frag)(mg:Str->Option Value)(base:Heap)(f:Addr)(cdv:Value)(A:Around)(outer:List Env)(s:Shared)(H:Hp)(E:XK):Cx:=cxOf (CXX P w C) P w K mg base N q (j9 st) f cdv A outer s H E
abbrev jCE:List Str:=["Held","NoCovering","NoDeed","NoOrder","NoPiece","NoRow","NoText","NoThing","NoWeight","TooMany"]
structure Kinds (K:W.Frag)(mg:Str->Option Value)(C:Addr)(cl:Nat->Addr)(ks:Nat->Bool):Prop where
 ei:ExcIs K C
 ml:∀ i x,jCE[i]?=some x->mg x=some (.ref (cl i))
 is_:∀ i,i<10->kitOne K (.ref C) (.ref (cl i))=some (ks i)
 ve:kitOne K (.ref C) (.type "ValueError")=some true
section
variable {cE:Addr}
abbrev XM (cE:Addr)(N:List Str)(q:Str)(st:Stmt)(P:Program)(w:World)(K:W.Frag)(mg:Str->Option Value)(base:Heap)(f:Addr)(cdv:Value)(A:Around)(outer:List Env)(s:Shared)(H:Hp)(E:XK):Cx:=XOfX cE N q st P w K mg base f cdv A outer s H E
abbrev Ref (H:Hp)(E:XK):Prop:=∀ a H',Ext H H'->E (.ref a) (some a) H'
def jIS (C:Addr):Sp:=fun vs H _ E=>∃ (sh l:Addr) (m:Bool) (x:Bx) (hs:List Bx),vs=[.ref sh, .bl m]/\ShopAt C H sh l x hs/\16<=x.1/\Ref H E
def jQU (M16:mg "MOST_THINGS" =some (.int 16 u1))(EK:ExcK K cE)(MX:mg "TooMany" =some (.ref cE))(hr:Room 1 (XM cE nPutT "Shop.put_thing" qX P w K mg base f cdv A outer s H0 E).nox.A): { t:TS // JSs (XM cE nPutT "Shop.put_thing" qX P w K mg base f cdv A outer s H0 E) (jG qX) t} :=
 have nd:=scPutT.nd
 ⟨_,(j8 (JS.nox (kP (i:=2) nd rfl loc_x (jT kR (kD (jv 0 rfl yS)) (jE) jO) qF)) (j8 (jR (JT.nox (jN op_ge (jv 2 rfl yS) (yG (v:= .int 16) gl_x M16 ⟨_,rfl⟩) (jL _))) (jC (jA4 rfl EK gl_x MX (j4 jP j7 jB))) jI) (j8 kQ (j8 kQ (jC kQ)))))⟩
theorem jM6 {fd:FuncData}(F:Fun K "put_thing" "Shop.put_thing" qX f fd)(SK:ShopK K C)(M16:mg "MOST_THINGS" =some (.int 16 u1))(EK:ExcK K cE)(MX:mg "TooMany" =some (.ref cE)):FnOk P w K mg base (CXX P w cE) 2 f fd ["self","must"] (jIS C):=by
 refine F.okX scPutT (fun vs H Q E h=>?_) (fun cdv A outer s H vs Q E hr h=>?_)
 ·obtain⟨_,_,_,_,_,rfl,_⟩:=h
  rfl
 ·obtain⟨sh,l,m,x,hs,rfl,S,w16,qE⟩:=h
  refine⟨_,(jQU M16 EK MX hr).2.h,?_⟩
  obtain⟨dx,b,us,h1,h2,h3,h4⟩:=id S.ex
  obtain⟨qm,qp,ps,b1,b2,b3,b4⟩:=id h2.ex
  refine⟨_,rfl,sh,C,dx,_,_,rfl,h1,SK.cl,SK.nk,rfl,b,_,0,_,rfl,rfl,SqT.of b1,rfl,?_⟩
  refine⟨_,rfl,_,_,rfl,rfl,_,rfl,?_⟩
  rw[aj (show x.1 ≥ 16 from w16)]
  exact iteT ⟨by show (1:Nat)<=_; decide,fun a=>qE a H (Ext.refl _)⟩
def jGA (C:Addr):Sp:=fun vs H _ E=>∃ (sh l:Addr) (v1 v2:V) (x:Bx) (hs:List Bx),vs=[.ref sh,v1,v2]/\ShopAt C H sh l x hs/\32<=x.2.2.length/\Ref H E
def jG9 (C:Addr):Sp:=fun vs H _ E=>∃ (sh l:Addr) (v1 v2:V) (o1:Ob) (x:Bx) (hs:List Bx),vs=[.ref sh,v1,v2]/\ShopAt C H sh l x hs/\x.2.2.length<32/\At H o1 v1/\(lotB x.1 o1=false\/o1= .tup [])/\Ref H E
def jG8 (C:Addr):Sp:=fun vs H _ E=>∃ (sh l:Addr) (v1 v2:V) (o1 o2:Ob) (x:Bx) (hs:List Bx),vs=[.ref sh,v1,v2]/\ShopAt C H sh l x hs/\x.2.2.length<32/\At H o1 v1/\lotB x.1 o1=true/\o1≠ .tup []/\At H o2 v2/\wtB o2=false/\Ref H E
section
variable (T:Txt mg)(CL:Can P w K mg base "is_lot" 3 fL fdL ["thing","many"] (spB2 lotB))(CG:Can P w K mg base "is_weight" 2 fG fdG ["thing"] (spB wtB))(M32:mg "MOST_PIECES" =some (.int 32 u1))(EK:ExcK K cE)(hr:Room 3 (XM cE nPutP "Shop.put_piece" yZ P w K mg base f cdv A outer s H0 E).nox.A)
def jOT (MX:mg "TooMany" =some (.ref cE)): { t:TS // JSs (XM cE nPutP "Shop.put_piece" yZ P w K mg base f cdv A outer s H0 E) (jG yZ) t} :=
 have nd:=scPutP.nd
 have _h:=CL; have _h2:=CG; have _h3:=hr
 ⟨_,(j8 (JS.nox (kP (i:=3) nd rfl loc_x (jT kR (kD (jv 0 rfl yS)) (jE) jO) qF)) (j8 (jR (JT.nox (jN op_ge (jH jJ gl_x T.len (by decide+kernel) (j4 (jv 3 rfl yS) j7 j6) j6) (yG (v:= .int 32) gl_x M32 ⟨_,rfl⟩) (jL _))) (jC (jA4 rfl EK gl_x MX (j4 jP j7 jB))) jI) (j8 kQ (j8 kQ (j8 kQ (jC kQ))))))⟩
def jOS (MX:mg "NoThing" =some (.ref cE)): { t:TS // JSs (XM cE nPutP "Shop.put_piece" yZ P w K mg base f cdv A outer s H0 E) (jG yZ) t} :=
 have nd:=scPutP.nd
 have _h2:=CG
 ⟨_,(j8 (JS.nox (kP (i:=3) nd rfl loc_x (jT kR (kD (jv 0 rfl yS)) (jE) jO) qF)) (j8 (JS.nox (jR (jN op_ge (jH jJ gl_x T.len (by decide+kernel) (j4 (jv 3 rfl yS) j7 j6) j6) (yG (v:= .int 32) gl_x M32 ⟨_,rfl⟩) (jL _)) (jC (kQ)) jI)) (j8 (jR (JT.nox (jt_w (xD (yB (jZ (CL.je hr gl_x (j4 (jv 1 rfl yS) (j4 (jT kR (kD (jv 0 rfl yS)) (jE) jO) j7 kT) j6) j6) jU)) (qS (jN yA (jH jJ gl_x T.len (by decide+kernel) (j4 (jv 1 rfl yS) j7 j6) j6) (jE) (jL _)))))) (jC (jA4 rfl EK gl_x MX (j4 jP j7 jB))) jI) (j8 kQ (j8 kQ (jC kQ))))))⟩
def jOR (MX:mg "NoWeight" =some (.ref cE)): { t:TS // JSs (XM cE nPutP "Shop.put_piece" yZ P w K mg base f cdv A outer s H0 E) (jG yZ) t} :=
 have nd:=scPutP.nd
 ⟨_,(j8 (JS.nox (kP (i:=3) nd rfl loc_x (jT kR (kD (jv 0 rfl yS)) (jE) jO) qF)) (j8 (JS.nox (jR (jN op_ge (jH jJ gl_x T.len (by decide+kernel) (j4 (jv 3 rfl yS) j7 j6) j6) (yG (v:= .int 32) gl_x M32 ⟨_,rfl⟩) (jL _)) (jC (kQ)) jI)) (j8 (JS.nox (jR (jt_w (xD (yB (jZ (CL.je hr gl_x (j4 (jv 1 rfl yS) (j4 (jT kR (kD (jv 0 rfl yS)) (jE) jO) j7 kT) j6) j6) jU)) (qS (jN yA (jH jJ gl_x T.len (by decide+kernel) (j4 (jv 1 rfl yS) j7 j6) j6) (jE) (jL _))))) (jC (kQ)) jI)) (j8 (jR (JT.nox (yB (jZ (CG.je (hr.mono (by decide)) gl_x (j4 (jv 2 rfl yS) j7 j6) j6) jU))) (jC (jA4 rfl EK gl_x MX (j4 jP j7 jB))) jI) (j8 kQ (jC kQ))))))⟩
end
theorem jJN {fd:FuncData}(F:Fun K "put_piece" "Shop.put_piece" yZ f fd)(T:Txt mg)(SK:ShopK K C)(CL:Can P w K mg base "is_lot" 3 fL fdL ["thing","many"] (spB2 lotB))(CG:Can P w K mg base "is_weight" 2 fG fdG ["thing"] (spB wtB))(M32:mg "MOST_PIECES" =some (.int 32 u1))(EK:ExcK K cE)(MX:mg "TooMany" =some (.ref cE)):FnOk P w K mg base (CXX P w cE) 4 f fd ["self","things","weight"] (jGA C):=by
 refine F.okX scPutP (fun vs H Q E h=>?_) (fun cdv A outer s H vs Q E hr h=>?_)
 ·obtain⟨_,_,_,_,_,_,rfl,_⟩:=h
  rfl
 ·obtain⟨sh,l,v1,v2,x,hs,rfl,S,pl,qE⟩:=h
  refine⟨_,(jOT T CL CG M32 EK hr MX).2.h,?_⟩
  obtain⟨dx,b,us,h1,h2,h3,h4⟩:=id S.ex
  obtain⟨qm,qp,ps,b1,b2,b3,b4⟩:=id h2.ex
  have psl:=b4.len
  refine⟨_,rfl,sh,C,dx,_,_,rfl,h1,SK.cl,SK.nk,rfl,b,_,2,_,rfl,rfl,SqT.of b1,rfl,?_⟩
  refine⟨_,rfl,qp,_,rfl, .inr (SqT.of b3),_,_,rfl,rfl,_,rfl,?_⟩
  rw[aj (show ((ps.length:Nat):Int) ≥ 32 by rw[psl]; omega)]
  exact iteT ⟨by show (1:Nat)<=_; decide,fun a=>qE a H (Ext.refl _)⟩
theorem jJM {fd:FuncData}(F:Fun K "put_piece" "Shop.put_piece" yZ f fd)(T:Txt mg)(SK:ShopK K C)(CL:Can P w K mg base "is_lot" 3 fL fdL ["thing","many"] (spB2 lotB))(CG:Can P w K mg base "is_weight" 2 fG fdG ["thing"] (spB wtB))(M32:mg "MOST_PIECES" =some (.int 32 u1))(EK:ExcK K cE)(MX:mg "NoThing" =some (.ref cE)):FnOk P w K mg base (CXX P w cE) 4 f fd ["self","things","weight"] (jG9 C):=by
 refine F.okX scPutP (fun vs H Q E h=>?_) (fun cdv A outer s H vs Q E hr h=>?_)
 ·obtain⟨_,_,_,_,_,_,_,rfl,_⟩:=h
  rfl
 ·obtain⟨sh,l,v1,v2,o1,x,hs,rfl,S,pl,ha,hb,qE⟩:=h
  refine⟨_,(jOS T CL CG M32 EK hr MX).2.h,?_⟩
  obtain⟨dx,b,us,h1,h2,h3,h4⟩:=id S.ex
  obtain⟨qm,qp,ps,b1,b2,b3,b4⟩:=id h2.ex
  have psl:=b4.len
  refine⟨_,rfl,sh,C,dx,_,_,rfl,h1,SK.cl,SK.nk,rfl,b,_,2,_,rfl,rfl,SqT.of b1,rfl,?_⟩
  refine⟨_,rfl,qp,_,rfl, .inr (SqT.of b3),_,_,rfl,rfl,_,rfl,iteN (aw (by rw[psl]; omega)) ?_⟩
  refine⟨_,rfl,_,rfl,sh,C,dx,_,_,rfl,h1,SK.cl,SK.nk,rfl,b,_,0,_,rfl,rfl,SqT.of b1,rfl,v1,o1,_,rfl,ha,fun H1 e1=>⟨_,rfl,?_⟩⟩
  by_cases hl:lotB x.1 o1=true
  ·rcases hb with z | z
   ·rw[hl] at z; cases z
   ·subst z
    obtain⟨a,vs,rfl,da,_,hx⟩:=ha
    have:vs=[]:=hx
    subst this
    rw[hl]
    refine iteN rfl ?_
    refine⟨_,rfl,a,_,rfl, .inr (SqT.of (e1 _ _ da)),rfl,_,rfl,?_⟩
    exact iteT ⟨by show (1:Nat)<=_; decide,fun a=>qE a H1 e1⟩
  ·rw[Bool.eq_false_iff.mpr hl]
   refine iteT (iteT ⟨by show (1:Nat)<=_; decide,fun a=>qE a H1 e1⟩)
theorem jJL {fd:FuncData}(F:Fun K "put_piece" "Shop.put_piece" yZ f fd)(T:Txt mg)(SK:ShopK K C)(CL:Can P w K mg base "is_lot" 3 fL fdL ["thing","many"] (spB2 lotB))(CG:Can P w K mg base "is_weight" 2 fG fdG ["thing"] (spB wtB))(M32:mg "MOST_PIECES" =some (.int 32 u1))(EK:ExcK K cE)(MX:mg "NoWeight" =some (.ref cE)):FnOk P w K mg base (CXX P w cE) 4 f fd ["self","things","weight"] (jG8 C):=by
 refine F.okX scPutP (fun vs H Q E h=>?_) (fun cdv A outer s H vs Q E hr h=>?_)
 ·obtain⟨_,_,_,_,_,_,_,_,rfl,_⟩:=h
  rfl
 ·obtain⟨sh,l,v1,v2,o1,o2,x,hs,rfl,S,pl,ha,hb,hn,ha2,hb2,qE⟩:=h
  refine⟨_,(jOR T CL CG M32 EK hr MX).2.h,?_⟩
  obtain⟨dx,b,us,h1,h2,h3,h4⟩:=id S.ex
  obtain⟨qm,qp,ps,b1,b2,b3,b4⟩:=id h2.ex
  have psl:=b4.len
  refine⟨_,rfl,sh,C,dx,_,_,rfl,h1,SK.cl,SK.nk,rfl,b,_,2,_,rfl,rfl,SqT.of b1,rfl,?_⟩
  refine⟨_,rfl,qp,_,rfl, .inr (SqT.of b3),_,_,rfl,rfl,_,rfl,iteN (aw (by rw[psl]; omega)) ?_⟩
  refine⟨_,rfl,_,rfl,sh,C,dx,_,_,rfl,h1,SK.cl,SK.nk,rfl,b,_,0,_,rfl,rfl,SqT.of b1,rfl,v1,o1,_,rfl,ha,fun H1 e1=>⟨_,rfl,?_⟩⟩
  rw[hb]
  refine iteN rfl ?_
  cases o1 with
  | int i=>cases hb
  | oth=>cases hb
  | tup os=>
   obtain⟨a,vs,rfl,da,_,hx⟩:=id ha
   have hl:=hx.len
   have l0:vs.length≠0:=fun z=>hn (by
    have:os=[]:=cS (by omega)
    rw[this])
   refine⟨_,rfl,a,_,rfl, .inr (SqT.of (e1 _ _ da)),rfl,_,rfl,iteN (aw fun z=>l0 (by have:=V.int.inj z; omega)) ?_⟩
   refine⟨_,rfl,v2,o2,rfl,ha2.ext e1,fun H2 e2=>⟨_,rfl,?_⟩⟩
   rw[hb2]
   exact iteT ⟨by show (1:Nat)<=_; decide,fun a=>qE a H2 (e1.trans e2)⟩
def jDE (C:Addr):Sp:=fun vs H _ E=>∃ (sh l:Addr) (v:V) (o:Ob) (x:Bx) (hs:List Bx),vs=[.ref sh,v]/\ShopAt C H sh l x hs/\At H o v/\lotB x.1 (.tup [o])=false/\Ref H E
def refXA (T:Txt mg)(CL:Can P w K mg base "is_lot" 3 fL fdL ["thing","many"] (spB2 lotB))(EK:ExcK K cE)(MX:mg "NoThing" =some (.ref cE))(hr:Room 3 (XM cE nRefT "Shop.refuse_no_thing" qW P w K mg base f cdv A outer s H0 E).nox.A): { t:TS // JSs (XM cE nRefT "Shop.refuse_no_thing" qW P w K mg base f cdv A outer s H0 E) (jG qW) t} :=
 have nd:=scRefT.nd
 have _h:=T
 ⟨_,(jC (jR (JT.nox (yB (jZ (CL.je hr gl_x (j4 (jM (j4 (jv 1 rfl yS) j7 j6)) (j4 (jT kR (kD (jv 0 rfl yS)) (jE) jO) j7 kT) jS) jS) jU))) (jC (jA4 rfl EK gl_x MX (j4 jP j7 jB))) jI))⟩
theorem jE8 {H:Hp}{r:Addr}{v:V}{o:Ob}(d:H r=some (.tup [v]))(h:At H o v):At H (.tup [o]) (.ref r):=⟨r,_,rfl,d,by show (1:Nat)<=100; decide,_,_,rfl,h,rfl⟩
theorem jJK {fd:FuncData}(F:Fun K "refuse_no_thing" "Shop.refuse_no_thing" qW f fd)(T:Txt mg)(SK:ShopK K C)(CL:Can P w K mg base "is_lot" 3 fL fdL ["thing","many"] (spB2 lotB))(EK:ExcK K cE)(MX:mg "NoThing" =some (.ref cE)):FnOk P w K mg base (CXX P w cE) 4 f fd ["self","thing"] (jDE C):=by
 refine F.okX scRefT (fun vs H Q E h=>?_) (fun cdv A outer s H vs Q E hr h=>?_)
 ·obtain⟨_,_,_,_,_,_,rfl,_⟩:=h
  rfl
 ·obtain⟨sh,l,v,o,x,hs,rfl,S,ha,hb,qE⟩:=h
  refine⟨_,(refXA T CL EK MX hr).2.h,?_⟩
  obtain⟨dx,b,us,h1,h2,h3,h4⟩:=id S.ex
  obtain⟨qm,qp,ps,b1,b2,b3,b4⟩:=id h2.ex
  refine⟨_,rfl,by show (1:Nat)<=_; decide,fun r H1 d1 e1=>?_⟩
  refine⟨_,rfl,sh,C,dx,_,_,rfl,e1 _ _ h1,SK.cl,SK.nk,rfl,b,_,0,_,rfl,rfl,SqT.of (e1 _ _ b1),rfl, .ref r,_,_,rfl,jE8 d1 (ha.ext e1),fun H2 e2=>⟨_,rfl,?_⟩⟩
  rw[hb]
  exact iteT ⟨by show (1:Nat)<=_; decide,fun a=>qE a H2 (e1.trans e2)⟩
section
variable (SK:ShopK K C)(MR:Meth K C "refuse_no_thing" fR)(F:FnOk P w K mg base (CXX P w cE) 4 fR fdR ["self","thing"] (jDE C))(BR:Binds K fdR ["self","thing"] [])
def jQC (hr:Room 4 (XM cE jC7 "Shop.turn_thing" yP P w K mg base f cdv A outer s H0 E).A): { t:TS // JSs (XM cE jC7 "Shop.turn_thing" yP P w K mg base f cdv A outer s H0 E) (jG yP) t} :=
 have nd:=scTurnT.nd
 ⟨_,(j8 (yN ⟨jFF (pv 0) SK.cl MR F hr BR .nil jGM (kJ (pv 1) yM)⟩ kI) (j8 kQ (j8 kQ (jC kQ))))⟩
def jLF (hr:Room 4 (XM cE jBJ "Shop.take_thing" yK P w K mg base f cdv A outer s H0 E).A): { t:TS // JSs (XM cE jBJ "Shop.take_thing" yK P w K mg base f cdv A outer s H0 E) (jG yK) t} :=
 have nd:=scTakeT.nd
 ⟨_,(j8 (yN ⟨jFF (pv 0) SK.cl MR F hr BR .nil jGM (kJ (pv 1) yM)⟩ kI) (j8 kQ (jC kQ)))⟩
include SK MR F BR
theorem jM1 {fd:FuncData}(FT:Fun K "turn_thing" "Shop.turn_thing" yP f fd):FnOk P w K mg base (CXX P w cE) 5 f fd ["self","thing"] (jDE C):=by
 refine FT.okX scTurnT (fun vs H Q E h=>?_) (fun cdv A outer s H vs Q E hr h=>?_)
 ·obtain⟨_,_,_,_,_,_,rfl,_⟩:=h
  rfl
 ·obtain⟨sh,l,v,o,x,hs,rfl,S,ha,hb,qE⟩:=h
  refine⟨_,(jQC SK MR F BR hr).2.h,?_⟩
  obtain⟨dx,b,us,h1,_⟩:=id S.ex
  exact⟨_,rfl,sh,dx,_,rfl,h1,rfl,_,rfl,sh,l,v,o,x,hs,rfl,S,ha,hb,qE⟩
theorem jHU {fd:FuncData}(FT:Fun K "take_thing" "Shop.take_thing" yK f fd):FnOk P w K mg base (CXX P w cE) 5 f fd ["self","thing"] (jDE C):=by
 refine FT.okX scTakeT (fun vs H Q E h=>?_) (fun cdv A outer s H vs Q E hr h=>?_)
 ·obtain⟨_,_,_,_,_,_,rfl,_⟩:=h
  rfl
 ·obtain⟨sh,l,v,o,x,hs,rfl,S,ha,hb,qE⟩:=h
  refine⟨_,(jLF SK MR F BR hr).2.h,?_⟩
  obtain⟨dx,b,us,h1,_⟩:=id S.ex
  exact⟨_,rfl,sh,dx,_,rfl,h1,rfl,_,rfl,sh,l,v,o,x,hs,rfl,S,ha,hb,qE⟩
end
def jNN (C:Addr):Sp:=fun vs H _ E=>∃ (sh l:Addr) (t:Int) (x:Bx) (hs:List Bx),vs=[.ref sh, .int t]/\ShopAt C H sh l x hs/\0<=t/\t<x.1/\x.2.2.length<=32/\(∃ pc∈x.2.2,t∈pc.1)/\Ref H E
def jLE (T:Txt mg)(CR:CanM P w K mg base C "refuse_no_thing" 4 fR fdR ["self","thing"] (jC2 C))(EK:ExcK K cE)(MX:mg "Held" =some (.ref cE))(hr:Room 4 (XM cE jBJ "Shop.take_thing" yK P w K mg base f cdv A outer s H0 E).nox.A): { t:TS // JSs (XM cE jBJ "Shop.take_thing" yK P w K mg base f cdv A outer s H0 E) (jG yK) t} :=
 have nd:=scTakeT.nd
 ⟨_,(j8 (JS.nox (yN (CR.je hr (jv 0 rfl yS) (j4 (jv 1 rfl (jQA (by decide+kernel))) j7 j6) j6) kI)) (j8 (jR (JT.nox (jZ (jH (jD8 rfl) gl_x T.any (by decide+kernel) (j4 (yE (m:=[none,some 1]) (Nc:=["piece","thing"]) rfl (qT (jT kR (kD (jv 0 rfl yS)) (jE) jO)) rfl (by decide+kernel) (by decide+kernel) (kW (psc:=j9 yK)) (jW (N:=jBJ) rfl rfl (by decide+kernel)) (fun cl C fp s H=>kB (i:=0) (show (["piece","thing"]:List Str).Nodup by decide+kernel) rfl qO) (fun cl C fp s H=>yV) (fun cl C fp s H=>(y0 jDW (jv 1 rfl yI) (jT jA3 (jv 0 rfl kO) (jE) jO) jNR)) jO1) j7 jV) jV) jU)) (jC (jA4 rfl EK gl_x MX (j4 jP j7 jB))) jI) (jC kQ)))⟩
theorem jHT {fd:FuncData}(F:Fun K "take_thing" "Shop.take_thing" yK f fd)(T:Txt mg)(SK:ShopK K C)(CR:CanM P w K mg base C "refuse_no_thing" 4 fR fdR ["self","thing"] (jC2 C))(EK:ExcK K cE)(MX:mg "Held" =some (.ref cE)):FnOk P w K mg base (CXX P w cE) 5 f fd ["self","thing"] (jNN C):=by
 refine F.okX scTakeT (fun vs H Q E h=>?_) (fun cdv A outer s H vs Q E hr h=>?_)
 ·obtain⟨_,_,_,_,_,rfl,_⟩:=h
  rfl
 ·obtain⟨sh,l,t,⟨wi,ms,ip⟩,hs,rfl,S,t0,t1,pl,⟨pc,hpc,htp⟩,qE⟩:=h
  refine⟨_,(jLE T CR EK MX hr).2.h,?_⟩
  obtain⟨dx,b,us,h1,h2,h3,h4⟩:=id S.ex
  obtain⟨qm,qp,ps,b1,b2,b3,b4⟩:=id h2.ex
  have b4:PcsAt H ps ip:=b4
  have psl:=b4.len
  have pl:ip.length<=32:=pl
  refine⟨_,rfl,sh,dx,_,rfl,h1,rfl,_,rfl,sh,l,t,_,hs,rfl,S,t0,t1,fun H1 e1=>?_⟩
  refine⟨_,rfl,sh,C,dx,_,_,rfl,e1 _ _ h1,SK.cl,SK.nk,rfl,b,_,2,_,rfl,rfl,SqT.of (e1 _ _ b1),rfl,qp,rfl,⟨_,SqT.of (e1 _ _ b3)⟩,jAO (xs:=ps) (fun σ=>∃ v,σ=[v,some (.int t)]) (mapZ ip fun pc=>V.bl (decide (t∈pc.1))) (mapZ.ok _ _) (e1 _ _ b3) (by rw[aC]; omega) ⟨_,rfl⟩ ?_ ?_⟩
  ·rintro j x σ' H2 zs hx ⟨v,rfl⟩ e2 hz S1 S2 yes no
   have jl:j<ip.length:=by rw[<- psl]; exact(ay.mp hx).1
   obtain⟨v',hv',r,qt,rfl,dr,dt⟩:=b4.get jl
   obtain rfl:=aM (hx.symm.trans hv')
   have E2:=e1.trans e2
   dsimp only [kX,qI]
   rw[aB rfl]
   refine⟨_,rfl,_,rfl,r,_,0,_,rfl,rfl,SqT.of (E2 _ _ dr),rfl,qt,_,rfl, .inr (SqT.of (E2 _ _ dt)),rfl,jAU _,?_⟩
   rw[show (if false=true then !inV (V.int t) ((ip.getD j ([],0)).1.map V.int) else inV (V.int t) ((ip.getD j ([],0)).1.map V.int))=inV (V.int t) ((ip.getD j ([],0)).1.map V.int) from av au,jBL]
   refine yes _ _ _ ⟨_,rfl⟩ (Ext.refl _) (hz.yes (x:=ip.getD j ([],0)) ?_)
   rw[aE,az jl]
   rfl
  ·rintro D H2 zs hD e2 n2 hz
   have hz:=hz.all (by omega)
   have hz2:zs=(ip.map fun pc=>decide (t∈pc.1)).map V.bl:=by rw[hz,cq]; rfl
   rw[hz2] at hD
   have a1:(ip.map fun pc=>decide (t∈pc.1)).any id=true:=bZ.mpr ⟨true,bc.mpr ⟨pc,hpc,aj htp⟩,rfl⟩
   refine⟨D,_,rfl,SqL.of hD,_,rfl,?_⟩
   rw[a1]
   exact iteT ⟨by show (1:Nat)<=_; decide,fun a=>qE a H2 (e1.trans e2)⟩
def jG6 (C:Addr):Sp:=fun vs H _ E=>∃ (sh l:Addr) (v:V) (o:Ob) (x:Bx) (hs:List Bx),vs=[.ref sh,v]/\ShopAt C H sh l x hs/\At H o v/\lotB (x.2.2.length:Int) (.tup [o])=false/\Ref H E
def jOC (T:Txt mg)(CL:Can P w K mg base "is_lot" 3 fL fdL ["thing","many"] (spB2 lotB))(EK:ExcK K cE)(MX:mg "NoPiece" =some (.ref cE))(hr:Room 3 (XM cE jEN "Shop.take_piece" qA P w K mg base f cdv A outer s H0 E).nox.A): { t:TS // JSs (XM cE jEN "Shop.take_piece" qA P w K mg base f cdv A outer s H0 E) (jG qA) t} :=
 have nd:=scTakeP.nd
 ⟨_,(j8 (JS.nox (kP (i:=2) nd rfl loc_x (jH jJ gl_x T.len (by decide+kernel) (j4 (jT kR (kD (jv 0 rfl yS)) (jE) jO) j7 kT) kT) kI)) (j8 (jR (JT.nox (yB (jZ (CL.je hr gl_x (j4 (jM (j4 (jv 1 rfl yS) j7 j6)) (j4 (jv 2 rfl yS) j7 j6) jS) jS) jU))) (jC (jA4 rfl EK gl_x MX (j4 jP j7 jB))) jI) (jC kQ)))⟩
theorem jJI {fd:FuncData}(F:Fun K "take_piece" "Shop.take_piece" qA f fd)(T:Txt mg)(SK:ShopK K C)(CL:Can P w K mg base "is_lot" 3 fL fdL ["thing","many"] (spB2 lotB))(EK:ExcK K cE)(MX:mg "NoPiece" =some (.ref cE)):FnOk P w K mg base (CXX P w cE) 4 f fd ["self","piece"] (jG6 C):=by
 refine F.okX scTakeP (fun vs H Q E h=>?_) (fun cdv A outer s H vs Q E hr h=>?_)
 ·obtain⟨_,_,_,_,_,_,rfl,_⟩:=h
  rfl
 ·obtain⟨sh,l,v,o,x,hs,rfl,S,ha,hb,qE⟩:=h
  refine⟨_,(jOC T CL EK MX hr).2.h,?_⟩
  obtain⟨dx,b,us,h1,h2,h3,h4⟩:=id S.ex
  obtain⟨qm,qp,ps,b1,b2,b3,b4⟩:=id h2.ex
  have psl:=b4.len
  refine⟨_,rfl,sh,C,dx,_,_,rfl,h1,SK.cl,SK.nk,rfl,b,_,2,_,rfl,rfl,SqT.of b1,rfl,qp,_,rfl, .inr (SqT.of b3),?_⟩
  refine⟨_,rfl,by show (1:Nat)<=_; decide,fun r H1 d1 e1=>?_⟩
  refine⟨_,rfl, .ref r,_,_,rfl,jE8 d1 (ha.ext e1),fun H2 e2=>⟨_,rfl,?_⟩⟩
  rw[psl,hb]
  exact iteT ⟨by show (1:Nat)<=_; decide,fun a=>qE a H2 (e1.trans e2)⟩
def jIN (C:Addr):Sp:=fun vs H _ E=>∃ (sh l:Addr) (x:Bx),vs=[.ref sh]/\ShopAt C H sh l x []/\Ref H E
def jQB (T:Txt mg)(EK:ExcK K cE)(MX:mg "NoDeed" =some (.ref cE)): { t:TS // JSs (XM cE nUndo "Shop.undo" qY P w K mg base f cdv A outer s H0 E) (jG qY) t} :=
 have nd:=scUndo.nd
 ⟨_,(j8 (jR (JT.nox (jN yA (jH jJ gl_x T.len (by decide+kernel) (j4 (kD (jv 0 rfl yS)) j7 jAB) jAB) (jE) (jL _))) (jC (jA4 rfl EK gl_x MX (j4 jP j7 jB))) jI) (jC kQ))⟩
theorem jM0 {fd:FuncData}(F:Fun K "undo" "Shop.undo" qY f fd)(T:Txt mg)(SK:ShopK K C)(EK:ExcK K cE)(MX:mg "NoDeed" =some (.ref cE)):FnOk P w K mg base (CXX P w cE) 2 f fd ["self"] (jIN C):=by
 refine F.okX scUndo (fun vs H Q E h=>?_) (fun cdv A outer s H vs Q E hr h=>?_)
 ·obtain⟨_,_,_,rfl,_⟩:=h
  rfl
 ·obtain⟨sh,l,x,rfl,S,qE⟩:=h
  refine⟨_,(jQB T EK MX).2.h,?_⟩
  obtain⟨dx,b,us,h1,h2,h3,h4⟩:=id S.ex
  have ul:=h4.len
  have:us=[]:=cS ul
  subst this
  refine⟨_,rfl,sh,C,dx,_,_,rfl,h1,SK.cl,SK.ne,rfl,l,_,rfl, .inl (SqL.of h3),rfl,_,rfl,?_⟩
  exact iteT ⟨by show (1:Nat)<=_; decide,fun a=>qE a H (Ext.refl _)⟩
def jIZ (C:Addr):Sp:=fun vs H Q _=>∃ (sh dx b l:Addr),vs=[.ref sh]/\H sh=some (.ins C dx [("kept", .ref b),("earlier", .ref l)])/\Q (.ref b) H
theorem scBoxM:FnScope nSelf ["self"] (j9 sBoxM):= {}
def boxMA: { t:TS // JSs (XOf nSelf "Shop.box" sBoxM P w K mg base f cdv A outer s H0 E) (jG sBoxM) t} :=
 have nd:=scBoxM.nd
 ⟨_,(jC (jQ (kD (jv 0 rfl vL))))⟩
theorem jPN {fd:FuncData}{C:Addr}(F:Fun K "box" "Shop.box" sBoxM f fd)(SK:ShopK K C):FnOk P w K mg base CX0 2 f fd ["self"] (jIZ C):=by
 refine F.ok scBoxM (fun vs H Q E h=>?_) (fun cdv A outer s H vs Q E hr h=>?_)
 ·obtain⟨_,_,_,_,rfl,_⟩:=h
  rfl
 ·obtain⟨sh,dx,b,l,rfl,h1,q⟩:=h
  exact⟨_,boxMA.2.h,_,rfl,sh,C,dx,_,_,rfl,h1,SK.cl,SK.nk,rfl,q⟩
end
end Eo
namespace L2
open PySem PySem.Spec PyProof.Rows
section
variable {X:Cx}
def jOM:V->List V->Hp->VK->Prop:=fun x vs H Q=>∃ (p:Addr) (xs:List V) (y v:V) (k:Nat),x= .ref p/\vs=[y]/\H p=some (.lst xs)/\qQ y=true/\xs.all qQ=true/\xs.length<=1000/\xs[k]?=some v/\eqV v y=true/\(∀ m v,m<k->xs[m]?=some v->eqV v y=false)/\Q (.int (k:Int)) H
theorem jJW:MtM X "list.index" jOM:=by
 intro ad s σ H x vs v us Q I rx rv h
 obtain⟨p,xs,y,v0,k,rfl,rfl,hp,fy,fs,hs,hk,hyes,hno,q⟩:=h
 cases rx
 obtain⟨u,rfl,ru⟩:=rv.one
 obtain⟨z,its,n,r,_,e0⟩:=I.lstM hp
 have hl:=r.length
 have hkl:k<its.length:=by rw[<- hl]; exact(ay.mp hk).1
 have fl:∀ m v,xs[m]?=some v->qQ v=true:=fun m v h=>aQ.mp fs v (aP h)
 refine cV F.slot_list_index ⟨_,e0,rfl⟩ F.entry_list_index (F.args_list_index_2 _ _) (SeqAt.list_indexAt p its.toArray n none #[] u (eqU y) k (by simpa using hkl) (by omega) ?_ fun m hm hmk=>?_) ⟨e0,fun w hw=>jB0 ru fy r fs w (by simpa using hw),?_⟩
 ·obtain⟨w,hw,rw'⟩:=r.get hk
  rw[az hkl] at hw
  show eqU y its[k]=true
  rw[aM hw,jEW rw' (fl k _ hk)]
  exact hyes
 ·have hm':m<its.length:=by simpa using hm
  have hx:xs[m]?=some xs[m]:=az (by omega)
  obtain⟨w,hw,rw'⟩:=r.get hx
  rw[az hm'] at hw
  show eqU y its[m]=false
  rw[aM hw,jEW rw' (fl m _ hx)]
  exact hno m _ hmk hx
 ·exact⟨.int _,H,I.tok _,⟨s.toks,rfl⟩,q⟩
end
end L2
namespace Eo
open PySem L2
noncomputable abbrev nWord:List Str:=["e","some"]
theorem scWord:FnScope nWord ["e"] (j9 sWord):= {}
def qJ:Nat->Str
 | 9=> "many" | 7=> "no thing" | 8=> "no weight" | 4=> "no piece" | 0=> "held" | 2=> "no deed" | _=> "other"
def wPl:Nat->Nat
 | 9=>0 | 7=>1 | 8=>2 | 4=>3 | 0=>4 | _=>5
def jDP (KL:List (Addr×Nat)):Addr->Sp:=fun x vs H Q _=>∃ (C:Addr) (c:Nat),(C,c)∈KL/\vs=[.ref x]/\H x=some (.ext (excP x C))/\∀ H',Ext H H'->Q (.str (qJ c)) H'
def wordA {C x:Addr}{cl:Nat->Addr}(T:Txt mg)(EI:ExcIs K C)(ML:∀ i x,jCE[i]?=some x->mg x=some (.ref (cl i)))(hr:RoomS 0 (cxS P w K mg base nWord "_law_shop_word" (j9 sWord) f cdv A outer s H0 E).A x): { t:TS // JSs (cxS P w K mg base nWord "_law_shop_word" (j9 sWord) f cdv A outer s H0 E) (jG sWord) t} :=
 have nd:=scWord.nd
 ⟨_,(j8 (kP (i:=1) nd rfl (loc_s (by decide+kernel)) (kN (j4 (jH (jA2 EI) gl_s T.isinstance (by decide+kernel) (j4 (jv 0 rfl xA) (j4 (yG (v:= .ref (cl 9)) gl_s (ML 9 _ rfl) rfl) j7 j6) j6) j6) (j4 (jH (jA2 EI) gl_s T.isinstance (by decide+kernel) (j4 (jv 0 rfl xA) (j4 (yG (v:= .ref (cl 7)) gl_s (ML 7 _ rfl) rfl) j7 j6) j6) j6) (j4 (jH (jA2 EI) gl_s T.isinstance (by decide+kernel) (j4 (jv 0 rfl xA) (j4 (yG (v:= .ref (cl 8)) gl_s (ML 8 _ rfl) rfl) j7 j6) j6) j6) (j4 (jH (jA2 EI) gl_s T.isinstance (by decide+kernel) (j4 (jv 0 rfl xA) (j4 (yG (v:= .ref (cl 4)) gl_s (ML 4 _ rfl) rfl) j7 j6) j6) j6) j7 jK) jK) jK) jK)) jG2)
   (j8 (kP (i:=1) nd rfl (loc_s (by decide+kernel)) (yL jLY (jv 1 rfl xA) (kN (j4 (jH (jA2 EI) gl_s T.isinstance (by decide+kernel) (j4 (jv 0 rfl xA) (j4 (yG (v:= .ref (cl 0)) gl_s (ML 0 _ rfl) rfl) j7 j6) j6) j6) (j4 (jH (jA2 EI) gl_s T.isinstance (by decide+kernel) (j4 (jv 0 rfl xA) (j4 (yG (v:= .ref (cl 2)) gl_s (ML 2 _ rfl) rfl) j7 j6) j6) j6) j7 jK) jK))) jQM)
   (j8 (jR (jt_w (xD (jN op_ne (je_bm bg PySem.F.slot_list_count PySem.F.type_list_count jJX (jv 1 rfl xA) (j4 (qU) j7 jB) jB) (jE) (jL _)) (qS (yB (jZ (jH (jA2 EI) gl_s T.isinstance (by decide+kernel) (j4 (jv 0 rfl xA) (j4 (yF (v:= .ty "ValueError") gl_s T.ValueError (by decide+kernel) rfl) j7 j6) j6) j6) jU))))) (jC (jQ (jP))) jI)
   (j8 (jR (jZ (jH (jE6 EI) gl_s T.isinstance (by decide+kernel) (j4 (jv 0 rfl xA) (j4 (jM (j4 (yG (v:= .ref (cl 1)) gl_s (ML 1 _ rfl) rfl) (j4 (yG (v:= .ref (cl 3)) gl_s (ML 3 _ rfl) rfl) (j4 (yG (v:= .ref (cl 5)) gl_s (ML 5 _ rfl) rfl) (j4 (yG (v:= .ref (cl 6)) gl_s (ML 6 _ rfl) rfl) j7 j6) j6) j6) j6)) j7 jS) j6) j6) jU) (jC (jQ (jP))) jI)
   (jC (jQ (jT yH (kN (j4 (jP) (j4 (jP) (j4 (jP) (j4 (jP) (j4 (jP) (j4 (jP) j7 jB) jB) jB) jB) jB) jB)) (je_bm bg dW dX jJW (jv 1 rfl xA) (j4 qU j7 jB) jB) jB8)))))))⟩
theorem jPB {fd:FuncData}{KL:List (Addr×Nat)}{cl:Nat->Addr}(F:Fun K "_law_shop_word" "_law_shop_word" sWord f fd)(T:Txt mg)(KD:∀ C c,(C,c)∈KL->Kinds K mg C cl fun i=>decide (i=c))(six:∀ C c,(C,c)∈KL->c∈[9,7,8,4,0,2]):FnS P w K mg base 1 f fd ["e"] (jDP KL):=by
 refine jS2 F scWord (fun x vs H Q E h=>?_) (fun cdv A outer s H vs Q E x hr h=>?_)
 ·obtain⟨_,_,_,rfl,_⟩:=h
  rfl
 ·obtain⟨C,c,mem,rfl,hx,q⟩:=h
  have k:=KD C c mem
  have hc:=six C c mem
  refine⟨_,(wordA T k.ei k.ml hr).2.h,?_⟩
  have ki:=k.is_
  have rr:∀ {a:Addr}(v:Value),RelV (.ref a) v->v= .ref a:=fun v h=>h
  refine⟨_,rfl,x,_,_,_,rfl,hx,rr,ki 9 (by decide),_,rfl,x,_,_,_,rfl,hx,rr,ki 7 (by decide),_,rfl,x,_,_,_,rfl,hx,rr,ki 8 (by decide),_,rfl,x,_,_,_,rfl,hx,rr,ki 4 (by decide),by show (4:Nat)<=_; decide,fun l1 H1 d1 e1 _=>?_⟩
  have hx1:=e1 _ _ hx
  refine⟨_,rfl,_,rfl,x,_,_,_,rfl,hx1,rr,ki 0 (by decide),_,rfl,x,_,_,_,rfl,hx1,rr,ki 2 (by decide),by show (2:Nat)<=_; decide,fun l2 H2 d2 e2 _=>?_⟩
  refine⟨l1,l2,_,_,rfl,rfl,e2 _ _ d1,d2,by show (6:Nat)<=_; decide,fun l3 H3 d3 e3 _=>?_⟩
  have hx3:=e3 _ _ (e2 _ _ hx1)
  have cnt:∀ c∈[9,7,8,4,0,2],(([V.bl (decide (9=c)),V.bl (decide (7=c)),V.bl (decide (8=c)),V.bl (decide (4=c))]++[V.bl (decide (0=c)),V.bl (decide (2=c))]).countP fun z=>eqV z (V.bl true))=1:=by decide
  have fl:([V.bl (decide (9=c)),V.bl (decide (7=c)),V.bl (decide (8=c)),V.bl (decide (4=c))]++[V.bl (decide (0=c)),V.bl (decide (2=c))]).all qQ=true:=rfl
  refine⟨_,rfl, .inl ⟨rfl,_,SqL.of d3⟩,l3,_,_,rfl,rfl,d3,rfl,fl,rfl,_,rfl,?_⟩
  rw[cnt c hc]
  refine iteN (by show (!decide (V.int ((1:Nat):Int)=V.int 1))=false; decide) ?_
  refine⟨_,rfl,x,_,_,_,rfl,hx3,(fun _ h=>h),k.ve,_,rfl,iteN rfl ?_⟩
  refine⟨_,rfl,by show (4:Nat)<=_; decide,fun t4 H4 d4 e4=>?_⟩
  have hx4:=e4 _ _ hx3
  refine⟨x,t4,[cl 1,cl 3,cl 5,cl 6],false,rfl,hx4,d4,jGW fun a ha=>?_,_,rfl,iteN rfl ?_⟩
  ·simp only [am,ar,aX] at ha
   have hn:∀ i,i∈[1,3,5,6]->decide (i=c)=false:=fun i hi=>aw fun z=>by
    subst z
    simp only [am,ar,aX] at hc hi
    omega
   rcases ha with rfl | rfl | rfl | rfl
   ·have:=ki 1 (by decide); rwa [hn 1 (by decide)] at this
   ·have:=ki 3 (by decide); rwa [hn 3 (by decide)] at this
   ·have:=ki 5 (by decide); rwa [hn 5 (by decide)] at this
   ·have:=ki 6 (by decide); rwa [hn 6 (by decide)] at this
  ·refine⟨by show (6:Nat)<=_; decide,fun l5 H5 d5 e5 _=>?_⟩
   have d35:=e5 _ _ (e4 _ _ d3)
   have key:∀ c∈[9,7,8,4,0,2],(∃ v,([V.bl (decide (9=c)),V.bl (decide (7=c)),V.bl (decide (8=c)),V.bl (decide (4=c))]++[V.bl (decide (0=c)),V.bl (decide (2=c))])[wPl c]?=some v/\eqV v (V.bl true)=true)/\(∀ m v,m<wPl c->([V.bl (decide (9=c)),V.bl (decide (7=c)),V.bl (decide (8=c)),V.bl (decide (4=c))]++[V.bl (decide (0=c)),V.bl (decide (2=c))])[m]?=some v->eqV v (V.bl true)=false)/\ [V.str "many",V.str "no thing",V.str "no weight",V.str "no piece",V.str "held",V.str "no deed"][wPl c]?=some (V.str (qJ c)):=by
    intro c hc
    simp only [am,ar,aX] at hc
    have go:∀ (L:List V) (n:Nat),(∀ m<n,(L[m]?.map fun v=>eqV v (V.bl true))=some false)->∀ m v,m<n->L[m]?=some v->eqV v (V.bl true)=false:=fun L n h m v hm hv=>by
     have:=h m hm
     rw[hv] at this
     exact aM this
    rcases hc with rfl | rfl | rfl | rfl | rfl | rfl
    ·exact⟨⟨_,rfl,rfl⟩,go _ 0 (by decide),rfl⟩
    ·exact⟨⟨_,rfl,rfl⟩,go _ 1 (by decide),rfl⟩
    ·exact⟨⟨_,rfl,rfl⟩,go _ 2 (by decide),rfl⟩
    ·exact⟨⟨_,rfl,rfl⟩,go _ 3 (by decide),rfl⟩
    ·exact⟨⟨_,rfl,rfl⟩,go _ 4 (by decide),rfl⟩
    ·exact⟨⟨_,rfl,rfl⟩,go _ 5 (by decide),rfl⟩
   obtain⟨⟨v,k1,k2⟩,k3,k4⟩:=key c hc
   refine⟨_,rfl, .inl ⟨rfl,_,SqL.of d35⟩,l3,_,_,v,wPl c,rfl,rfl,d35,rfl,fl,by show (6:Nat)<=1000; decide,k1,k2,k3,?_⟩
   exact⟨l5,_,((wPl c:Nat):Int),_,rfl,rfl,SqL.of d5,yQ k4,q H5 ((((e1.trans e2).trans e3).trans e4).trans e5)⟩
inductive Dd where
 | thg (m:Bool) | pce (o1 o2:Ob) | trn (o:Ob) | tkt (o:Ob) | tkp (o:Ob) | und
def ddW:Dd->Str
 | .thg _=> "thing" | .pce _ _=> "piece" | .trn _=> "turn" | .tkt _=> "take thing" | .tkp _=> "take piece" | .und=> "undo"
def ddV (H:Hp):Dd->V->V->Prop
 | .thg m,v1,_=>v1= .bl m
 | .pce o1 o2,v1,v2=>At H o1 v1/\At H o2 v2
 | .trn o,v1,_=>At H o v1
 | .tkt o,v1,_=>At H o v1
 | .tkp o,v1,_=>At H o v1
 | .und,_,_=>True
def DdAt (H:Hp)(v:V)(d:Dd):Prop:=∃ q v1 v2,v= .ref q/\H q=some (.tup [.str (ddW d),v1,v2])/\ddV H d v1 v2
def obTs:Ob->List Int
 | .tup os=>os.map val
 | _=> []
def refW (x:Bx)(hs:List Bx):Dd->Option Str
 | .thg _=>if 16<=x.1 then some "many" else none
 | .pce o1 o2=>if 32<=x.2.2.length then some "many" else if lotB x.1 o1=false\/obTs o1=[] then some "no thing" else if wtB o2=false then some "no weight" else none
 | .trn o=>if lotB x.1 (.tup [o])=false then some "no thing" else none
 | .tkt o=>if lotB x.1 (.tup [o])=false then some "no thing" else if (x.2.2.any fun pc=>decide (val o∈pc.1))=true then some "held" else none
 | .tkp o=>if lotB (x.2.2.length:Int) (.tup [o])=false then some "no piece" else none
 | .und=>if hs=[] then some "no deed" else none
def newB (x:Bx)(hs:List Bx):Dd->Bx×List Bx
 | .thg m=>((x.1+1,if m=true then x.2.1 else x.2.1++[x.1],x.2.2),hs++[x])
 | .pce o1 o2=>((x.1,x.2.1,x.2.2++[(obTs o1,val o2)]),hs++[x])
 | .trn o=>((x.1,trn (val o) x.2.1,x.2.2),hs++[x])
 | .tkt o=>(lss (val o) x,hs++[x])
 | .tkp o=>(lsp (val o) x,hs++[x])
 | .und=>(hs.getLastD x,hs.dropLast)
def tellT (x:Bx):Dd->Tr
 | .thg _=> .int x.1
 | .pce _ _=> .int (x.2.2.length:Int)
 | _=> .non
theorem jA6 {n:Int}{o:Ob}(h:¬ lotB n (.tup [o])=false):∃ t,o= .int t/\0<=t/\t<n:=by
 have h:lotB n (.tup [o])=true:=by cases z:lotB n (.tup [o]) with
  | true=>rfl
  | false=>exact absurd z h
 have h:(([o]:List Ob).all (upB 0 (n - 1))&&(adj (([o]:List Ob).map val)).all id)=true:=h
 have h1:=(ce.mp h).1
 have h2:upB 0 (n - 1) o=true:=aQ.mp h1 o (aJ ..)
 cases o with
 | int t=>
  have h2:(decide (0<=t)&&decide (t<=n - 1))=true:=h2
  obtain⟨a,b⟩:=ce.mp h2
  have a:=ai a
  have b:=ai b
  exact⟨t,rfl,a,by omega⟩
 | oth=>cases h2
 | tup os=>cases h2
theorem jNW {H:Hp}{n:Int}{o:Ob}{v:V}(h:¬ lotB n o=false)(hA:At H o v):∃ a,v= .ref a/\H a=some (.tup ((obTs o).map V.int))/\(obTs o).Pairwise (· < ·)/\∀ k∈obTs o,0<=k/\k<n:=by
 have h:lotB n o=true:=by cases z:lotB n o with
  | true=>rfl
  | false=>exact absurd z h
 cases o with
 | int i=>cases h
 | oth=>cases h
 | tup os=>
  obtain⟨a,vs,rfl,da,_,hx⟩:=hA
  obtain⟨e,p,b⟩:=jGT h hx
  exact⟨a,rfl,by rw[da,e]; rfl,p,b⟩
theorem jID {o:Ob}(h:¬ wtB o=false):∃ t,o= .int t/\ -1000000000000<=t/\t<=1000000000000:=by
 cases o with
 | int t=>
  have h:¬ (decide ((-1000000000000:Int)<=t)&&decide (t<=1000000000000))=false:=h
  have h:(decide ((-1000000000000:Int)<=t)&&decide (t<=1000000000000))=true:=by
   cases z:(decide ((-1000000000000:Int)<=t)&&decide (t<=1000000000000)) with
   | true=>rfl
   | false=>exact absurd z h
  obtain⟨a,b⟩:=ce.mp h
  exact⟨t,rfl,ai a,ai b⟩
 | oth=>exact absurd rfl h
 | tup os=>exact absurd rfl h
section
variable {cM cT cW cP cH cD cO gT gP gN gX gY gU:Addr}{gdT gdP gdN gdX gdY gdU:FuncData}{KL:List (Addr×Nat)}
abbrev to1 (sp:Sp)(C:Addr):Sp:=fun vs H Q E=>sp vs H Q fun _ ox H'=>E (.ref C) ox H'
abbrev jIT (C cM:Addr):Sp:=fun vs H Q E=>jNK C vs H Q E\/to1 (jIS C) cM vs H Q E
abbrev jIU (C cM cT cW:Addr):Sp:=fun vs H Q E=>((jNL C vs H Q E\/to1 (jGA C) cM vs H Q E)\/to1 (jG9 C) cT vs H Q E)\/to1 (jG8 C) cW vs H Q E
abbrev jG4 (C cT:Addr):Sp:=fun vs H Q E=>jIP C vs H Q E\/to1 (jDE C) cT vs H Q E
abbrev jG5 (C tb cT cH:Addr):Sp:=fun vs H Q E=>(jIQ C tb vs H Q E\/to1 (jDE C) cT vs H Q E)\/to1 (jNN C) cH vs H Q E
abbrev jG7 (C tb cP:Addr):Sp:=fun vs H Q E=>jIR C tb vs H Q E\/to1 (jG6 C) cP vs H Q E
abbrev jIO (C cD:Addr):Sp:=fun vs H Q E=>jNJ C vs H Q E\/to1 (jIN C) cD vs H Q E
structure TW (P:Program)(w:World)(K:W.Frag)(mg:Str->Option Value)(base:Heap)(KL:List (Addr×Nat))(C cM cT cW cP cH cD cO gT gP gN gX gY gU fW tb:Addr)(gdT gdP gdN gdX gdY gdU fdW:FuncData):Prop where
 MT:CanMN (KL.map Prod.fst) P w K mg base C "put_thing" 3 gT gdT ["self","must"] (jIT C cM)
 MP:CanMN (KL.map Prod.fst) P w K mg base C "put_piece" 4 gP gdP ["self","things","weight"] (jIU C cM cT cW)
 MN:CanMN (KL.map Prod.fst) P w K mg base C "turn_thing" 5 gN gdN ["self","thing"] (jG4 C cT)
 MX:CanMN (KL.map Prod.fst) P w K mg base C "take_thing" 5 gX gdX ["self","thing"] (jG5 C tb cT cH)
 MY:CanMN (KL.map Prod.fst) P w K mg base C "take_piece" 4 gY gdY ["self","piece"] (jG7 C tb cP)
 MU:CanMN (KL.map Prod.fst) P w K mg base C "undo" 2 gU gdU ["self"] (jIO C cD)
 CW:CanS P w K mg base "_law_shop_word" 1 fW fdW ["e"] (jDP KL)
 MO:mg "OnceError" =some (.ref cO)
 AB:∀ p∈KL,qR K p.1 cO
 eM:(cM,9)∈KL
 eT:(cT,7)∈KL
 eW:(cW,8)∈KL
 eP:(cP,4)∈KL
 eH:(cH,0)∈KL
 eD:(cD,2)∈KL
abbrev jGR:List Str:=["shop","deed","way","one","other","e"]
theorem scSTold:FnScope jGR ["shop","deed"] (j9 jBG):= {}
def jQN (G:TW P w K mg base KL C cM cT cW cP cH cD cO gT gP gN gX gY gU fW tb gdT gdP gdN gdX gdY gdU fdW)(hr:Room 5 (XOf jGR "_law_shop_told" jBG P w K mg base f cdv A outer s H0 E).A): { t:TS // JSs (XOf jGR "_law_shop_told" jBG P w K mg base f cdv A outer s H0 E) (jG jBG) t} :=
 have nd:=scSTold.nd
 ⟨_,(j8 (jER (jv 1 rfl vL) (jH0 (i:=2) (j:=3) (l:=4) nd rfl rfl rfl (by decide+kernel) (by decide+kernel) (by decide+kernel))) (jC (jRV (j:=5) nd rfl (show (j9 jBG).names.lookup (("e" :String):Str)=some NameKind.local by decide+kernel) (jb_if (jN yA (jv 2 rfl vL) (jP) (jL _)) (jDJ (G.MT.jx (hr.mono (by decide)) (jv 0 rfl vL) (j4 (jv 3 rfl vL) j7 j6) rfl j6)) (jb_if (jN yA (jv 2 rfl vL) (jP) (jL _)) (jDJ (G.MP.jx (hr.mono (by decide)) (jv 0 rfl vL) (j4 (jv 3 rfl vL) (j4 (jv 4 rfl vL) j7 j6) j6) rfl j6)) (jb_if (jN yA (jv 2 rfl vL) (jP) (jL _)) (jDJ (G.MN.jx hr (jv 0 rfl vL) (j4 (jv 3 rfl vL) j7 j6) rfl j6)) (jb_if (jN yA (jv 2 rfl vL) (jP) (jL _)) (jDJ (G.MX.jx hr (jv 0 rfl vL) (j4 (jv 3 rfl vL) j7 j6) rfl j6)) (jb_if (jN yA (jv 2 rfl vL) (jP) (jL _)) (jDJ (G.MY.jx (hr.mono (by decide)) (jv 0 rfl vL) (j4 (jv 3 rfl vL) j7 j6) rfl j6)) (jDJ (G.MU.jx0 (hr.mono (by decide)) (jv 0 rfl vL) rfl))))))) gD G.MO rfl rfl (fun x=>(jC (jQ (jMJ G.CW.G (Room.suite (hr.mono (by decide)) x) (gl_u gD) G.CW.m G.CW.kp G.CW.b (j4 (jv 5 rfl (vis_u vL)) j7 j6) j6)))))))⟩
def jFA (C tb:Addr):Sp:=fun vs H Q _=>∃ (sh l:Addr) (v:V) (d:Dd) (x:Bx) (hs:List Bx),vs=[.ref sh,v]/\ShopAt C H sh l x hs/\Good 16 32 x.1 x.2.1 x.2.2/\hs.length<=1000/\DdAt H v d/\TabP H tb/\(∀ r,refW x hs d=some r->∀ H',Ext H H'->Q (.str r) H')/\(refW x hs d=none->∀ u H',TAt H' (tellT x d) u->ShopAt C H' sh l (newB x hs d).1 (newB x hs d).2->TabP H' tb->(∀ c o,H c=some o->c≠tb->c≠sh->c≠l->H' c=some o)->Q u H')
theorem neS {a b:Str}(h:a≠b):decide (V.str a=V.str b)=false:=aw fun z=>h (V.str.inj z)
theorem jM5 {fd:FuncData}(F:Fun K "_law_shop_told" "_law_shop_told" jBG f fd)(G:TW P w K mg base KL C cM cT cW cP cH cD cO gT gP gN gX gY gU fW tb gdT gdP gdN gdX gdY gdU fdW):FnOk P w K mg base CX0 6 f fd ["shop","deed"] (jFA C tb):=by
 refine F.ok scSTold (fun vs H Q E h=>?_) (fun cdv A outer s H vs Q E hr h=>?_)
 ·obtain⟨_,_,_,_,_,_,rfl,_⟩:=h
  rfl
 ·obtain⟨sh,l,v,d,x,hs,rfl,S,g,hl,⟨qd,v1,v2,rfl,dd,dv⟩,tab,qn,qy⟩:=h
  refine⟨_,(jQN G hr).2.h,?_⟩
  obtain⟨dx,b,us,h1,h2,h3,h4⟩:=id S.ex
  have ml:=yU g.mr.ris g.mr.bnd g.w1
  refine⟨_,rfl,qd,_,rfl,SqT.of dd,rfl,_,_,rfl,_,_,rfl,_,_,rfl,rfl,?_⟩
  have rf:∀ {C0:Addr}{c0:Nat},(C0,c0)∈KL->refW x hs d=some (qJ c0)->∀ (a:Addr) (H':Hp),Ext H H'->∀ (y D:Addr),Value.ref C0=Value.ref D->some a=some y->H' y=none->qR K D cO/\(tRet (tCall (jDP KL y) [] E0 (tCons (tVar 5) tNil))) (Dh { nx:=fun _ H'=>Q .non H',rt:=Q} 5) (((((L2.start jGR [V.ref sh,V.ref qd]).set 2 (some (V.str (ddW d)))).set 3 (some v1)).set 4 (some v2)).set 5 (some (.ref y))) (L2.upd H' y (.ext (excP y D))):=fun {C0 c0} hm hw a H' e y D z1 z2 hy=>by
   cases z1
   cases z2
   exact⟨G.AB _ hm,_,rfl,C0,c0,hm,rfl,jA,fun H2 e2=>qn _ hw H2 ((e.new hy _).trans e2)⟩
  have fr2:∀ {H':Hp},Fr2 sh l H H'->∀ c o,H c=some o->c≠tb->c≠sh->c≠l->H' c=some o:=fun f c o h _ m1 m2=>f c o h m1 m2
  have tb2:∀ {H':Hp},Fr2 sh l H H'->TabP H' tb:=fun f=>TabOk.keepO tab (f.other S)
  cases d with
  | thg m=>
   obtain rfl:v1= .bl m:=dv
   refine⟨_,rfl,rfl,_,rfl,ite2 (fun _=>?_) (fun z=>absurd (aj rfl) z)⟩
   refine⟨_,rfl,sh,dx,_,rfl,h1,rfl,_,rfl,?_⟩
   by_cases h16:16<=x.1
   ·have hw:refW x hs (.thg m)=some (qJ 9):=aB h16
    exact .inr ⟨sh,l,m,x,hs,rfl,S,h16,fun a H' e=>rf G.eM hw a H' e⟩
   ·have hw:refW x hs (.thg m)=none:=av h16
    exact .inl ⟨sh,l,m,x.1,x.2.1,x.2.2,hs,rfl,S,by omega,by omega,hl,fun H' S' f'=>qy hw _ H' rfl S' (tb2 f') (fr2 f')⟩
  | pce o1 o2=>
   obtain⟨a1,a2⟩:=dv
   refine⟨_,rfl,rfl,_,rfl,ite2 (fun z=>absurd (V.str.inj (ai z)) (show ("piece" :Str)≠ "thing" by decide)) (fun _=>?_)⟩
   refine⟨_,rfl,rfl,_,rfl,ite2 (fun _=>?_) (fun z=>absurd (aj rfl) z)⟩
   refine⟨_,rfl,sh,dx,_,rfl,h1,rfl,_,rfl,_,rfl,?_⟩
   by_cases p32:32<=x.2.2.length
   ·have hw:refW x hs (.pce o1 o2)=some (qJ 9):=aB p32
    exact .inl (.inl (.inr ⟨sh,l,v1,v2,x,hs,rfl,S,p32,fun a H' e=>rf G.eM hw a H' e⟩))
   ·by_cases hb:lotB x.1 o1=false\/obTs o1=[]
    ·have hw:refW x hs (.pce o1 o2)=some (qJ 7):=(av p32).trans (aB hb)
     refine .inl (.inr ⟨sh,l,v1,v2,o1,x,hs,rfl,S,by omega,a1,?_,fun a H' e=>rf G.eT hw a H' e⟩)
     rcases hb with z | z
     ·exact .inl z
     ·by_cases hf:lotB x.1 o1=false
      ·exact .inl hf
      ·right
       cases o1 with
       | int i=>exact absurd rfl hf
       | oth=>exact absurd rfl hf
       | tup os=>rw[fq.mp z]
    ·by_cases hw2:wtB o2=false
     ·have hw:refW x hs (.pce o1 o2)=some (qJ 8):=((av p32).trans (av hb)).trans (aB hw2)
      have hl1:lotB x.1 o1=true:=by
       cases z:lotB x.1 o1 with
       | true=>rfl
       | false=>exact absurd (.inl z) hb
      exact .inr ⟨sh,l,v1,v2,o1,o2,x,hs,rfl,S,by omega,a1,hl1,fun z=>hb (.inr (by rw[z]; rfl)),a2,hw2,fun a H' e=>rf G.eW hw a H' e⟩
     ·have hw:refW x hs (.pce o1 o2)=none:=((av p32).trans (av hb)).trans (av hw2)
      obtain⟨ta,rfl,dt,pr,bb⟩:=jNW (fun z=>hb (.inl z)) a1
      obtain⟨z,rfl,z1,z2⟩:=jID hw2
      obtain rfl:v2= .int z:=a2
      exact .inl (.inl (.inl ⟨sh,l,ta,obTs o1,z,x.1,x.2.1,x.2.2,hs,rfl,S,dt,⟨⟨pr,bb,fun e=>hb (.inr e)⟩,z1,z2⟩,g.w1,by omega,hl,fun H' S' f'=>qy hw _ H' rfl S' (tb2 f') (fr2 f')⟩))
  | trn o=>
   refine⟨_,rfl,rfl,_,rfl,ite2 (fun z=>absurd (V.str.inj (ai z)) (show ("turn" :Str)≠ "thing" by decide)) (fun _=>?_)⟩
   refine⟨_,rfl,rfl,_,rfl,ite2 (fun z=>absurd (V.str.inj (ai z)) (show ("turn" :Str)≠ "piece" by decide)) (fun _=>?_)⟩
   refine⟨_,rfl,rfl,_,rfl,ite2 (fun _=>?_) (fun z=>absurd (aj rfl) z)⟩
   refine⟨_,rfl,sh,dx,_,rfl,h1,rfl,_,rfl,?_⟩
   by_cases hb:lotB x.1 (.tup [o])=false
   ·have hw:refW x hs (.trn o)=some (qJ 7):=aB hb
    exact .inr ⟨sh,l,v1,o,x,hs,rfl,S,dv,hb,fun a H' e=>rf G.eT hw a H' e⟩
   ·have hw:refW x hs (.trn o)=none:=av hb
    obtain⟨t,rfl,t0,t1⟩:=jA6 hb
    obtain rfl:v1= .int t:=dv
    exact .inl ⟨sh,l,t,x.1,x.2.1,x.2.2,hs,rfl,S,t0,t1,by omega,hl,fun H' S' f'=>qy hw _ H' rfl S' (tb2 f') (fr2 f')⟩
  | tkt o=>
   refine⟨_,rfl,rfl,_,rfl,ite2 (fun z=>absurd (V.str.inj (ai z)) (show ("take thing" :Str)≠ "thing" by decide)) (fun _=>?_)⟩
   refine⟨_,rfl,rfl,_,rfl,ite2 (fun z=>absurd (V.str.inj (ai z)) (show ("take thing" :Str)≠ "piece" by decide)) (fun _=>?_)⟩
   refine⟨_,rfl,rfl,_,rfl,ite2 (fun z=>absurd (V.str.inj (ai z)) (show ("take thing" :Str)≠ "turn" by decide)) (fun _=>?_)⟩
   refine⟨_,rfl,rfl,_,rfl,ite2 (fun _=>?_) (fun z=>absurd (aj rfl) z)⟩
   refine⟨_,rfl,sh,dx,_,rfl,h1,rfl,_,rfl,?_⟩
   by_cases hb:lotB x.1 (.tup [o])=false
   ·have hw:refW x hs (.tkt o)=some (qJ 7):=aB hb
    exact .inl (.inr ⟨sh,l,v1,o,x,hs,rfl,S,dv,hb,fun a H' e=>rf G.eT hw a H' e⟩)
   ·obtain⟨t,rfl,t0,t1⟩:=jA6 hb
    obtain rfl:v1= .int t:=dv
    by_cases hh:(x.2.2.any fun pc=>decide (t∈pc.1))=true
    ·have hw:refW x hs (.tkt (.int t))=some (qJ 0):=(av hb).trans (aB hh)
     obtain⟨pc,hpc,ht⟩:=bZ.mp hh
     exact .inr ⟨sh,l,t,x,hs,rfl,S,t0,t1,by have:=g.pl; omega,⟨pc,hpc,ai ht⟩,fun a H' e=>rf G.eH hw a H' e⟩
    ·have hw:refW x hs (.tkt (.int t))=none:=(av hb).trans (av hh)
     exact .inl (.inl ⟨sh,l,t,x.1,x.2.1,x.2.2,hs,rfl,S,g,t0,t1,fun pc hpc hm=>hh (bZ.mpr ⟨pc,hpc,aj hm⟩),hl,tab,fun H' S' t' k'=>qy hw _ H' rfl S' t' k'⟩)
  | tkp o=>
   refine⟨_,rfl,rfl,_,rfl,ite2 (fun z=>absurd (V.str.inj (ai z)) (show ("take piece" :Str)≠ "thing" by decide)) (fun _=>?_)⟩
   refine⟨_,rfl,rfl,_,rfl,ite2 (fun z=>absurd (V.str.inj (ai z)) (show ("take piece" :Str)≠ "piece" by decide)) (fun _=>?_)⟩
   refine⟨_,rfl,rfl,_,rfl,ite2 (fun z=>absurd (V.str.inj (ai z)) (show ("take piece" :Str)≠ "turn" by decide)) (fun _=>?_)⟩
   refine⟨_,rfl,rfl,_,rfl,ite2 (fun z=>absurd (V.str.inj (ai z)) (show ("take piece" :Str)≠ "take thing" by decide)) (fun _=>?_)⟩
   refine⟨_,rfl,rfl,_,rfl,ite2 (fun _=>?_) (fun z=>absurd (aj rfl) z)⟩
   refine⟨_,rfl,sh,dx,_,rfl,h1,rfl,_,rfl,?_⟩
   by_cases hb:lotB (x.2.2.length:Int) (.tup [o])=false
   ·have hw:refW x hs (.tkp o)=some (qJ 4):=aB hb
    exact .inr ⟨sh,l,v1,o,x,hs,rfl,S,dv,hb,fun a H' e=>rf G.eP hw a H' e⟩
   ·have hw:refW x hs (.tkp o)=none:=av hb
    obtain⟨t,rfl,t0,t1⟩:=jA6 hb
    obtain rfl:v1= .int t:=dv
    exact .inl ⟨sh,l,t,x.1,x.2.1,x.2.2,hs,rfl,S,g,t0,t1,hl,tab,fun H' S' t' k'=>qy hw _ H' rfl S' t' k'⟩
  | und=>
   refine⟨_,rfl,rfl,_,rfl,ite2 (fun z=>absurd (V.str.inj (ai z)) (show ("undo" :Str)≠ "thing" by decide)) (fun _=>?_)⟩
   refine⟨_,rfl,rfl,_,rfl,ite2 (fun z=>absurd (V.str.inj (ai z)) (show ("undo" :Str)≠ "piece" by decide)) (fun _=>?_)⟩
   refine⟨_,rfl,rfl,_,rfl,ite2 (fun z=>absurd (V.str.inj (ai z)) (show ("undo" :Str)≠ "turn" by decide)) (fun _=>?_)⟩
   refine⟨_,rfl,rfl,_,rfl,ite2 (fun z=>absurd (V.str.inj (ai z)) (show ("undo" :Str)≠ "take thing" by decide)) (fun _=>?_)⟩
   refine⟨_,rfl,rfl,_,rfl,ite2 (fun z=>absurd (V.str.inj (ai z)) (show ("undo" :Str)≠ "take piece" by decide)) (fun _=>?_)⟩
   refine⟨_,rfl,sh,dx,_,rfl,h1,rfl,?_⟩
   by_cases hb:hs=[]
   ·have hw:refW x hs .und=some (qJ 2):=aB hb
    subst hb
    exact .inr ⟨sh,l,x,rfl,S,fun a H' e=>rf G.eD hw a H' e⟩
   ·have hw:refW x hs .und=none:=av hb
    have eh:hs=hs.dropLast++[hs.getLastD x]:=by
     have:=fg hb
     rw[bW,gf hb]
     exact this.symm
    have S':ShopAt C H sh l x (hs.dropLast++[hs.getLastD x]):=eh ▸ S
    exact .inl ⟨sh,l,x,hs.getLastD x,hs.dropLast,rfl,S',fun H' S2 f'=>qy hw _ H' rfl S2 (tb2 f') (fr2 f')⟩
end
end Eo
namespace L2
open PySem
section
variable {P:Program}{w:World}{K:W.Frag}{mg:Str->Option Value}{base:Heap}{N:List Str}{qual:Str}{sc:Scope}{f:Addr}{cdv:Value}{A:Around}{outer:List Env}{s:Shared}{H:Hp}{E:XK}{x y z:Str}{p1 p2 p3 pos:Pos}{k i j l:Nat}
theorem jH1 (hN:N.Nodup)(hi:N[i]?=some x)(hj:N[j]?=some y)(hl:N[l]?=some z)(hx:Loc1 (cxOf CX0 P w K mg base N qual sc f cdv A outer s H E).nox x)(hy:Loc1 (cxOf CX0 P w K mg base N qual sc f cdv A outer s H E).nox y)(hz:Loc1 (cxOf CX0 P w K mg base N qual sc f cdv A outer s H E).nox z):
  JG (cxOf CX0 P w K mg base N qual sc f cdv A outer s H E).nox (.Tuple [.Name x p1, .Name y p2, .Name z p3] k pos) (gTup K 3 (qP (kX i) (qP (kX j) (qP (kX l) gNil)))):=
 jGZ (X:=(cxOf CX0 P w K mg base N qual sc f cdv A outer s H E).nox) rfl (yO (kB hN hi hx) (yO (kB hN hj hy) (yO (kB hN hl hz) jCZ yY) yY) yY)
end
end L2
namespace Eo
open PySem L2
section
variable {w:Int}{ms:List Int}{ip:List (List Int×Int)}(g:Good 16 32 w ms ip)
include g
theorem pickU (ks:List Int)(hk:∀ k∈ks,0<=k/\k<ip.length):pick (upto w.toNat) ip ks=ks.map fun k=>ip.getD k.toNat ([],0):=by
 unfold pick
 refine fo fun k h=>?_
 have hb:=hk k h
 have gp:=g.at (k:=k.toNat) (by omega)
 have w0:=g.w0
 unfold yT
 rw[jGQ (n:=w.toNat) gp.lot.ris fun t ht=>by have:=gp.lot.bnd t ht; omega]
theorem jNV {k:Nat}(h:k<ip.length):lsp (k:Int) (w,ms,ip)=(w,ms,ip.take k++ip.drop (k+1)):=by
 have w0:=g.w0
 unfold lsp
 show ((((upto w.toNat).length:Nat):Int),nmd (upto w.toNat) ms,pick (upto w.toNat) ip (allB (k:Int) ip.length))=_
 rw[yC,gZ w0,jGQ g.mr.ris fun t ht=>by have:=g.mr.bnd t ht; omega,pickU g _ fun z hz=>(jCH hz).1]
 congr 2
 have ea:allB (k:Int) ip.length=upto k++(List.range (ip.length - (k+1))).map (fun j=>((k+1+j:Nat):Int)):=by
  refine jJ4 (jC1 _ _) ?_ fun z=>?_
  ·refine eZ.mpr ⟨(jA5 k).ris,dk.mpr (eC.imp fun {a b} h=>by omega),fun a ha b hb=>?_⟩
   have:=mem_upto.mp ha
   obtain⟨j,_,rfl⟩:=bc.mp hb
   omega
  ·rw[bq]
   constructor
   ·intro hz
    obtain⟨⟨z0,z1⟩,zk⟩:=jCH hz
    by_cases hlt:z<(k:Int)
    ·exact .inl (mem_upto.mpr ⟨z0,hlt⟩)
    ·exact .inr (bc.mpr ⟨(z - (k+1:Nat)).toNat,bj.mpr (by omega),by omega⟩)
   ·intro hz
    have:(0<=z/\z<(ip.length:Int))/\z≠(k:Int):=by
     rcases hz with a | a
     ·have:=mem_upto.mp a; omega
     ·obtain⟨j,hj,rfl⟩:=bc.mp a
      have:=bj.mp hj
      omega
    exact bz.mpr ⟨mem_upto.mpr this.1,by rw[aw this.2]; rfl⟩
 rw[ea,aU]
 congr 1
 ·refine eB fun i=>?_
  rw[aL,List.getElem?_take]
  by_cases hi:i<k
  ·rw[jBB hi,aB hi]
   show some (ip.getD (i:Int).toNat ([],0))=_
   rw[bv,aE,az (by omega)]
   rfl
  ·rw[bn (by rw[yC]; omega),av hi]
   rfl
 ·rw[cq]
  refine eB fun i=>?_
  rw[aL,ic]
  by_cases hi:i<ip.length - (k+1)
  ·rw[cn hi]
   show some (ip.getD ((k+1+i:Nat):Int).toNat ([],0))=_
   rw[bv,aE,az (show k+1+i<ip.length by omega)]
   rfl
  ·rw[bn (by rw[cC]; omega),bn (by omega)]
   rfl
theorem jQE {t:Int}(t0:0<=t)(t1:t<w):(upto w.toNat).filter (fun z=>!decide (decide (z∈ms)=decide (z=t)))=trn t ms:=by
 have w0:=g.w0
 refine jJ4 ((jA5 _).ris.filter _) (jIH g.mr t0 t1).ris fun z=>?_
 rw[bz,trn_mem,mem_upto]
 by_cases e:z=t
 ·rw[aB e,aj e]
  by_cases h:z∈ms
  ·rw[aj h]
   exact⟨fun q=>absurd q.2 (by decide),fun q=>absurd (e ▸ h) q⟩
  ·rw[aw h]
   exact⟨fun _=>e ▸ h,fun _=>⟨by omega,rfl⟩⟩
 ·rw[av e,aw e]
  by_cases h:z∈ms
  ·rw[aj h]
   have:=g.mr.bnd z h
   exact⟨fun _=>h,fun _=>⟨by omega,rfl⟩⟩
  ·rw[aw h]
   exact⟨fun q=>absurd q.2 (by decide),fun q=>absurd q h⟩
def idL (t:Int)(w:Int)(ts:List Int):List Int:=ts.map fun z=>(((allB t w.toNat).idxOf z:Nat):Int)
omit g in
theorem jL5 {t z:Int}{n:Nat}(h0:0<=z)(h1:z<n)(ne:z≠t):z∈allB t n:=bz.mpr ⟨mem_upto.mpr ⟨h0,h1⟩,by rw[aw ne]; rfl⟩
theorem jFJ {t:Int}{ts:List Int}(r:ts.Pairwise (· < ·))(hb:∀ z∈ts,0<=z/\z<w):nmd (allB t w.toNat) ts=idL t w (ts.filter fun z=>!decide (z=t)):=by
 have w0:=g.w0
 rw[jFI (jC1 t _) r]
 unfold plcs idL
 congr 1
 refine List.filter_congr fun z hz=>?_
 have:=hb z hz
 by_cases e:z=t
 ·rw[aj e,aw fun m=>(jCH m).2 e]; rfl
 ·rw[aw e,aj (jL5 this.1 (by omega) e)]; rfl
theorem jNU {t:Int}(t0:0<=t)(t1:t<w)(hn:∀ pc∈ip,t∉pc.1):lss t (w,ms,ip)=(w - 1,idL t w (ms.filter fun z=>!decide (z=t)),ip.map fun pc=>(idL t w pc.1,pc.2)):=by
 have w0:=g.w0
 obtain⟨n,hn'⟩:∃ n:Nat,w.toNat=n+1:=⟨w.toNat - 1,by omega⟩
 unfold lss
 show (((allB t w.toNat).length:Int),nmd (allB t w.toNat) ms,pick (allB t w.toNat) ip (upto ip.length))=_
 have c:=jN6 (n:=n) t0 (by omega)
 rw[jFJ g g.mr.ris g.mr.bnd]
 have el:(((allB t w.toNat).length:Nat):Int)=w - 1:=by rw[hn',c]; omega
 rw[el]
 congr 2
 unfold pick
 refine eB fun i=>?_
 rw[aL,aL]
 by_cases hi:i<ip.length
 ·rw[jBB hi,az hi]
  have gp:=g.at hi
  have eg:ip.getD i ([],0)=ip[i]:=by rw[aE,az hi]; rfl
  show some (nmd (allB t w.toNat) (yT ip (i:Int)),(ip.getD (i:Int).toNat ([],0)).2)=some (idL t w ip[i].1,ip[i].2)
  unfold yT
  rw[bv,eg]
  rw[eg] at gp
  rw[jFJ g gp.lot.ris gp.lot.bnd,fm.mpr fun z hz=>by rw[aw fun (e:z=t)=>hn _ (bK hi) (e ▸ hz)]; rfl]
 ·rw[bn (by rw[yC]; omega),bn (by omega)]
  rfl
end
end Eo
namespace L2
open PySem
section
variable {X:Cx}{sc sc2:Scope}{cl cl2:List (Str×Addr)}{C C2:Addr}{Nc Nc2:List Str}{fp fp2:List Addr}{s s2:Shared}{H H2:Hp}
theorem jMK {o e:Expr}{es:List Expr}{to:TE}{t:TA}{cpos apos:Pos}{id:String}{T:String}{name:Str}{r}(pa:PlainAttrs T)(slot:Slot T name id)(hty:typeOf (.builtin id)=pure (.type "method_descriptor"))(hm:MtR (blk (blk X sc cl C Nc fp s H) sc2 cl2 C2 Nc2 fp2 s2 H2) id r)(ho:JE (blk (blk X sc cl C Nc fp s H) sc2 cl2 C2 Nc2 fp2 s2 H2) o to)(ha:JA (blk (blk X sc cl C Nc fp s H) sc2 cl2 C2 Nc2 fp2 s2 H2) (e::es) t)
  (hs:starEach (e::es) (blk (blk X sc cl C Nc fp s H) sc2 cl2 C2 Nc2 fp2 s2 H2).env=(false,eval e (blk (blk X sc cl C Nc fp s H) sc2 cl2 C2 Nc2 fp2 s2 H2).env)::starEach es (blk (blk X sc cl C Nc fp s H) sc2 cl2 C2 Nc2 fp2 s2 H2).env)
  (hbase:attributeBase o name (blk (blk X sc cl C Nc fp s H) sc2 cl2 C2 Nc2 fp2 s2 H2).env (eval o (blk (blk X sc cl C Nc fp s H) sc2 cl2 C2 Nc2 fp2 s2 H2).env)=eval o (blk (blk X sc cl C Nc fp s H) sc2 cl2 C2 Nc2 fp2 s2 H2).env:=by rfl)
  (hfew:((backTo cpos (starEach (e::es) (blk (blk X sc cl C Nc fp s H) sc2 cl2 C2 Nc2 fp2 s2 H2).env)).all (fun x=>!x.1)&&(backToKw cpos (keywordEach [] (blk (blk X sc cl C Nc fp s H) sc2 cl2 C2 Nc2 fp2 s2 H2).env)).all (fun x=>x.1.isSome)
   &&decide ((e::es).length+([]:List Keyword).length+(if ([]:List Keyword).isEmpty then 0 else 1)<30))=true:=by rfl)
  (hline:(apos.endLine==cpos.line)=true:=by rfl) (hplain:(backTo cpos (starEach es (blk (blk X sc cl C Nc fp s H) sc2 cl2 C2 Nc2 fp2 s2 H2).env)).any (·.1)=false:=by rfl):
  JE (blk (blk X sc cl C Nc fp s H) sc2 cl2 C2 Nc2 fp2 s2 H2) (.Call (.Attribute o name apos) (e::es) [] cpos) (tBM X.K T r to t):=je_bm pa slot hty hm ho ha hs hbase hfew hline hplain
end
end L2
namespace Eo
open PySem L2
theorem jS5 (xs:List V){j:Nat}(h:j<=xs.length):cutV xs none (some (j:Int))=xs.take j:=by
 unfold cutV
 rw[HT.sIx_none,HT.sIx_nat,Nat.sub_zero,List.drop_zero,Nat.min_eq_left h]
theorem jN0 (xs:List V){j:Nat}(h:j<=xs.length):cutV xs (some (j:Int)) none=xs.drop j:=by
 unfold cutV
 rw[HT.sIx_none,HT.sIx_nat,Nat.min_eq_left h]
 exact bx (by rw[cr]; exact aq _)
theorem PcsAt.takeN {H:Hp} :∀ {vs:List V}{ps:List (List Int×Int)},PcsAt H vs ps->∀ n,PcsAt H (vs.take n) (ps.take n)
 | [],[],_,n=>by rw[List.take_nil,List.take_nil]; trivial
 | v::vs,p::ps,h,0=>trivial
 | v::vs,p::ps,h,n+1=>⟨h.1,PcsAt.takeN h.2 n⟩
theorem PcsAt.dropN {H:Hp} :∀ {vs:List V}{ps:List (List Int×Int)},PcsAt H vs ps->∀ n,PcsAt H (vs.drop n) (ps.drop n)
 | _,_,h,0=>h
 | [],[],_,n+1=>trivial
 | v::vs,p::ps,h,n+1=>PcsAt.dropN h.2 n
theorem PcsAt.appN {H:Hp} :∀ {vs:List V}{ps:List (List Int×Int)}{us:List V}{qs:List (List Int×Int)},PcsAt H vs ps->PcsAt H us qs->PcsAt H (vs++us) (ps++qs)
 | [],[],_,_,_,k=>k
 | v::vs,p::ps,_,_,h,k=>⟨h.1,PcsAt.appN h.2 k⟩
noncomputable abbrev nDue:List Str:=["box","deed","wide","mays","pieces","way","one","other","left","rows"]
theorem scDue:FnScope nDue ["box","deed"] (j9 sDue):= {}
abbrev XDue (P:Program)(w:World)(K:W.Frag)(mg:Str->Option Value)(base:Heap)(f:Addr)(cdv:Value)(A:Around)(outer:List Env)(s:Shared)(H:Hp)(E:XK):Cx:=XOf nDue "_law_shop_due" sDue P w K mg base f cdv A outer s H E
section
variable (T:Txt mg)(CU:Can P w K mg base "_law_upto" 2 fU fdU ["thing","least","most"] spUp)(CR:Can P w K mg base "_law_lot_right" 3 fR fdR ["thing","wide"] (spB2 lotB))(hr:Room 3 (XDue P w K mg base f cdv A outer s H0 E).A)
def dueEA: { t:TS // JSs (XDue P w K mg base f cdv A outer s H0 E) ((jG sDue).drop 8) t} :=
 have nd:=scDue.nd
 have _h:=CU; have _h2:=CR; have _h3:=hr
 ⟨_,(j8 (jPS (i:=8) nd rfl loc_c (yE (m:=[none,some 6]) (Nc:=["thing","one"]) rfl (jAH gD T.range (j4 (jv 2 rfl vL) j7 j6) j6) rfl (by decide+kernel) (by decide+kernel) (kW (psc:=j9 sDue)) (jW (N:=nDue) rfl rfl (by decide+kernel)) (fun cl C fp s H=>kB (i:=0) (show (["thing","one"]:List Str).Nodup by decide+kernel) rfl qO) (fun cl C fp s H=>jBW (jN op_ne (jv 0 rfl kO) (jv 1 rfl yI) (jL _))) (fun cl C fp s H=>(jv 0 rfl kO)) qC) (by rfl))
   (j8 (kP (i:=9) nd rfl lL (kY jA0 gD T.tuple (by decide+kernel) (j4 (yE (m:=[none,none,some 8]) (Nc:=["held","weight","left"]) rfl (qT (jv 4 rfl vL)) rfl (by decide+kernel) (by decide+kernel) (kW (psc:=j9 sDue)) (jW (N:=nDue) rfl rfl (by decide+kernel)) (fun cl C fp s H=>jAT (i:=0) (j:=1) rfl (show (["held","weight","left"]:List Str).Nodup by decide+kernel) rfl rfl (by decide+kernel) (by decide+kernel)) (fun cl C fp s H=>yV) (fun cl C fp s H=>(jM (j4 (kY jFX gl_b T.tuple (by decide+kernel) (j4 (yE (m:=[none,some 2]) (Nc:=["thing","left"]) rfl (jME (jv 0 rfl kO)) rfl (by decide+kernel) (by decide+kernel) (jMP (by decide+kernel)) (jW (N:=["held","weight","left"]) rfl rfl (by decide+kernel)) (fun cl C fp s H=>kB (i:=0) (show (["thing","left"]:List Str).Nodup by decide+kernel) rfl qO) (fun cl C fp s H=>yV) (fun cl C fp s H=>(jMK bg dW dX jEO (jv 1 rfl yI) (j4 (jv 0 rfl kO) j7 j6) j6)) jAN) j7 jV) jV) (j4 (jv 1 rfl kO) j7 j6) jK))) jAN) j7 jV) jV) kI)
   (jC (jQ (kN (j4 (y6) (j4 (jM (j4 (yL qG (jv 2 rfl vL) (jE)) (j4 (kY jA0 gD T.tuple (by decide+kernel) (j4 (yE (m:=[none,some 6,some 8]) (Nc:=["may","one","left"]) rfl (qT (jv 3 rfl vC)) rfl (by decide+kernel) (by decide+kernel) (kW (psc:=j9 sDue)) (jW (N:=nDue) rfl rfl (by decide+kernel)) (fun cl C fp s H=>kB (i:=0) (show (["may","one","left"]:List Str).Nodup by decide+kernel) rfl qO) (fun cl C fp s H=>jBW (jN op_ne (jv 0 rfl kO) (jv 1 rfl yI) (jL _))) (fun cl C fp s H=>(jPX bg dW dX jEO (jv 2 rfl yI) (j4 (jv 0 rfl kO) j7 j6) j6)) jAN) j7 jV) jV) (j4 (jv 9 rfl vL) j7 j6) jK) kZ)) j7 jS) jB))))))⟩
def dueHA: { t:TS // JSs (XDue P w K mg base f cdv A outer s H0 E) ((jG sDue).drop 7) t} :=
 have nd:=scDue.nd
 ⟨_,(j8 (jR (jZ (jH (jD8 rfl) gD T.any (by decide+kernel) (j4 (yE (m:=[none,none,some 6]) (Nc:=["held","weight","one"]) rfl (qT (jv 4 rfl vL)) rfl (by decide+kernel) (by decide+kernel) (kW (psc:=j9 sDue)) (jW (N:=nDue) rfl rfl (by decide+kernel)) (fun cl C fp s H=>jAT (i:=0) (j:=1) rfl (show (["held","weight","one"]:List Str).Nodup by decide+kernel) rfl rfl (by decide+kernel) (by decide+kernel)) (fun cl C fp s H=>yV) (fun cl C fp s H=>(y0 jDW (jv 2 rfl yI) (jv 0 rfl kO) jFK)) jAN) j7 jV) jV) jU) (jC (jQ (kN (j4 (jP) (j4 (jv 0 rfl vL) j7 j6) jB)))) jI) (dueEA T CU CR hr).2)⟩
def dueMA: { t:TS // JSs (XDue P w K mg base f cdv A outer s H0 E) ((jG sDue).drop 5) t} :=
 have nd:=scDue.nd
 ⟨_,(j8 (jR (yB (jZ (CU.je (hr.mono (by decide)) gD (j4 (jv 6 rfl vC) (j4 (jE) (j4 (yL qG (jv 2 rfl vL) (jE)) j7 kZ) jB) j6) j6) jU)) (jC (jQ (kN (j4 (jP) (j4 (jv 0 rfl vL) j7 j6) jB)))) jI) (j8 (jR (jN yA (jv 5 rfl vL) (jP) (jL _)) (jC (jQ (kN (j4 (y6) (j4 (jM (j4 (jv 2 rfl vL) (j4 (kY jA0 gD T.tuple (by decide+kernel) (j4 (yE (m:=[none,some 3,some 6]) (Nc:=["thing","mays","one"]) rfl (jAH gD T.range (j4 (jv 2 rfl vL) j7 j6) j6) rfl (by decide+kernel) (by decide+kernel) (kW (psc:=j9 sDue)) (jW (N:=nDue) rfl rfl (by decide+kernel)) (fun cl C fp s H=>kB (i:=0) (show (["thing","mays","one"]:List Str).Nodup by decide+kernel) rfl qO) (fun cl C fp s H=>jBW (jN op_ne (y0 jDW (jv 0 rfl kO) (jv 1 rfl yI) jFK) (y0 yA (jv 0 rfl kO) (jv 2 rfl yI) (jL _)) (jL _))) (fun cl C fp s H=>(jv 0 rfl kO)) qC) j7 jV) jV) (j4 (jv 4 rfl vL) j7 j6) jK) j6)) j7 jS) jB)))) jI) (dueHA T CU CR hr).2))⟩
def dueA: { t:TS // JSs (XDue P w K mg base f cdv A outer s H0 E) (jG sDue) t} :=
 have nd:=scDue.nd
 ⟨_,(j8 (jER (jv 0 rfl vL) (jH1 (i:=2) (j:=3) (l:=4) nd rfl rfl rfl lL loc_c lL)) (j8 (jER (jv 1 rfl vL) (jH1 (i:=5) (j:=6) (l:=7) nd rfl rfl rfl lL loc_c lL)) (j8 (jR (jN yA (jv 5 rfl vL) (jP) (jL _)) (j8 (jR (jN yA (jv 2 rfl vL) (jE) (jL _)) (jC (jQ (kN (j4 (jP) (j4 (jv 0 rfl vL) j7 j6) jB)))) jI)
   (jC (jQ (kN (j4 (jv 2 rfl vL) (j4 (jM (j4 (yL yW (jv 2 rfl vL) (jE)) (j4 (yL jAR (jv 3 rfl vC) (yL jP8 (jM (j4 (jv 2 rfl vL) j7 j6)) (kY jF2 gD T.int (by decide+kernel) (j4 (jKC (jv 6 rfl vC)) j7 se_un) se_un))) (j4 (jv 4 rfl vL) j7 j6) kZ) kZ)) j7 jS) j6))))) jI) (j8 (jR (jN yA (jv 5 rfl vL) (jP) (jL _)) (j8 (jR (jN yA (jH jJ gD T.len (by decide+kernel) (j4 (jv 4 rfl vL) j7 j6) j6) (jE) (jL _)) (jC (jQ (kN (j4 (jP) (j4 (jv 0 rfl vL) j7 j6) jB)))) jI)
   (j8 (jR (jt_w (xD (yB (jZ (CR.je hr gD (j4 (jv 6 rfl vC) (j4 (jv 2 rfl vL) j7 j6) j6) j6) jU)) (qS (jN (jRG hr.units0) (jv 6 rfl vC) (jM j7) (jL _))))) (jC (jQ (kN (j4 (jP) (j4 (jv 0 rfl vL) j7 j6) jB)))) jI)
   (j8 (jR (yB (jZ (CU.je (hr.mono (by decide)) gD (j4 (jv 7 rfl vL) (j4 (x9 qK jD0) (j4 (jD0) j7 kZ) se_un) j6) j6) jU)) (jC (jQ (kN (j4 (jP) (j4 (jv 0 rfl vL) j7 j6) jB)))) jI)
   (jC (jQ (kN (j4 (jH jJ gD T.len (by decide+kernel) (j4 (jv 4 rfl vL) j7 j6) j6) (j4 (jM (j4 (jv 2 rfl vL) (j4 (jv 3 rfl vC) (j4 (yL jAR (jv 4 rfl vL) (jM (j4 (jM (j4 (jv 6 rfl vC) (j4 (jv 7 rfl vL) j7 j6) j6)) j7 jS))) j7 kZ) j6) j6)) j7 jS) jK))))))) jI) (j8 (jR (jN yA (jv 5 rfl vL) (jP) (jL _)) (j8 (jR (yB (jZ (CU.je (hr.mono (by decide)) gD (j4 (jv 6 rfl vC) (j4 (jE) (j4 (yL qG (jH jJ gD T.len (by decide+kernel) (j4 (jv 4 rfl vL) j7 j6) j6) (jE)) j7 kZ) jB) j6) j6) jU)) (jC (jQ (kN (j4 (jP) (j4 (jv 0 rfl vL) j7 j6) jB)))) jI)
   (jC (jQ (kN (j4 (y6) (j4 (jM (j4 (jv 2 rfl vL) (j4 (jv 3 rfl vC) (j4 (yL jAR (jDZ jFB (jv 4 rfl vL) jFQ (jDY (jv 6 rfl vC))) (jDZ jFB (jv 4 rfl vL) (jDY (yL yW (jv 6 rfl vC) (jE))) jFQ)) j7 kZ) j6) j6)) j7 jS) jB))))) jI) (dueMA T CU CR hr).2)))))⟩
theorem jKN {D:Ends}{H:Hp}{qm qp:Addr}{wi t:Int}{ms:List Int}{ip:List (List Int×Int)}{ps:List V}{v0 v1 v5 v7 v8 v9:Option V}(b2:H qm=some (.tup (ms.map V.int)))(b3:H qp=some (.tup ps))(b4:PcsAt H ps ip)(g:Good 16 32 wi ms ip)(t0:0<=t)(t1:t<wi)(hn:∀ pc∈ip,t∉pc.1)
  (q:∀ l b' H',H' l=some (.lst [.non, .ref b'])->BxB H' b' (lss t (wi,ms,ip))->Ext H H'->D.rt (.ref l) H'):
  (dueEA T CU CR hr).1 D [v0,v1,some (.int wi),some (.ref qm),some (.ref qp),v5,some (.int t),v7,v8,v9] H:=by
 have w0:=g.w0
 have w1:=g.w1
 have gpl:=g.pl
 have psl:=b4.len
 have ml:=yU g.mr.ris g.mr.bnd w1
 have al:=jCI t wi.toNat
 have nd:(allB t wi.toNat).Nodup:=(jC1 t _).imp fun h=>by omega
 have ix:∀ {z:Int},0<=z->z<wi->z≠t->(allB t wi.toNat)[(allB t wi.toNat).idxOf z]?=some z/\∀ m,m<(allB t wi.toNat).idxOf z->(allB t wi.toNat)[m]?≠some z:=fun {z} z0 z1 zn=>by
  have hm:=jL5 (n:=wi.toNat) z0 (by omega) zn
  have hl:=cb.mpr hm
  refine⟨by rw[az hl,cY hl],fun m hmk hz=>?_⟩
  have e1:(allB t wi.toNat)[m]?=(allB t wi.toNat)[(allB t wi.toNat).idxOf z]?:=by rw[hz,az hl,cY hl]
  have:=(List.getElem?_inj (by omega) nd).mp e1
  omega
 refine⟨_,rfl,wi,rfl,by omega,by omega,jE4 (n:=wi.toNat) (fun σ=>∃ v,σ=[v,some (.int t)]) (outZ (upto wi.toNat) (fun k=>!decide (k=t)) V.int) (outZ.ok _ _ _) (by rw[aC]; omega) ⟨_,rfl⟩ ?_ ?_⟩
 ·rintro j σ' H1 zs hj ⟨v,rfl⟩ e1 hz S1 S2 yes no
  have hx:(upto wi.toNat)[j]?=some (j:Int):=jBB hj
  have e0:(0+(j:Int))=(j:Int):=by omega
  dsimp only [kX]
  rw[e0]
  refine⟨_,rfl,_,rfl,rfl,_,rfl,?_⟩
  show if (!decide (V.int (j:Int)=V.int t))=true then _ else _
  have ed:decide (V.int (j:Int)=V.int t)=decide ((j:Int)=t):=cQ.mpr ⟨fun z=>V.int.inj z,fun z=>by rw[z]⟩
  rw[ed]
  by_cases h:(j:Int)=t
  ·rw[aj h]
   exact iteF (no _ _ ⟨_,rfl⟩ (Ext.refl _) (hz.no hx (by rw[aj h]; rfl)))
  ·rw[aw h]
   exact iteT ⟨_,rfl,yes _ _ _ ⟨_,rfl⟩ (Ext.refl _) (hz.yes hx (by rw[aw h]; rfl))⟩
 rintro ql H1 zs hD e1 n1 hz
 have hz:zs=(((upto wi.toNat).take wi.toNat).filter fun k=>!decide (k=t)).map V.int:=hz
 rw[bx (by rw[yC]; exact aq _)] at hz
 rw[hz] at hD
 have hD:H1 ql=some (.lst ((allB t wi.toNat).map V.int)):=hD
 refine⟨_,rfl,qp,rfl,⟨_,SqT.of (e1 _ _ b3)⟩,jAO (xs:=ps) (fun σ=>∃ v v',σ=[v,v',some (.ref ql)]) (fun (H':Hp) (zs:List V) (i:Nat)=>PcsAt H' zs ((ip.take i).map fun (pc:List Int×Int)=>(idL t wi pc.1,pc.2))) ⟨fun _=>trivial,fun H H' zs i tu hz=>PcsAt.mono tu hz,fun H zs i hz=>?_⟩ (e1 _ _ b3) (by rw[aC]; omega) ⟨_,_,rfl⟩ ?_ ?_⟩
 ·rw[PcsAt.len hz,ag]
  exact bR _ _
 ·rintro j x σ' H2 zs hx ⟨v,v',rfl⟩ e2 hz S1 S2 yes no
  have jl:j<ip.length:=by rw[<- psl]; exact(ay.mp hx).1
  obtain⟨v0',hv',r,qt,rfl,dr,dt⟩:=b4.get jl
  obtain rfl:=aM (hx.symm.trans hv')
  have gp:=g.at jl
  have eg:ip.getD j ([],0)=ip[j]:=by rw[aE,az jl]; rfl
  rw[eg] at gp dr dt
  have E2:=e1.trans e2
  have tl:=yU gp.lot.ris gp.lot.bnd w1
  refine⟨r,_,rfl,SqT.of (E2 _ _ dr),rfl,_,_,rfl,_,_,rfl,rfl,?_⟩
  dsimp only [qI]
  rw[aB rfl]
  refine⟨_,rfl,qt,rfl,⟨_,SqT.of (E2 _ _ dt)⟩,jAO (xs:=ip[j].1.map V.int) (fun σ=>∃ v,σ=[v,some (.ref ql)]) (mapZ ip[j].1 fun z=>V.int (((allB t wi.toNat).idxOf z:Nat):Int)) (mapZ.ok _ _) (E2 _ _ dt) (by rw[ag,aC]; omega) ⟨_,rfl⟩ ?_ ?_⟩
  ·rintro i y σ2 H3 zs2 hy ⟨u,rfl⟩ e3 hz2 S3 S4 yes2 no2
   obtain⟨z,hzz,rfl⟩:∃ z,ip[j].1[i]?=some z/\V.int z=y:=by simpa using hy
   have zb:=gp.lot.bnd z (aP hzz)
   have zn:z≠t:=fun e=>hn _ (bK jl) (e ▸ aP hzz)
   obtain⟨i1,i2⟩:=ix zb.1 zb.2 zn
   have dl:=e3 _ _ (e2 _ _ hD)
   dsimp only [kX,qI]
   rw[aB rfl]
   exact⟨_,rfl, .inl ⟨rfl,_,SqL.of dl⟩,_,rfl,ql,allB t wi.toNat,z,_,rfl,rfl,dl,by omega,i1,i2,yes2 _ _ _ ⟨_,rfl⟩ (Ext.refl _) (hz2.yes hzz)⟩
  ·rintro D3 H3 zs2 hD3 e3 n3 hz2
   have hz2:=hz2.all (by rw[ag]; exact aq _)
   have hz3:zs2=(idL t wi ip[j].1).map V.int:=by rw[hz2]; unfold idL; rw[cq]; rfl
   rw[hz3] at hD3
   refine⟨D3,_,rfl, .inl ⟨SqL.of hD3,fun r4 n4=>?_⟩⟩
   have e4:Ext H3 (L2.upd H3 r4 (.tup ((idL t wi ip[j].1).map V.int))):=(Ext.refl _).new n4 _
   have d4:(L2.upd H3 r4 (.tup ((idL t wi ip[j].1).map V.int))) r4=some (.tup ((idL t wi ip[j].1).map V.int)):=jA
   generalize L2.upd H3 r4 (.tup ((idL t wi ip[j].1).map V.int))=H4 at e4 d4
   refine⟨_,rfl,by show (2:Nat)<=_; decide,fun r5 H5 d5 e5=>yes _ _ _ ⟨_,_,rfl⟩ ((e3.trans e4).trans e5) ?_⟩
   show PcsAt H5 _ ((ip.take (j+1)).map _)
   rw[bP,az jl,aU]
   exact PcsAt.snoc (p:=(idL t wi ip[j].1,ip[j].2)) ⟨r5,r4,rfl,d5,e5 _ _ d4⟩ (PcsAt.mono ((e3.trans e4).trans e5).tups hz)
 rintro D2 H2 zs2 hD2 e2 n2 hz2
 have hz2:PcsAt H2 zs2 ((ip.take ps.length).map fun pc=>(idL t wi pc.1,pc.2)):=hz2
 rw[psl,bM] at hz2
 refine⟨D2,_,rfl, .inl ⟨SqL.of hD2,fun r3 n3=>?_⟩⟩
 have e3:Ext H2 (L2.upd H2 r3 (.tup zs2)):=(Ext.refl _).new n3 _
 have d3:(L2.upd H2 r3 (.tup zs2)) r3=some (.tup zs2):=jA
 generalize L2.upd H2 r3 (.tup zs2)=H3 at e3 d3
 have E3:=(e1.trans e2).trans e3
 refine⟨_,rfl,_,_,rfl,rfl,_,rfl,qm,rfl,⟨_,SqT.of (E3 _ _ b2)⟩,jAO (xs:=ms.map V.int) (fun σ=>∃ v,σ=[v,some (.int t),some (.ref ql)]) (outZ ms (fun z=>!decide (z=t)) fun z=>V.int (((allB t wi.toNat).idxOf z:Nat):Int)) (outZ.ok _ _ _) (E3 _ _ b2) (by rw[ag,aC]; omega) ⟨_,rfl⟩ ?_ ?_⟩
 ·rintro j y σ2 H4 zs4 hy ⟨u,rfl⟩ e4 hz4 S3 S4 yes no
  obtain⟨z,hzz,rfl⟩:∃ z,ms[j]?=some z/\V.int z=y:=by simpa using hy
  have zb:=g.mr.bnd z (aP hzz)
  dsimp only [kX]
  refine⟨_,rfl,_,rfl,rfl,_,rfl,?_⟩
  show if (!decide (V.int z=V.int t))=true then _ else _
  have ed:decide (V.int z=V.int t)=decide (z=t):=cQ.mpr ⟨fun z=>V.int.inj z,fun z=>by rw[z]⟩
  rw[ed]
  by_cases h:z=t
  ·rw[aj h]
   exact iteF (no _ _ ⟨_,rfl⟩ (Ext.refl _) (hz4.no hzz (by rw[aj h]; rfl)))
  ·rw[aw h]
   obtain⟨i1,i2⟩:=ix zb.1 zb.2 h
   have dl:=e4 _ _ ((e2.trans e3) _ _ hD)
   exact iteT ⟨_,rfl, .inl ⟨rfl,_,SqL.of dl⟩,_,rfl,ql,allB t wi.toNat,z,_,rfl,rfl,dl,by omega,i1,i2,yes _ _ _ ⟨_,rfl⟩ (Ext.refl _) (hz4.yes hzz (by rw[aw h]; rfl))⟩
 ·rintro D4 H4 zs4 hD4 e4 n4 hz4
  have hz4:zs4=((ms.take (ms.map V.int).length).filter fun z=>!decide (z=t)).map fun z=>V.int (((allB t wi.toNat).idxOf z:Nat):Int):=hz4
  rw[ag,bM] at hz4
  have hz5:zs4=(idL t wi (ms.filter fun z=>!decide (z=t))).map V.int:=by rw[hz4]; unfold idL; rw[cq]; rfl
  rw[hz5] at hD4
  refine⟨D4,_,rfl, .inl ⟨SqL.of hD4,fun r5 n5=>?_⟩⟩
  have e5:Ext H4 (L2.upd H4 r5 (.tup ((idL t wi (ms.filter fun z=>!decide (z=t))).map V.int))):=(Ext.refl _).new n5 _
  have d5:(L2.upd H4 r5 (.tup ((idL t wi (ms.filter fun z=>!decide (z=t))).map V.int))) r5=some (.tup ((idL t wi (ms.filter fun z=>!decide (z=t))).map V.int)):=jA
  generalize L2.upd H4 r5 (.tup ((idL t wi (ms.filter fun z=>!decide (z=t))).map V.int))=H5 at e5 d5
  refine⟨_,rfl,by show (3:Nat)<=_; decide,fun r6 H6 d6 e6=>?_⟩
  refine⟨by show (2:Nat)<=_; decide,fun r7 H7 d7 e7 n7=>?_⟩
  have E67:=e6.trans e7
  refine q r7 r6 H7 d7 ?_ ((((E3.trans e4).trans e5).trans e6).trans e7)
  rw[jNU g t0 t1 hn]
  exact⟨r5,r3,zs2,e7 _ _ d6,E67 _ _ d5,((e4.trans e5).trans E67) _ _ d3,hz2.mono ((e3.trans e4).trans (e5.trans E67)).tups⟩
theorem jKM {D:Ends}{H:Hp}{b qm qp:Addr}{wi t:Int}{ms:List Int}{ip:List (List Int×Int)}{ps:List V}{v1 v5 v7 v8 v9:Option V}(b2:H qm=some (.tup (ms.map V.int)))(b3:H qp=some (.tup ps))(b4:PcsAt H ps ip)(g:Good 16 32 wi ms ip)(t0:0<=t)(t1:t<wi)
  (qr:(ip.any fun pc=>decide (t∈pc.1))=true->∀ l H',H' l=some (.lst [.str "held", .ref b])->Ext H H'->D.rt (.ref l) H')
  (q:¬ (ip.any fun pc=>decide (t∈pc.1))=true->∀ l b' H',H' l=some (.lst [.non, .ref b'])->BxB H' b' (lss t (wi,ms,ip))->Ext H H'->D.rt (.ref l) H'):
  (dueHA T CU CR hr).1 D [some (.ref b),v1,some (.int wi),some (.ref qm),some (.ref qp),v5,some (.int t),v7,v8,v9] H:=by
 have gpl:=g.pl
 have psl:=b4.len
 refine⟨_,rfl,qp,rfl,⟨_,SqT.of b3⟩,jAO (xs:=ps) (fun σ=>∃ v v',σ=[v,v',some (.int t)]) (mapZ ip fun pc=>V.bl (decide (t∈pc.1))) (mapZ.ok _ _) b3 (by rw[aC]; omega) ⟨_,_,rfl⟩ ?_ ?_⟩
 ·rintro j x σ' H2 zs hx ⟨v,v',rfl⟩ e2 hz S1 S2 yes no
  have jl:j<ip.length:=by rw[<- psl]; exact(ay.mp hx).1
  obtain⟨v0',hv',r,qt,rfl,dr,dt⟩:=b4.get jl
  obtain rfl:=aM (hx.symm.trans hv')
  refine⟨r,_,rfl,SqT.of (e2 _ _ dr),rfl,_,_,rfl,_,_,rfl,rfl,?_⟩
  dsimp only [qI]
  rw[aB rfl]
  refine⟨_,rfl,_,rfl,qt,_,rfl, .inr (SqT.of (e2 _ _ dt)),rfl,jAU _,?_⟩
  rw[show (if false=true then !inV (V.int t) ((ip.getD j ([],0)).1.map V.int) else inV (V.int t) ((ip.getD j ([],0)).1.map V.int))=inV (V.int t) ((ip.getD j ([],0)).1.map V.int) from av au,jBL]
  refine yes _ _ _ ⟨_,_,rfl⟩ (Ext.refl _) (hz.yes (x:=ip.getD j ([],0)) ?_)
  rw[aE,az jl]
  rfl
 ·rintro D2 H2 zs hD e2 n2 hz
  have hz:=hz.all (by omega)
  have hz2:zs=(ip.map fun pc=>decide (t∈pc.1)).map V.bl:=by rw[hz,cq]; rfl
  rw[hz2] at hD
  have ea:(ip.map fun pc=>decide (t∈pc.1)).any id=ip.any fun pc=>decide (t∈pc.1):=by rw[List.any_map]; rfl
  refine⟨D2,_,rfl,SqL.of hD,_,rfl,?_⟩
  rw[ea]
  refine ite2 (fun h=>?_) (fun h=>?_)
  ·exact⟨_,rfl,by show (2:Nat)<=_; decide,fun l H3 d3 e3 n3=>qr h l H3 d3 (e2.trans e3)⟩
  ·exact jKN T CU CR hr (e2 _ _ b2) (e2 _ _ b3) (b4.mono e2.tups) g t0 t1 (fun pc hp hm=>h (bZ.mpr ⟨pc,hp,aj hm⟩)) fun l b' H' d' B' e'=>q h l b' H' d' B' (e2.trans e')
end
def spDue:Sp:=fun vs H Q _=>∃ (b:Addr) (v:V) (d:Dd) (x:Bx),vs=[.ref b,v]/\BxB H b x/\Good 16 32 x.1 x.2.1 x.2.2/\DdAt H v d/\d≠ .und/\(∀ r,refW x [] d=some r->∀ l H',H' l=some (.lst [.str r, .ref b])->Ext H H'->Q (.ref l) H')/\(refW x [] d=none->∀ l u b' H',H' l=some (.lst [u, .ref b'])->TAt H' (tellT x d) u->BxB H' b' (newB x [] d).1->Ext H H'->Q (.ref l) H')
theorem jFP {n:Int}{o:Ob} :lotB n (.tup [o])=upB 0 (n - 1) o:=by
 show (([o]:List Ob).all (upB 0 (n - 1))&&(adj (([o]:List Ob).map val)).all id)=_
 rw[dL,List.all_nil,Bool.and_true]
 exact Bool.and_true _
theorem jRN {fd:FuncData}(F:Fun K "_law_shop_due" "_law_shop_due" sDue f fd)(T:Txt mg)(CU:Can P w K mg base "_law_upto" 2 fU fdU ["thing","least","most"] spUp)(CR:Can P w K mg base "_law_lot_right" 3 fR fdR ["thing","wide"] (spB2 lotB)):FnOk P w K mg base CX0 4 f fd ["box","deed"] spDue:=by
 refine F.ok scDue (fun vs H Q E h=>?_) (fun cdv A outer s H vs Q E hr h=>?_)
 ·obtain⟨_,_,_,_,rfl,_⟩:=h
  rfl
 ·obtain⟨b,v,d,⟨wi,ms,ip⟩,rfl,hB,g,⟨qd,v1,v2,rfl,dd,dv⟩,nu,qn,qy⟩:=h
  refine⟨_,(dueA T CU CR hr).2.h,?_⟩
  obtain⟨qm,qp,ps,b1,b2,b3,b4⟩:=id hB.ex
  have b1:H b=some (.tup [.int wi, .ref qm, .ref qp]):=b1
  have b2:H qm=some (.tup (ms.map V.int)):=b2
  have b4:PcsAt H ps ip:=b4
  have g:Good 16 32 wi ms ip:=g
  have psl:=b4.len
  have w0:=g.w0
  have w1:=g.w1
  have gpl:=g.pl
  have ml:=yU g.mr.ris g.mr.bnd w1
  refine⟨_,rfl,b,_,rfl,SqT.of b1,rfl,_,_,rfl,_,_,rfl,_,_,rfl,rfl,?_⟩
  refine⟨_,rfl,qd,_,rfl,SqT.of dd,rfl,_,_,rfl,_,_,rfl,_,_,rfl,rfl,?_⟩
  have rf:∀ {r:Str}{H1:Hp},refW (wi,ms,ip) [] d=some r->Ext H H1->∀ l H',H' l=some (.lst [.str r, .ref b])->Ext H1 H'->H1 l=none->Q (.ref l) H':=fun {r H1} hw e l H' d' e' _=>qn r hw l H' d' (e.trans e')
  cases d with
  | und=>exact absurd rfl nu
  | thg m=>
   obtain rfl:v1= .bl m:=dv
   refine⟨_,rfl,rfl,_,rfl,ite2 (fun _=>?_) (fun z=>absurd (aj rfl) z)⟩
   refine⟨_,rfl,rfl,_,rfl,ite2 (fun h=>?_) (fun h=>?_)⟩
   ·have h:wi=16:=V.int.inj (ai h)
    exact⟨_,rfl,by show (2:Nat)<=_; decide,rf (r:= "many") (aB (by show (16:Int)<=wi; omega)) (Ext.refl _)⟩
   ·have h:¬ wi=16:=fun e=>h (aj (by rw[e]))
    have hw:refW (wi,ms,ip) [] (.thg m)=none:=av (by show ¬ (16:Int)<=wi; omega)
    refine⟨_,rfl,_,rfl,_,_,rfl,rfl,_,rfl,_,rfl,by show (1:Nat)<=_; decide,fun q1 H1 d1 e1=>?_⟩
    refine⟨_,rfl,m,rfl, .inr ⟨!m,rfl,?_⟩⟩
    refine⟨q1,_,_,rfl,rfl,d1,by cases m <;> decide,by cases m <;> decide,by rw[aC]; cases m <;> (show 1*_<=16777216; decide),fun q2 H2 d2 e2=>?_⟩
    have d2':H2 q2=some (.tup (if m=true then [] else [.int wi])):=by rw[d2]; cases m <;> rfl
    refine⟨qm,q2,_,_,rfl,rfl,(e1.trans e2) _ _ b2,d2',by rw[ag,aC]; cases m <;> (show ms.length+_<=_; simp; omega),fun q3 H3 d3 e3=>?_⟩
    have E3:=(e1.trans e2).trans e3
    have d3':H3 q3=some (.tup ((if m=true then ms else ms++[wi]).map V.int)):=by
     rw[d3]
     cases m
     ·rw[av (by decide),av (by decide),aU]; rfl
     ·rw[aB rfl,aB rfl,bH]
    refine⟨_,rfl,by show (3:Nat)<=_; decide,fun q4 H4 d4 e4=>?_⟩
    refine⟨by show (2:Nat)<=_; decide,fun q5 H5 d5 e5 n5=>?_⟩
    have E45:=e4.trans e5
    exact qy hw q5 _ q4 H5 d5 rfl ⟨q3,qp,ps,e5 _ _ d4,E45 _ _ d3',(E3.trans E45) _ _ b3,b4.mono (E3.trans E45).tups⟩ (E3.trans E45)
  | pce o1 o2=>
   obtain⟨a1,a2⟩:=dv
   refine⟨_,rfl,rfl,_,rfl,ite2 (fun z=>absurd (V.str.inj (ai z)) (show ("piece" :Str)≠ "thing" by decide)) (fun _=>?_)⟩
   refine⟨_,rfl,rfl,_,rfl,ite2 (fun _=>?_) (fun z=>absurd (aj rfl) z)⟩
   refine⟨_,rfl,qp,_,rfl, .inr (SqT.of b3),rfl,_,rfl,ite2 (fun h=>?_) (fun h=>?_)⟩
   ·have h:=V.int.inj (ai h)
    exact⟨_,rfl,by show (2:Nat)<=_; decide,rf (r:= "many") (aB (by show 32<=ip.length; omega)) (Ext.refl _)⟩
   ·have p32:¬ 32<=ip.length:=fun e=>h (aj (by rw[show ps.length=32 by omega]; rfl))
    refine⟨_,rfl,_,rfl,v1,o1,_,rfl,a1,fun H1 e1=>⟨_,rfl,?_⟩⟩
    cases hlb:lotB wi o1 with
    | false=>
     refine iteT (iteT ⟨_,rfl,by show (2:Nat)<=_; decide,rf (r:= "no thing") ((av p32).trans (aB (.inl hlb))) e1⟩)
    | true=>
     obtain⟨ta,rfl,dt,pr,bb⟩:=jNW (fun z=>by rw[hlb] at z; cases z) a1
     refine iteN rfl ?_
     refine⟨_,rfl,by show (0:Nat)<=_; decide,fun q2 H2 d2 e2=>?_⟩
     have E2:=e1.trans e2
     refine⟨ta,q2,_,rfl,rfl,SqT.of (E2 _ _ dt),SqT.of d2,_,rfl,ite2 (fun h2=>?_) (fun h2=>?_)⟩
     ·have h2:=fq.mp (ai h2)
      exact⟨_,rfl,by show (2:Nat)<=_; decide,rf (r:= "no thing") ((av p32).trans (aB (.inr h2))) E2⟩
     ·have h2:¬ obTs o1=[]:=fun e=>h2 (aj (by rw[e]; rfl))
      have hb:¬ (lotB wi o1=false\/obTs o1=[]):=fun z=>z.elim (fun z=>by rw[hlb] at z; cases z) h2
      refine⟨_,rfl,_,rfl,v2,o2,_,_,rfl,a2.ext E2,_,rfl,?_⟩
      cases hwt:upB (-1000000000000) 1000000000000 o2 with
      | false=>exact iteT ⟨_,rfl,by show (2:Nat)<=_; decide,rf (r:= "no weight") (((av p32).trans (av hb)).trans (aB hwt)) E2⟩
      | true=>
       have hw2:¬ wtB o2=false:=fun z=>by rw[show wtB o2=true from hwt] at z; cases z
       have hw:refW (wi,ms,ip) [] (.pce o1 o2)=none:=((av p32).trans (av hb)).trans (av hw2)
       obtain⟨z,rfl,z1,z2⟩:=jID hw2
       obtain rfl:v2= .int z:=a2
       refine iteF ?_
       refine⟨_,rfl,qp,_,rfl, .inr (SqT.of (E2 _ _ b3)),_,rfl,_,rfl,?_⟩
       refine⟨_,rfl,_,rfl,_,rfl,by show (2:Nat)<=_; decide,fun r1 H3 d3 e3=>?_⟩
       refine⟨by show (1:Nat)<=_; decide,fun r2 H4 d4 e4=>?_⟩
       have E4:=(E2.trans e3).trans e4
       refine⟨qp,r2,_,_,rfl,rfl,E4 _ _ b3,d4,by rw[psl,aC]; show _+1<=_; omega,fun r3 H5 d5 e5=>?_⟩
       refine⟨by show (3:Nat)<=_; decide,fun r4 H6 d6 e6=>?_⟩
       refine⟨by show (2:Nat)<=_; decide,fun r5 H7 d7 e7 n7=>?_⟩
       have E7:=((E4.trans e5).trans e6).trans e7
       have E47:=(e5.trans e6).trans e7
       refine qy hw r5 _ r4 H7 d7 (by rw[psl]; rfl) ⟨qm,r3,_,e7 _ _ d6,E7 _ _ b2,(e6.trans e7) _ _ d5,PcsAt.snoc (p:=(obTs o1,z)) ⟨r1,ta,rfl,(e4.trans E47) _ _ d3,E7 _ _ dt⟩ (b4.mono E7.tups)⟩ E7
  | tkp o=>
   refine⟨_,rfl,rfl,_,rfl,ite2 (fun z=>absurd (V.str.inj (ai z)) (show ("take piece" :Str)≠ "thing" by decide)) (fun _=>?_)⟩
   refine⟨_,rfl,rfl,_,rfl,ite2 (fun z=>absurd (V.str.inj (ai z)) (show ("take piece" :Str)≠ "piece" by decide)) (fun _=>?_)⟩
   refine⟨_,rfl,rfl,_,rfl,ite2 (fun _=>?_) (fun z=>absurd (aj rfl) z)⟩
   refine⟨_,rfl,_,rfl,qp,_,rfl, .inr (SqT.of b3),_,_,rfl,rfl,v1,o,0,_,rfl,dv,_,rfl,?_⟩
   have el:upB 0 ((ps.length:Int) - 1) o=lotB (ip.length:Int) (.tup [o]):=by rw[jFP,psl]
   show if (!upB 0 ((ps.length:Int) - 1) o)=true then _ else _
   rw[el]
   cases hb:lotB (ip.length:Int) (.tup [o]) with
   | false=>exact iteT ⟨_,rfl,by show (2:Nat)<=_; decide,rf (r:= "no piece") (aB hb) (Ext.refl _)⟩
   | true=>
    have hb':¬ lotB (ip.length:Int) (.tup [o])=false:=fun z=>by rw[hb] at z; cases z
    have hw:refW (wi,ms,ip) [] (.tkp o)=none:=av hb'
    obtain⟨t,rfl,t0,t1⟩:=jA6 hb'
    obtain rfl:v1= .int t:=dv
    obtain⟨k,rfl⟩:∃ k:Nat,t=(k:Int):=⟨t.toNat,by omega⟩
    refine iteF ?_
    refine⟨_,rfl,_,rfl,_,rfl,_,rfl,(k:Int),rfl,qp,ps,rfl,b3,fun r1 H1 d1 e1=>?_⟩
    rw[jS5 ps (by omega)] at d1
    refine⟨_,rfl,_,rfl,_,_,rfl,rfl,((k+1:Nat):Int),rfl,qp,ps,rfl,e1 _ _ b3,fun r2 H2 d2 e2=>?_⟩
    rw[jN0 ps (by omega)] at d2
    refine⟨r1,r2,_,_,rfl,rfl,e2 _ _ d1,d2,by rw[bJ,cr,aC]; omega,fun r3 H3 d3 e3=>?_⟩
    refine⟨by show (3:Nat)<=_; decide,fun r4 H4 d4 e4=>?_⟩
    refine⟨by show (2:Nat)<=_; decide,fun r5 H5 d5 e5 n5=>?_⟩
    have E5:=(((e1.trans e2).trans e3).trans e4).trans e5
    refine qy hw r5 _ r4 H5 d5 rfl ?_ E5
    show BxB H5 r4 (lsp (k:Int) (wi,ms,ip))
    rw[jNV g (by omega)]
    have b5:=b4.mono E5.tups
    exact⟨qm,r3,_,e5 _ _ d4,E5 _ _ b2,(e4.trans e5) _ _ d3,PcsAt.appN (b5.takeN k) (b5.dropN (k+1))⟩
  | trn o=>
   refine⟨_,rfl,rfl,_,rfl,ite2 (fun z=>absurd (V.str.inj (ai z)) (show ("turn" :Str)≠ "thing" by decide)) (fun _=>?_)⟩
   refine⟨_,rfl,rfl,_,rfl,ite2 (fun z=>absurd (V.str.inj (ai z)) (show ("turn" :Str)≠ "piece" by decide)) (fun _=>?_)⟩
   refine⟨_,rfl,rfl,_,rfl,ite2 (fun z=>absurd (V.str.inj (ai z)) (show ("turn" :Str)≠ "take piece" by decide)) (fun _=>?_)⟩
   refine⟨_,rfl,_,rfl,_,_,rfl,rfl,v1,o,0,_,rfl,dv,_,rfl,?_⟩
   show if (!upB 0 (wi - 1) o)=true then _ else _
   rw[<- jFP]
   cases hb:lotB wi (.tup [o]) with
   | false=>exact iteT ⟨_,rfl,by show (2:Nat)<=_; decide,rf (r:= "no thing") (aB hb) (Ext.refl _)⟩
   | true=>
    have hb':¬ lotB wi (.tup [o])=false:=fun z=>by rw[hb] at z; cases z
    have hw:refW (wi,ms,ip) [] (.trn o)=none:=av hb'
    obtain⟨t,rfl,t0,t1⟩:=jA6 hb'
    obtain rfl:v1= .int t:=dv
    refine iteF ?_
    refine⟨_,rfl,rfl,_,rfl,ite2 (fun _=>?_) (fun z=>absurd (aj rfl) z)⟩
    refine⟨_,rfl,_,rfl,wi,rfl,by omega,by omega,jE4 (n:=wi.toNat) (fun σ=>∃ v,σ=[v,some (.ref qm),some (.int t)]) (outZ (upto wi.toNat) (fun z=>!decide (decide (z∈ms)=decide (z=t))) V.int) (outZ.ok _ _ _) (by rw[aC]; omega) ⟨_,rfl⟩ ?_ ?_⟩
    ·rintro j σ' H1 zs hj ⟨v,rfl⟩ e1 hz S1 S2 yes no
     have hx:(upto wi.toNat)[j]?=some (j:Int):=jBB hj
     have e0:(0+(j:Int))=(j:Int):=by omega
     dsimp only [kX]
     rw[e0]
     refine⟨_,rfl,_,rfl,qm,_,rfl, .inr (SqT.of (e1 _ _ b2)),rfl,jAU ms,_,rfl,_,rfl,rfl,rfl,_,rfl,?_⟩
     rw[show (if false=true then !inV (V.int (j:Int)) (ms.map V.int) else inV (V.int (j:Int)) (ms.map V.int))=inV (V.int (j:Int)) (ms.map V.int) from av au,jBL]
     have ed:decide (V.int (j:Int)=V.int t)=decide ((j:Int)=t):=cQ.mpr ⟨fun z=>V.int.inj z,fun z=>by rw[z]⟩
     show if (!decide (V.bl (decide ((j:Int)∈ms))=V.bl (decide (V.int (j:Int)=V.int t))))=true then _ else _
     rw[ed]
     have ee:decide (V.bl (decide ((j:Int)∈ms))=V.bl (decide ((j:Int)=t)))=decide (decide ((j:Int)∈ms)=decide ((j:Int)=t)):=cQ.mpr ⟨fun z=>V.bl.inj z,fun z=>by rw[z]⟩
     rw[ee]
     cases hc:(!decide (decide ((j:Int)∈ms)=decide ((j:Int)=t))) with
     | true=>exact iteT ⟨_,rfl,yes _ _ _ ⟨_,rfl⟩ (Ext.refl _) (hz.yes hx hc)⟩
     | false=>exact iteF (no _ _ ⟨_,rfl⟩ (Ext.refl _) (hz.no hx hc))
    ·rintro D H1 zs hD e1 n1 hz
     have hz:zs=(((upto wi.toNat).take wi.toNat).filter fun z=>!decide (decide (z∈ms)=decide (z=t))).map V.int:=hz
     rw[bx (by rw[yC]; exact aq _),jQE g t0 t1] at hz
     rw[hz] at hD
     refine⟨D,_,rfl, .inl ⟨SqL.of hD,fun r2 n2=>?_⟩⟩
     have e2:Ext H1 (L2.upd H1 r2 (.tup ((trn t ms).map V.int))):=(Ext.refl _).new n2 _
     have d2:(L2.upd H1 r2 (.tup ((trn t ms).map V.int))) r2=some (.tup ((trn t ms).map V.int)):=jA
     generalize L2.upd H1 r2 (.tup ((trn t ms).map V.int))=H2 at e2 d2
     refine⟨_,rfl,by show (3:Nat)<=_; decide,fun r4 H4 d4 e4=>?_⟩
     refine⟨by show (2:Nat)<=_; decide,fun r5 H5 d5 e5 n5=>?_⟩
     have E5:=((e1.trans e2).trans e4).trans e5
     exact qy hw r5 _ r4 H5 d5 rfl ⟨r2,qp,ps,e5 _ _ d4,(e4.trans e5) _ _ d2,E5 _ _ b3,b4.mono E5.tups⟩ E5
  | tkt o=>
   refine⟨_,rfl,rfl,_,rfl,ite2 (fun z=>absurd (V.str.inj (ai z)) (show ("take thing" :Str)≠ "thing" by decide)) (fun _=>?_)⟩
   refine⟨_,rfl,rfl,_,rfl,ite2 (fun z=>absurd (V.str.inj (ai z)) (show ("take thing" :Str)≠ "piece" by decide)) (fun _=>?_)⟩
   refine⟨_,rfl,rfl,_,rfl,ite2 (fun z=>absurd (V.str.inj (ai z)) (show ("take thing" :Str)≠ "take piece" by decide)) (fun _=>?_)⟩
   refine⟨_,rfl,_,rfl,_,_,rfl,rfl,v1,o,0,_,rfl,dv,_,rfl,?_⟩
   show if (!upB 0 (wi - 1) o)=true then _ else _
   rw[<- jFP]
   cases hb:lotB wi (.tup [o]) with
   | false=>exact iteT ⟨_,rfl,by show (2:Nat)<=_; decide,rf (r:= "no thing") (aB hb) (Ext.refl _)⟩
   | true=>
    have hb':¬ lotB wi (.tup [o])=false:=fun z=>by rw[hb] at z; cases z
    obtain⟨t,rfl,t0,t1⟩:=jA6 hb'
    obtain rfl:v1= .int t:=dv
    refine iteF ?_
    refine⟨_,rfl,rfl,_,rfl,ite2 (fun z=>absurd (V.str.inj (ai z)) (show ("take thing" :Str)≠ "turn" by decide)) (fun _=>?_)⟩
    refine jKM T CU CR hr b2 b3 b4 g t0 t1 (fun h l H' d' e'=>qn "held" ((av hb').trans (aB h)) l H' d' e') fun h l b' H' d' B' e'=>?_
    exact qy ((av hb').trans (av h)) l _ b' H' d' rfl B' e'
end Eo
section
namespace L2
open PySem
theorem jNY {X:Cx}{p2 p3 p4:Pos}{k2 k3:Nat} :JE X (.BinOp (.Constant (.int 10) k2 p2) .Pow (.Constant (.int 30) k3 p3) p4) (tC (.int 1000000000000000000000000000000)):=⟨jJE (by decide) (by decide) (by decide) (by decide)⟩
end L2
namespace Eo
open PySem L2
theorem jBA {H H':Hp}{p:Addr}{xs ys:List V}(hp:H p=some (.lst xs))(hp':H' p=some (.lst ys))(k:Keep H H' p):Kp H H':=by
 refine⟨fun a vs h=>k _ _ h fun z=>(by rw[z,hp] at h; cases h),fun a vs h=>?_,fun a vs h=>⟨vs,k _ _ h fun z=>(by rw[z,hp] at h; cases h)⟩⟩
 by_cases e:a=p
 ·rw[e]; exact⟨ys,hp'⟩
 ·exact⟨vs,k _ _ h e⟩
theorem Keep.trans' {H H1 H2:Hp}{p:Addr}(a:Keep H H1 p)(b:Keep H1 H2 p):Keep H H2 p:=fun c o h n=>b c o (a c o h n) n
theorem Keep.ofE {H H1:Hp}{p:Addr}(e:Ext H H1):Keep H H1 p:=fun c o h _=>e c o h
theorem Keep.pot {H:Hp}{p:Addr}{o:HO} :Keep H (L2.upd H p o) p:=fun c u h n=>by rw[jD n]; exact h
theorem at_dK {H:Hp}{a:Addr}{iq:List (Key×V)}(h:H a=some (.dK iq)):At H .oth (.ref a):= .inr (.inr (.inr ⟨a,rfl, .inr ⟨iq,h⟩⟩))
def AnyAt (H:Hp)(v:V):Prop:=∃ o,At H o v
theorem AnyAt.kp {H H':Hp}{v:V}(h:AnyAt H v)(k:Kp H H'):AnyAt H' v:=let ⟨o,a⟩:=h; ⟨o,At.mono k o v a⟩
noncomputable abbrev nOddN:List Str:=["pot","most","some"]
theorem scOddN:FnScope nOddN ["pot","most"] (j9 sOddN):= {}
def oddNA (T:Txt mg)(CT:Can P w K mg base "_law_take" 1 fT fdT ["pot","wide"] jBE)(hr:Room 1 (XOf nOddN "_law_odd_number" sOddN P w K mg base f cdv A outer s H0 E).A): { t:TS // JSs (XOf nOddN "_law_odd_number" sOddN P w K mg base f cdv A outer s H0 E) (jG sOddN) t} :=
 have nd:=scOddN.nd
 ⟨_,(j8 (kP (i:=2) nd rfl lL (kN (j4 (x9 qK (jE)) (j4 (jv 1 rfl vL) (j4 (yL yW (jv 1 rfl vL) (jE)) (j4 (y6) (j4 (qU) (j4 (jP) (j4 (jM (j4 (jE) j7 jB)) (j4 (kN (j4 (jE) j7 jB)) (j4 (jNY) (j4 (x9 qK jNY) (j4 (qU) (j4 (jMH) j7 jOJ) jB) se_un) kZ) jQP) jS) jB) jB) jB) kZ) j6) se_un)) jG2)
   (jC (jQ (jT yH (jv 2 rfl vL) (CT.je hr gD (j4 (jv 0 rfl vL) (j4 (jH jJ gD T.len (by decide+kernel) (j4 (jv 2 rfl vL) j7 j6) j6) j7 jK) j6) j6) jB8))))⟩
def jGB:Sp:=fun vs H Q _=>∃ (p:Addr) (N m:Int),vs=[.ref p, .int m]/\H p=some (.lst [.int N])/\0<=N/\∀ v N' H',AnyAt H' v->H' p=some (.lst [.int N'])->0<=N'->Keep H H' p->Q v H'
theorem jPI {fd:FuncData}(F:Fun K "_law_odd_number" "_law_odd_number" sOddN f fd)(T:Txt mg)(CT:Can P w K mg base "_law_take" 1 fT fdT ["pot","wide"] jBE):FnOk P w K mg base CX0 2 f fd ["pot","most"] jGB:=by
 refine F.ok scOddN (fun vs H Q E h=>?_) (fun cdv A outer s H vs Q E hr h=>?_)
 ·obtain⟨_,_,_,rfl,_⟩:=h
  rfl
 ·obtain⟨p,N,m,rfl,hp,hN,q⟩:=h
  refine⟨_,(oddNA T CT hr).2.h,?_⟩
  refine⟨_,rfl,_,rfl,_,rfl,_,_,rfl,rfl,?_⟩
  refine⟨by show (1:Nat)<=_; decide,fun r1 H1 d1 e1=>?_⟩
  refine⟨by show (1:Nat)<=_; decide,fun r2 H2 d2 e2 n2=>?_⟩
  refine⟨_,rfl,fun r3 H3 d3 e3=>?_⟩
  refine⟨by show (12:Nat)<=_; decide,fun l H4 d4 e4 n4=>?_⟩
  have E4:=((e1.trans e2).trans e3).trans e4
  have p4:=E4 _ _ hp
  have lp:l≠p:=fun z=>by rw[z,((e1.trans e2).trans e3) _ _ hp] at n4; cases n4
  refine⟨_,rfl,_,rfl,_,rfl,l,_,rfl, .inl (SqL.of d4),p,N,_,rfl,p4,hN,by show (0:Int)<12; decide,by show (12:Int)<2 ^ 64; decide,fun N5 r a1 a2 a3=>?_⟩
  have a3:r<12:=a3
  have k5:Keep H4 (L2.upd H4 p (.lst [.int N5])) p:=Keep.pot
  have p5:(L2.upd H4 p (.lst [.int N5])) p=some (.lst [.int N5]):=jA
  generalize L2.upd H4 p (.lst [.int N5])=H5 at k5 p5
  have kp5:=jBA p4 p5 k5
  obtain⟨j,rfl⟩:∃ j:Nat,r=(j:Int):=⟨r.toNat,by omega⟩
  have all:∀ v∈[V.int (-1), .int m, .int (m+1), .non, .bl true, .str "0", .ref r1, .ref r2, .int 1000000000000000000000000000000, .int (-1000000000000000000000000000000), .bl false, .ref r3],AnyAt H4 v:=fun v hv=>by
   simp only [am,ar,aX] at hv
   rcases hv with rfl | rfl | rfl | rfl | rfl | rfl | rfl | rfl | rfl | rfl | rfl | rfl
   ·exact⟨_,qM _ _⟩
   ·exact⟨_,qM _ _⟩
   ·exact⟨_,qM _ _⟩
   ·exact⟨_,jL2 _⟩
   ·exact⟨_,at_bl _ _⟩
   ·exact⟨_,jO3 _ _⟩
   ·exact⟨_,jC9 (((e2.trans e3).trans e4) _ _ d1) (by show (1:Nat)<=100; decide) (Ats.ints [0])⟩
   ·exact⟨_,jO5 ((e3.trans e4) _ _ d2)⟩
   ·exact⟨_,qM _ _⟩
   ·exact⟨_,qM _ _⟩
   ·exact⟨_,at_bl _ _⟩
   ·exact⟨_,at_dK (e4 _ _ d3)⟩
  obtain⟨v,hv⟩:∃ v,([V.int (-1), .int m, .int (m+1), .non, .bl true, .str "0", .ref r1, .ref r2, .int 1000000000000000000000000000000, .int (-1000000000000000000000000000000), .bl false, .ref r3]:List V)[j]?=some v:=⟨_,az (show j<12 by omega)⟩
  refine⟨l,_,(j:Int),v,rfl,rfl,SqL.of (k5 _ _ d4 lp),yQ hv,?_⟩
  exact q v N5 H5 ((all v (aP hv)).kp kp5) p5 a1 ((Keep.ofE E4).trans' k5)
def thenB (s:Stmt):List Stmt:=match s with
 | .If _ b _ _=>b
 | _=> []
noncomputable abbrev nDeed:List Str:=["pot","box","most","wide","mays","pieces","way","odd","held","weight","word","size"]
theorem scDeed:FnScope nDeed ["pot","box","most"] (j9 xB):= {}
abbrev XDeed (P:Program)(w:World)(K:W.Frag)(mg:Str->Option Value)(base:Heap)(f:Addr)(cdv:Value)(A:Around)(outer:List Env)(s:Shared)(H:Hp)(E:XK):Cx:=XOf nDeed "_law_deed" xB P w K mg base f cdv A outer s H E
abbrev pB0:List Stmt:=thenB ((jG xB).getD 4 (.Pass ⟨0,0,0,0⟩))
section
variable (T:Txt mg)(CT:Can P w K mg base "_law_take" 1 fT fdT ["pot","wide"] jBE)(CL:Can P w K mg base "_law_lot" 2 fL fdL ["pot","wide"] spLot)(CO:Can P w K mg base "_law_odd_number" 2 fO fdO ["pot","most"] jGB)(hr:Room 2 (XDeed P w K mg base f cdv A outer s H0 E).A)
def de7A: { t:TS // JSs (XDeed P w K mg base f cdv A outer s H0 E) ((jG xB).drop 8) t} :=
 have nd:=scDeed.nd
 have _h:=T; have _h2:=CL
 ⟨_,(j8 (jR (jt_w (xD (jZ (jv 7 rfl vL) jBP) (qS (jN yA (jv 11 rfl vL) (jE) (jL _))))) (jC (jQ (jM (j4 (jv 10 rfl vL) (j4 (CO.je hr gD (j4 (jv 0 rfl vL) (j4 (jv 11 rfl vL) j7 j6) j6) j6) (j4 (y6) j7 jB) jK) j6)))) jI)
   (jC (jQ (jM (j4 (jv 10 rfl vL) (j4 (CT.je (hr.mono (by decide)) gD (j4 (jv 0 rfl vL) (j4 (jv 11 rfl vL) j7 j6) j6) j6) (j4 (y6) j7 jB) jK) j6)))))⟩
def de5A: { t:TS // JSs (XDeed P w K mg base f cdv A outer s H0 E) ((jG xB).drop 5) t} :=
 have nd:=scDeed.nd
 ⟨_,(j8 (jR (jN op_lt (jv 6 rfl vL) (jE) (jL _)) (jC (jQ (jM (j4 (jP) (j4 (y6) (j4 (y6) j7 jB) jB) jB)))) jI) (j8 (kP (i:=10) nd rfl lL (jT yH (kN (j4 (jP) (j4 (jP) (j4 (jP) (j4 (jP) (j4 (jP) j7 jB) jB) jB) jB) jB)) (yL qG (jv 6 rfl vL) (jE)) jNO) qF) (j8 (kP (i:=11) nd rfl lL (jT yH (kN (j4 (jv 3 rfl vL) (j4 (jH jJ gD T.len (by decide+kernel) (j4 (jv 5 rfl vL) j7 j6) j6) j7 jK) j6)) (kY jF2 gD T.int (by decide+kernel) (j4 (y0 yA (jv 10 rfl vL) (jP) (jL _)) j7 jGE) jGE) jB8) qF) (de7A T CT CL CO hr).2)))⟩
def dp5A: { t:TS // JSs (XDeed P w K mg base f cdv A outer s H0 E) (pB0.drop 5) t} :=
 have nd:=scDeed.nd
 have _h:=T; have _h2:=CL; have _h3:=CT; have _h4:=CO; have _h5:=hr
 ⟨_,(jC (jQ (jM (j4 (jP) (j4 (jv 8 rfl vL) (j4 (jv 9 rfl vL) j7 j6) j6) jB))))⟩
def dp4A: { t:TS // JSs (XDeed P w K mg base f cdv A outer s H0 E) (pB0.drop 4) t} :=
 have nd:=scDeed.nd
 ⟨_,(j8 (jR (jt_w (jGX (jZ (jv 7 rfl vL) jBP) (jDX (jN yA (CT.je (hr.mono (by decide)) gD (j4 (jv 0 rfl vL) (j4 (jE) j7 jB) j6) j6) (jE) (jL _))))) (jC (kP (i:=9) nd rfl lL (jT yH (kN (j4 (yL yW (jD0) (jE)) (j4 (yL qG (x9 qK jD0) (jE)) (j4 (y6) (j4 (qU) (j4 (jP) (j4 (jM (j4 (jE) j7 jB)) j7 jS) jB) jB) jB) kZ) kZ)) (CT.je (hr.mono (by decide)) gD (j4 (jv 0 rfl vL) (j4 (jE) j7 jB) j6) j6) jB8) qF)) jI) (dp5A T CT CL CO hr).2)⟩
def dp3A: { t:TS // JSs (XDeed P w K mg base f cdv A outer s H0 E) (pB0.drop 3) t} :=
 have nd:=scDeed.nd
 ⟨_,(j8 (kP (i:=9) nd rfl lL (jT yH (kN (j4 (yL qG (CT.je (hr.mono (by decide)) gD (j4 (jv 0 rfl vL) (j4 (jE) j7 jB) j6) j6) (jE)) (j4 (yL qG (jD0) (CT.je (hr.mono (by decide)) gD (j4 (jv 0 rfl vL) (j4 (jE) j7 jB) j6) j6)) j7 kZ) kZ)) (CT.je (hr.mono (by decide)) gD (j4 (jv 0 rfl vL) (j4 (jE) j7 jB) j6) j6) jB8) qF) (dp4A T CT CL CO hr).2)⟩
def dp2A: { t:TS // JSs (XDeed P w K mg base f cdv A outer s H0 E) (pB0.drop 2) t} :=
 have nd:=scDeed.nd
 ⟨_,(j8 (jR (jt_w (jGX (jZ (jv 7 rfl vL) jBP) (jDX (jN yA (CT.je (hr.mono (by decide)) gD (j4 (jv 0 rfl vL) (j4 (jE) j7 jB) j6) j6) (jE) (jL _))))) (jC (kP (i:=8) nd rfl lL (jT yH (kN (j4 (jM j7) (j4 (yL jAR (jRY (jv 8 rfl vL) (jDY (x9 qK (jE)))) (jv 8 rfl vL)) (j4 (kY jI9 gD T.list (by decide+kernel) (j4 (jv 8 rfl vL) j7 j6) j6) (j4 (yL jAR (jv 8 rfl vL) (jM (j4 (jv 3 rfl vL) j7 j6))) (j4 (y6) (j4 (jM (j4 (qU) j7 jB)) (j4 (jM (j4 (x9 qK (jE)) j7 se_un)) j7 jS) jS) jB) kZ) jK) kZ) jS)) (CT.je (hr.mono (by decide)) gD (j4 (jv 0 rfl vL) (j4 (jE) j7 jB) j6) j6) jB8) qF)) jI) (dp3A T CT CL CO hr).2)⟩
def dp0A: { t:TS // JSs (XDeed P w K mg base f cdv A outer s H0 E) pB0 t} :=
 have nd:=scDeed.nd
 ⟨_,(j8 (kP (i:=8) nd rfl lL (jM (j4 (jE) j7 jB)) jNF) (j8 (jR (jN op_gt (jv 3 rfl vL) (jE) (jL _)) (jC (kP (i:=8) nd rfl lL (CL.je hr gD (j4 (jv 0 rfl vL) (j4 (jv 3 rfl vL) j7 j6) j6) j6) kI)) jI) (dp2A T CT CL CO hr).2))⟩
def de4A: { t:TS // JSs (XDeed P w K mg base f cdv A outer s H0 E) ((jG xB).drop 4) t} :=
 have nd:=scDeed.nd
 ⟨_,(j8 (jR (jt_w (jGX (jN op_lt (jv 6 rfl vL) (jE) (jL _)) (jDX (jt_w (xD (jN op_gt (jv 3 rfl vL) (jE) (jL _)) (qS (jZ (jv 7 rfl vL) jBP))))))) (dp0A T CT CL CO hr).2 jI) (de5A T CT CL CO hr).2)⟩
def deedA: { t:TS // JSs (XDeed P w K mg base f cdv A outer s H0 E) (jG xB) t} :=
 have nd:=scDeed.nd
 ⟨_,(j8 (jER (jv 1 rfl vL) (jH0 (i:=3) (j:=4) (l:=5) nd rfl rfl rfl (by decide+kernel) (by decide+kernel) (by decide+kernel))) (j8 (kP (i:=6) nd rfl lL (CT.je (hr.mono (by decide)) gD (j4 (jv 0 rfl vL) (j4 (jE) j7 jB) j6) j6) kI) (j8 (kP (i:=7) nd rfl lL (y0 yA (CT.je (hr.mono (by decide)) gD (j4 (jv 0 rfl vL) (j4 (jE) j7 jB) j6) j6) (jE) (jL _)) jQL) (j8 (jR (jt_w (jGX (jN op_lt (jv 6 rfl vL) (jE) (jL _)) (jDX (jt_w (xD (jN op_lt (jv 3 rfl vL) (jv 2 rfl vL) (jL _)) (qS (jZ (jv 7 rfl vL) jBP))))))) (jC (jQ (jM (j4 (jP) (j4 (y0 op_gt (CT.je (hr.mono (by decide)) gD (j4 (jv 0 rfl vL) (j4 (jE) j7 jB) j6) j6) (jE) (jL _)) (j4 (y6) j7 jB) jGE) jB)))) jI) (de4A T CT CL CO hr).2))))⟩
abbrev DRt (D:Ends)(H:Hp)(p:Addr):Prop:=∀ v d N' H',DdAt H' v d->H' p=some (.lst [.int N'])->0<=N'->Keep H H' p->D.rt v H'
abbrev wOf (wd:Str)(dof:Ob->Dd):Prop:=∀ o,ddW (dof o)=wd/\∀ H v1 v2,At H o v1->ddV H (dof o) v1 v2
theorem jMX {D:Ends}{H:Hp}{p:Addr}{N sz:Int}{od:Bool}{wd:Str}{dof:Ob->Dd}{v1 v2 v3 v4 v5 v6 v8 v9:Option V}(hp:H p=some (.lst [.int N]))(hN:0<=N)(hw:wOf wd dof)(s0:0<=sz)(s1:sz<=100)(q:DRt D H p):
  (de7A T CT CL CO hr).1 D [some (.ref p),v1,v2,v3,v4,v5,v6,some (.bl od),v8,v9,some (.str wd),some (.int sz)] H:=by
 have fin:∀ (v:V) (o:Ob) (N1:Int) (H1:Hp),At H1 o v->H1 p=some (.lst [.int N1])->0<=N1->Keep H H1 p->∀ r H2,H2 r=some (.tup [.str wd,v, .non])->Ext H1 H2->D.rt (.ref r) H2:=fun v o N1 H1 ha p1 n1 k1 r H2 d2 e2=>by
  obtain⟨w1,w2⟩:=hw o
  exact q (.ref r) (dof o) N1 H2 ⟨r,v, .non,rfl,by rw[w1]; exact d2,w2 _ _ _ (ha.ext e2)⟩ (e2 _ _ p1) n1 (k1.trans' (Keep.ofE e2))
 cases od with
 | true=>
  refine⟨_,rfl,true,rfl,iteT (iteT ?_)⟩
  refine⟨_,rfl,_,rfl,_,rfl,p,N,sz,rfl,hp,hN,fun v N1 H1 ⟨o,ha⟩ p1 n1 k1=>⟨by show (3:Nat)<=_; decide,fun r H2 d2 e2=>fin v o N1 H1 ha p1 n1 k1 r H2 d2 e2⟩⟩
 | false=>
  refine⟨_,rfl,false,rfl,iteF ?_⟩
  refine⟨_,rfl,rfl,_,rfl,ite2 (fun h=>?_) (fun h=>?_)⟩
  ·exact⟨_,rfl,_,rfl,_,rfl,p,N,sz,rfl,hp,hN,fun v N1 H1 ⟨o,ha⟩ p1 n1 k1=>⟨by show (3:Nat)<=_; decide,fun r H2 d2 e2=>fin v o N1 H1 ha p1 n1 k1 r H2 d2 e2⟩⟩
  ·have h:¬ sz=0:=fun e=>h (aj (by rw[e]))
   refine⟨_,rfl,_,rfl,_,rfl,p,N,sz,rfl,hp,hN,by omega,by omega,fun N1 r1 a1 a2 a3=>⟨by show (3:Nat)<=_; decide,fun r H2 d2 e2=>fin (.int r1) (.int r1) N1 _ (qM _ _) jA a1 Keep.pot r H2 d2 e2⟩⟩
theorem jMY {D:Ends}{H:Hp}{p qp:Addr}{N wi:Int}{od:Bool}{ps:List V}{wy:Nat}{v1 v2 v4 v8 v9 vA vB:Option V}(hp:H p=some (.lst [.int N]))(hN:0<=N)(b3:H qp=some (.tup ps))(pl:ps.length<=100)(w0:0<=wi)(w1:wi<=100)(wy14:wy<14)(q:DRt D H p):
  (de5A T CT CL CO hr).1 D [some (.ref p),v1,v2,some (.int wi),v4,some (.ref qp),some (natV wy),some (.bl od),v8,v9,vA,vB] H:=by
 refine⟨_,rfl,_,_,rfl,rfl,_,rfl,ite2 (fun h=>?_) (fun h=>?_)⟩
 ·refine⟨by show (3:Nat)<=_; decide,fun r H1 d1 e1=>q (.ref r) .und N H1 ⟨r, .non, .non,rfl,d1,trivial⟩ (e1 _ _ hp) hN (Keep.ofE e1)⟩
 ·have h9:9<=wy:=by
   have:¬ ((wy:Int)<9):=fun z=>h (aj z)
   omega
  obtain⟨j,rfl⟩:∃ j,wy=9+j:=⟨wy - 9,by omega⟩
  refine⟨by show (5:Nat)<=_; decide,fun l H1 d1 e1 n1=>?_⟩
  have ei:((9+j:Nat):Int) - 9=(j:Int):=by omega
  refine⟨_,rfl,_,_,rfl,rfl,?_⟩
  have go:∀ (wd:Str) (dof:Ob->Dd),wOf wd dof->∀ (H2:Hp),Ext H H2->∀ sz:Int,0<=sz->sz<=100->(de7A T CT CL CO hr).1 D [some (.ref p),v1,v2,some (.int wi),v4,some (.ref qp),some (natV (9+j)),some (.bl od),v8,v9,some (.str wd),some (.int sz)] H2:=fun wd dof hw H2 e2 sz s0 s1=>jMX T CT CL CO hr (e2 _ _ hp) hN hw s0 s1 fun v d N' H' a b c k=>q v d N' H' a b c ((Keep.ofE e2).trans' k)
  have wT:wOf "turn" .trn:=fun o=>⟨rfl,fun _ _ _ h=>h⟩
  have wK:wOf "take thing" .tkt:=fun o=>⟨rfl,fun _ _ _ h=>h⟩
  have wP:wOf "take piece" .tkp:=fun o=>⟨rfl,fun _ _ _ h=>h⟩
  have key:∃ wd dof,wOf wd dof/\ [V.str "turn", .str "take thing", .str "take piece", .str "turn", .str "take piece"][j]?=some (V.str wd):=by
   have:j<5:=by omega
   match j,this with
   | 0,_=>exact⟨_,_,wT,rfl⟩
   | 1,_=>exact⟨_,_,wK,rfl⟩
   | 2,_=>exact⟨_,_,wP,rfl⟩
   | 3,_=>exact⟨_,_,wT,rfl⟩
   | 4,_=>exact⟨_,_,wP,rfl⟩
  obtain⟨wd,dof,hw,hat⟩:=key
  refine⟨l,_,(j:Int),V.str wd,rfl,by show V.int (((9+j:Nat):Int) - 9)=_; rw[ei],SqL.of d1,yQ hat,?_⟩
  refine⟨_,rfl,_,rfl,qp,_,rfl, .inr (SqT.of (e1 _ _ b3)),by show (2:Nat)<=_; decide,fun l2 H2 d2 e2 n2=>?_⟩
  refine⟨_,rfl,rfl, .inr ⟨_,rfl,?_⟩⟩
  have E2:=e1.trans e2
  cases hc:decide (V.str wd=V.str "take piece") with
  | true=>exact⟨l2,_,((1:Nat):Int),_,rfl,rfl,SqL.of d2,yQ rfl,go wd dof hw H2 E2 _ (by omega) (by omega)⟩
  | false=>exact⟨l2,_,((0:Nat):Int),_,rfl,rfl,SqL.of d2,yQ rfl,go wd dof hw H2 E2 _ w0 w1⟩
theorem jMT {D:Ends}{H:Hp}{p:Addr}{N:Int}{vh vw:V}{v1 v2 v3 v4 v5 v6 v7 vA vB:Option V}(hp:H p=some (.lst [.int N]))(hN:0<=N)(hh:AnyAt H vh)(hw:AnyAt H vw)(q:DRt D H p):
  (dp5A T CT CL CO hr).1 D [some (.ref p),v1,v2,v3,v4,v5,v6,v7,some vh,some vw,vA,vB] H:=by
 obtain⟨o1,a1⟩:=hh
 obtain⟨o2,a2⟩:=hw
 exact⟨_,rfl,_,rfl,by show (3:Nat)<=_; decide,fun r H1 d1 e1=>q (.ref r) (.pce o1 o2) N H1 ⟨r,_,_,rfl,d1,a1.ext e1,a2.ext e1⟩ (e1 _ _ hp) hN (Keep.ofE e1)⟩
theorem jMU {D:Ends}{H:Hp}{p:Addr}{N:Int}{od:Bool}{vh vw:V}{v1 v2 v3 v4 v5 v6 vA vB:Option V}(hp:H p=some (.lst [.int N]))(hN:0<=N)(hh:AnyAt H vh)(hw:AnyAt H vw)(q:DRt D H p):
  (dp4A T CT CL CO hr).1 D [some (.ref p),v1,v2,v3,v4,v5,v6,some (.bl od),some vh,some vw,vA,vB] H:=by
 have go:∀ (N1:Int) (H1:Hp) (vw:V),H1 p=some (.lst [.int N1])->0<=N1->Keep H H1 p->AnyAt H1 vw->(dp5A T CT CL CO hr).1 D [some (.ref p),v1,v2,v3,v4,v5,v6,some (.bl od),some vh,some vw,vA,vB] H1:=fun N1 H1 vw p1 n1 k1 a1=>jMT T CT CL CO hr p1 n1 (hh.kp (jBA hp p1 k1)) a1 fun v d N' H' a b c k=>q v d N' H' a b c (k1.trans' k)
 cases od with
 | false=>exact⟨_,rfl,false,rfl,iteF (iteF (go N H vw hp hN (fun _ _ h _=>h) hw))⟩
 | true=>
  refine⟨_,rfl,true,rfl,iteT ?_⟩
  refine⟨_,rfl,p,N,2,rfl,hp,hN,by decide,by decide,fun N1 r a1 a2 a3=>?_⟩
  have k1:Keep H (L2.upd H p (.lst [.int N1])) p:=Keep.pot
  have p1:(L2.upd H p (.lst [.int N1])) p=some (.lst [.int N1]):=jA
  generalize L2.upd H p (.lst [.int N1])=H1 at k1 p1
  refine⟨rfl,_,rfl,ite2 (fun h=>?_) (fun h=>go N1 H1 vw p1 a1 k1 (hw.kp (jBA hp p1 k1)))⟩
  refine⟨_,_,rfl,rfl,_,rfl,_,_,rfl,rfl,by show (1:Nat)<=_; decide,fun q1 H2 d2 e2=>?_⟩
  refine⟨by show (6:Nat)<=_; decide,fun l H3 d3 e3 n3=>?_⟩
  have E3:=e2.trans e3
  have p3:=E3 _ _ p1
  have lp:l≠p:=fun z=>by rw[z,e2 _ _ p1] at n3; cases n3
  refine⟨_,rfl,p,N1,6,rfl,p3,a1,by decide,by decide,fun N4 r4 b1 b2 b3=>?_⟩
  have k4:Keep H3 (L2.upd H3 p (.lst [.int N4])) p:=Keep.pot
  have p4:(L2.upd H3 p (.lst [.int N4])) p=some (.lst [.int N4]):=jA
  generalize L2.upd H3 p (.lst [.int N4])=H4 at k4 p4
  obtain⟨j,rfl⟩:∃ j:Nat,r4=(j:Int):=⟨r4.toNat,by omega⟩
  have all:∀ v∈[V.int (1000000000000+1), .int (-1000000000000 - 1), .non, .bl true, .str "1", .ref q1],AnyAt H3 v:=fun v hv=>by
   simp only [am,ar,aX] at hv
   rcases hv with rfl | rfl | rfl | rfl | rfl | rfl
   ·exact⟨_,qM _ _⟩
   ·exact⟨_,qM _ _⟩
   ·exact⟨_,jL2 _⟩
   ·exact⟨_,at_bl _ _⟩
   ·exact⟨_,jO3 _ _⟩
   ·exact⟨_,jC9 (e3 _ _ d2) (by show (1:Nat)<=100; decide) (Ats.ints [1])⟩
  obtain⟨v,hv⟩:∃ v,([V.int (1000000000000+1), .int (-1000000000000 - 1), .non, .bl true, .str "1", .ref q1]:List V)[j]?=some v:=⟨_,az (show j<6 by omega)⟩
  refine⟨l,_,(j:Int),v,rfl,rfl,SqL.of (k4 _ _ d3 lp),yQ hv,?_⟩
  exact go N4 H4 v p4 b1 ((k1.trans' (Keep.ofE E3)).trans' k4) ((all v (aP hv)).kp (jBA p3 p4 k4))
theorem jMV {D:Ends}{H:Hp}{p:Addr}{N:Int}{od:Bool}{vh:V}{v1 v2 v3 v4 v5 v6 v9 vA vB:Option V}(hp:H p=some (.lst [.int N]))(hN:0<=N)(hh:AnyAt H vh)(q:DRt D H p):
  (dp3A T CT CL CO hr).1 D [some (.ref p),v1,v2,v3,v4,v5,v6,some (.bl od),some vh,v9,vA,vB] H:=by
 refine⟨_,rfl,p,N,9,rfl,hp,hN,by decide,by decide,fun N1 r1 a1 a2 a3=>⟨_,_,rfl,rfl,?_⟩⟩
 have k1:Keep H (L2.upd H p (.lst [.int N1])) p:=Keep.pot
 have p1:(L2.upd H p (.lst [.int N1])) p=some (.lst [.int N1]):=jA
 generalize L2.upd H p (.lst [.int N1])=H1 at k1 p1
 refine⟨_,rfl,p,N1,9,rfl,p1,a1,by decide,by decide,fun N2 r2 b1 b2 b3=>⟨_,_,rfl,rfl,?_⟩⟩
 have k2:Keep H1 (L2.upd H1 p (.lst [.int N2])) p:=Keep.pot
 have p2:(L2.upd H1 p (.lst [.int N2])) p=some (.lst [.int N2]):=jA
 generalize L2.upd H1 p (.lst [.int N2])=H2 at k2 p2
 refine⟨by show (2:Nat)<=_; decide,fun l H3 d3 e3 n3=>?_⟩
 have p3:=e3 _ _ p2
 have lp:l≠p:=fun z=>by rw[z,p2] at n3; cases n3
 refine⟨_,rfl,p,N2,2,rfl,p3,b1,by decide,by decide,fun N4 r4 c1 c2 c3=>?_⟩
 have k4:Keep H3 (L2.upd H3 p (.lst [.int N4])) p:=Keep.pot
 have p4:(L2.upd H3 p (.lst [.int N4])) p=some (.lst [.int N4]):=jA
 generalize L2.upd H3 p (.lst [.int N4])=H4 at k4 p4
 have K4:=((k1.trans' k2).trans' (Keep.ofE e3)).trans' k4
 have go:∀ z:Int,(dp4A T CT CL CO hr).1 D [some (.ref p),v1,v2,v3,v4,v5,v6,some (.bl od),some vh,some (.int z),vA,vB] H4:=fun z=>jMU T CT CL CO hr p4 c1 (hh.kp (jBA hp p4 K4)) ⟨_,qM _ z⟩ fun v d N' H' a b c k=>q v d N' H' a b c (K4.trans' k)
 obtain⟨j,rfl⟩:∃ j:Nat,r4=(j:Int):=⟨r4.toNat,by omega⟩
 have:j<2:=by omega
 match j,this with
 | 0,_=>exact⟨l,_,((0:Nat):Int),_,rfl,rfl,SqL.of (k4 _ _ d3 lp),yQ rfl,go _⟩
 | 1,_=>exact⟨l,_,((1:Nat):Int),_,rfl,rfl,SqL.of (k4 _ _ d3 lp),yQ rfl,go _⟩
theorem jH6 {D:Ends}{H:Hp}{p th:Addr}{N wi:Int}{od:Bool}{ts:List Int}{v1 v2 v4 v5 v6 v9 vA vB:Option V}(hp:H p=some (.lst [.int N]))(hN:0<=N)(dh:H th=some (.tup (ts.map V.int)))(tl:ts.length<=16)(q:DRt D H p):
  (dp2A T CT CL CO hr).1 D [some (.ref p),v1,v2,some (.int wi),v4,v5,v6,some (.bl od),some (.ref th),v9,vA,vB] H:=by
 have ah:AnyAt H (.ref th):=⟨_,jC9 dh (by rw[ag]; omega) (Ats.ints ts)⟩
 have go:∀ (N1:Int) (H1:Hp) (vh:V),H1 p=some (.lst [.int N1])->0<=N1->Keep H H1 p->AnyAt H1 vh->(dp3A T CT CL CO hr).1 D [some (.ref p),v1,v2,some (.int wi),v4,v5,v6,some (.bl od),some vh,v9,vA,vB] H1:=fun N1 H1 vh p1 n1 k1 a1=>jMV T CT CL CO hr p1 n1 a1 fun v d N' H' a b c k=>q v d N' H' a b c (k1.trans' k)
 cases od with
 | false=>exact⟨_,rfl,false,rfl,iteF (iteF (go N H _ hp hN (fun _ _ h _=>h) ah))⟩
 | true=>
  refine⟨_,rfl,true,rfl,iteT ?_⟩
  refine⟨_,rfl,p,N,2,rfl,hp,hN,by decide,by decide,fun N1 r a1 a2 a3=>?_⟩
  have k1:Keep H (L2.upd H p (.lst [.int N1])) p:=Keep.pot
  have p1:(L2.upd H p (.lst [.int N1])) p=some (.lst [.int N1]):=jA
  have dh1:(L2.upd H p (.lst [.int N1])) th=some (.tup (ts.map V.int)):=k1 _ _ dh fun z=>by rw[z,hp] at dh; cases dh
  generalize L2.upd H p (.lst [.int N1])=H1 at k1 p1 dh1
  refine⟨rfl,_,rfl,ite2 (fun h=>?_) (fun h=>go N1 H1 _ p1 a1 k1 (ah.kp (jBA hp p1 k1)))⟩
  refine⟨by show (0:Nat)<=_; decide,fun x1 G1 c1 f1=>?_⟩
  have dh2:=f1 _ _ dh1
  refine⟨_,rfl,_,rfl, -1,rfl,rfl,th,_,rfl,dh2,fun x2 G2 c2 f2=>?_⟩
  have c2:G2 x2=some (.tup ((ts.reverse).map V.int)):=by rw[c2,List.map_reverse]
  refine⟨_,rfl,x2,th,_,_,rfl,rfl,c2,f2 _ _ dh2,by rw[ag,ag,dI,aC]; omega,fun x3 G3 c3 f3=>?_⟩
  have c3:G3 x3=some (.tup ((ts.reverse++ts).map V.int)):=by rw[c3,aU]
  have dh3:=(f2.trans f3) _ _ dh2
  refine⟨_,rfl,th,_,rfl,dh3,fun x4 G4 c4 f4 n4=>?_⟩
  have dh4:=f4 _ _ dh3
  refine⟨_,rfl,_,rfl,by show (1:Nat)<=_; decide,fun x5 G5 c5 f5=>?_⟩
  refine⟨th,x5,_,_,rfl,rfl,f5 _ _ dh4,c5,by rw[ag,aC]; show _+1<=_; omega,fun x6 G6 c6 f6=>?_⟩
  have c6:G6 x6=some (.tup ((ts++[wi]).map V.int)):=by rw[c6,aU]; rfl
  refine⟨by show (1:Nat)<=_; decide,fun x7 G7 c7 f7=>?_⟩
  refine⟨_,rfl,by show (1:Nat)<=_; decide,fun x8 G8 c8 f8=>?_⟩
  refine⟨by show (7:Nat)<=_; decide,fun l H3 d3 e3 n3=>?_⟩
  have h78:=f8.trans e3
  have h67:=f7.trans h78
  have h46:=(f5.trans f6).trans h67
  have h34:=f4.trans h46
  have h13:=(f2.trans f3).trans h34
  have E3:=f1.trans h13
  have p3:=E3 _ _ p1
  have lp:l≠p:=fun z=>by
   have:G8 p=some (.lst [.int N1]):=((((((f1.trans f2).trans f3).trans f4).trans f5).trans f6).trans (f7.trans f8)) _ _ p1
   rw[z,this] at n3
   cases n3
  refine⟨_,rfl,p,N1,7,rfl,p3,a1,by decide,by decide,fun N4 r4 b1 b2 b3=>?_⟩
  have k4:Keep H3 (L2.upd H3 p (.lst [.int N4])) p:=Keep.pot
  have p4:(L2.upd H3 p (.lst [.int N4])) p=some (.lst [.int N4]):=jA
  generalize L2.upd H3 p (.lst [.int N4])=H4 at k4 p4
  obtain⟨j,rfl⟩:∃ j:Nat,r4=(j:Int):=⟨r4.toNat,by omega⟩
  have all:∀ v∈[V.ref x1, .ref x3, .ref x4, .ref x6, .non, .ref x7, .ref x8],AnyAt H3 v:=fun v hv=>by
   simp only [am,ar,aX] at hv
   rcases hv with rfl | rfl | rfl | rfl | rfl | rfl | rfl
   ·exact⟨_,jC9 (h13 _ _ c1) (by show (0:Nat)<=100; decide) (Ats.ints [])⟩
   ·exact⟨_,jC9 (h34 _ _ c3) (by rw[ag,aD,dI]; omega) (Ats.ints _)⟩
   ·exact⟨_,jO5 (h46 _ _ c4)⟩
   ·exact⟨_,jC9 (h67 _ _ c6) (by rw[ag,aD]; show _+1<=_; omega) (Ats.ints _)⟩
   ·exact⟨_,jL2 _⟩
   ·exact⟨_,jE8 (h78 _ _ c7) (at_bl _ _)⟩
   ·exact⟨_,jE8 (e3 _ _ c8) (qM _ _)⟩
  obtain⟨v,hv⟩:∃ v,([V.ref x1, .ref x3, .ref x4, .ref x6, .non, .ref x7, .ref x8]:List V)[j]?=some v:=⟨_,az (show j<7 by omega)⟩
  refine⟨l,_,(j:Int),v,rfl,rfl,SqL.of (k4 _ _ d3 lp),yQ hv,?_⟩
  exact go N4 H4 v p4 b1 ((k1.trans' (Keep.ofE E3)).trans' k4) ((all v (aP hv)).kp (jBA p3 p4 k4))
theorem jMW {D:Ends}{H:Hp}{p:Addr}{N wi:Int}{od:Bool}{v1 v2 v4 v5 v6 v8 v9 vA vB:Option V}(hp:H p=some (.lst [.int N]))(hN:0<=N)(w0:0<=wi)(w1:wi<=16)(q:DRt D H p):
  (dp0A T CT CL CO hr).1 D [some (.ref p),v1,v2,some (.int wi),v4,v5,v6,some (.bl od),v8,v9,vA,vB] H:=by
 refine⟨by show (1:Nat)<=_; decide,fun th H1 d1 e1=>?_⟩
 have p1:=e1 _ _ hp
 refine⟨_,rfl,_,_,rfl,rfl,_,rfl,ite2 (fun h=>?_) (fun h=>?_)⟩
 ·have h:wi>0:=ai h
  refine⟨_,rfl,_,rfl,p,N,wi,rfl,p1,hN,by omega,w1,fun th2 N2 ts H2 n2 lt d2 p2 k2=>?_⟩
  have tl:=yU lt.ris lt.bnd w1
  exact jH6 T CT CL CO hr p2 n2 d2 (by omega) fun v d N' H' a b c k=>q v d N' H' a b c (((Keep.ofE e1).trans' k2).trans' k)
 ·exact jH6 T CT CL CO hr (ts:=[0]) p1 hN d1 (by decide) fun v d N' H' a b c k=>q v d N' H' a b c ((Keep.ofE e1).trans' k)
theorem jMZ {D:Ends}{H:Hp}{p qp:Addr}{N wi:Int}{od:Bool}{ps:List V}{wy:Nat}{v1 v2 v4 v8 v9 vA vB:Option V}(hp:H p=some (.lst [.int N]))(hN:0<=N)(b3:H qp=some (.tup ps))(pl:ps.length<=100)(w0:0<=wi)(w1:wi<=16)(wy14:wy<14)(q:DRt D H p):
  (de4A T CT CL CO hr).1 D [some (.ref p),v1,v2,some (.int wi),v4,some (.ref qp),some (natV wy),some (.bl od),v8,v9,vA,vB] H:=by
 have y:∀ D':Ends,D'.rt=D.rt->(dp0A T CT CL CO hr).1 D' [some (.ref p),v1,v2,some (.int wi),v4,some (.ref qp),some (natV wy),some (.bl od),v8,v9,vA,vB] H:=fun D' e=>jMW T CT CL CO hr hp hN w0 w1 fun v d N' H' a b c k=>by rw[e]; exact q v d N' H' a b c k
 have n:(de5A T CT CL CO hr).1 D [some (.ref p),v1,v2,some (.int wi),v4,some (.ref qp),some (natV wy),some (.bl od),v8,v9,vA,vB] H:=jMY T CT CL CO hr hp hN b3 pl w0 (by omega) wy14 q
 refine⟨_,rfl,_,_,rfl,rfl,_,rfl,ite2 (fun h=>?_) (fun h=>iteF n)⟩
 refine⟨_,rfl,_,_,rfl,rfl,_,rfl,ite2 (fun h=>iteT (y _ rfl)) (fun h=>?_)⟩
 refine⟨_,rfl,od,rfl,?_⟩
 cases od with
 | true=>exact iteT (y _ rfl)
 | false=>exact iteF n
end
def jIX:Sp:=fun vs H Q _=>∃ (p b:Addr) (N m:Int) (x:Bx),vs=[.ref p, .ref b, .int m]/\H p=some (.lst [.int N])/\0<=N/\BxB H b x/\Good 16 32 x.1 x.2.1 x.2.2/\∀ v d N' H',DdAt H' v d->H' p=some (.lst [.int N'])->0<=N'->Keep H H' p->Q v H'
theorem jPL {fd:FuncData}(F:Fun K "_law_deed" "_law_deed" xB f fd)(T:Txt mg)(CT:Can P w K mg base "_law_take" 1 fT fdT ["pot","wide"] jBE)(CL:Can P w K mg base "_law_lot" 2 fL fdL ["pot","wide"] spLot)(CO:Can P w K mg base "_law_odd_number" 2 fO fdO ["pot","most"] jGB):FnOk P w K mg base CX0 3 f fd ["pot","box","most"] jIX:=by
 refine F.ok scDeed (fun vs H Q E h=>?_) (fun cdv A outer s H vs Q E hr h=>?_)
 ·obtain⟨_,_,_,_,_,rfl,_⟩:=h
  rfl
 ·obtain⟨p,b,N,m,⟨wi,ms,ip⟩,rfl,hp,hN,hB,g,q⟩:=h
  refine⟨_,(deedA T CT CL CO hr).2.h,?_⟩
  obtain⟨qm,qp,ps,b1,b2,b3,b4⟩:=id hB.ex
  have b1:H b=some (.tup [.int wi, .ref qm, .ref qp]):=b1
  have g:Good 16 32 wi ms ip:=g
  have psl:ps.length=ip.length:=b4.len
  have w0:=g.w0
  have w1:=g.w1
  have gpl:=g.pl
  refine⟨_,rfl,b,_,rfl,SqT.of b1,rfl,_,_,rfl,_,_,rfl,_,_,rfl,rfl,?_⟩
  refine⟨_,rfl,p,N,14,rfl,hp,hN,by decide,by decide,fun N1 r1 a1 a2 a3=>?_⟩
  obtain⟨wy,rfl⟩:∃ wy:Nat,r1=(wy:Int):=⟨r1.toNat,by omega⟩
  have k1:Keep H (L2.upd H p (.lst [.int N1])) p:=Keep.pot
  have p1:(L2.upd H p (.lst [.int N1])) p=some (.lst [.int N1]):=jA
  generalize L2.upd H p (.lst [.int N1])=H1 at k1 p1
  refine⟨_,rfl,p,N1,6,rfl,p1,a1,by decide,by decide,fun N2 r2 c1 c2 c3=>⟨rfl,?_⟩⟩
  have k2:Keep H1 (L2.upd H1 p (.lst [.int N2])) p:=Keep.pot
  have p2:(L2.upd H1 p (.lst [.int N2])) p=some (.lst [.int N2]):=jA
  generalize L2.upd H1 p (.lst [.int N2])=H2 at k2 p2
  have K2:=k1.trans' k2
  generalize decide (V.int r2=V.int 1)=od
  have n:(de4A (f:=f) (cdv:=cdv) (A:=A) (outer:=outer) (s:=s) (H0:=H) (E:=E) T CT CL CO hr).1 { nx:=fun _ H'=>Q .non H',rt:=Q} [some (.ref p),some (.ref b),some (.int m),some (.int wi),some (.ref qm),some (.ref qp),some (natV wy),some (.bl od),none,none,none,none] H2:=jMZ T CT CL CO hr p2 c1 (K2 _ _ b3 fun z=>by rw[z,hp] at b3; cases b3) (by omega) w0 w1 (by omega) fun v d N' H' a b c k=>q v d N' H' a b c (K2.trans' k)
  have y:∀ D':Ends,D'.rt=Q->(tRet (tTupU (tCons (tC (V.str "thing")) (tCons (tOp (rI0 fun i j=>V.bl (decide (i>j))) (tCall jBE [] E0 (tCons (tVar 0) (tCons (tC (V.int 3)) tNil))) (tC (V.int 0))) (tCons (tC V.non) tNil))))) D' [some (.ref p),some (.ref b),some (.int m),some (.int wi),some (.ref qm),some (.ref qp),some (natV wy),some (.bl od),none,none,none,none] H2->True:=fun _ _ _=>trivial
  clear y
  have yy:∀ r3:Int,0<=r3->∀ (N3:Int) (H3:Hp),H3 p=some (.lst [.int N3])->0<=N3->Keep H2 H3 p->∀ (bb:Bool) r H4,H4 r=some (.tup [.str "thing", .bl bb, .non])->Ext H3 H4->Q (.ref r) H4:=fun r3 _ N3 H3 p3 n3 k3 bb r H4 d4 e4=>q (.ref r) (.thg bb) N3 H4 ⟨r,_,_,rfl,d4,rfl⟩ (e4 _ _ p3) n3 ((K2.trans' k3).trans' (Keep.ofE e4))
  refine⟨_,rfl,_,_,rfl,rfl,_,rfl,ite2 (fun h=>?_) (fun h=>iteF n)⟩
  refine⟨_,rfl,_,rfl,_,_,rfl,rfl,_,rfl,ite2 (fun h=>iteT ?_) (fun h=>?_)⟩
  ·refine⟨_,rfl,p,N2,3,rfl,p2,c1,by decide,by decide,fun N3 r3 e1 e2 e3=>⟨_,_,rfl,rfl,by show (3:Nat)<=_; decide,fun r H4 d4 e4=>yy r3 e2 N3 _ jA e1 Keep.pot _ r H4 d4 e4⟩⟩
  ·refine⟨_,rfl,od,rfl,?_⟩
   cases od with
   | true=>exact iteT ⟨_,rfl,p,N2,3,rfl,p2,c1,by decide,by decide,fun N3 r3 e1 e2 e3=>⟨_,_,rfl,rfl,by show (3:Nat)<=_; decide,fun r H4 d4 e4=>yy r3 e2 N3 _ jA e1 Keep.pot _ r H4 d4 e4⟩⟩
   | false=>exact iteF n
abbrev qD (x:Bx):Prop:=Good 16 32 x.1 x.2.1 x.2.2
theorem lotP {n:Int}{o:Ob}(h:¬ lotB n o=false):(obTs o).Pairwise (· < ·)/\∀ k∈obTs o,0<=k/\k<n:=by
 have h:lotB n o=true:=by cases z:lotB n o with
  | true=>rfl
  | false=>exact absurd z h
 cases o with
 | int i=>cases h
 | oth=>cases h
 | tup os=>
  have h0:(os.all (upB 0 (n - 1))&&(adj (os.map val)).all id)=true:=h
  have h1:=aQ.mp (ce.mp h0).1
  have hi:∀ o∈os,∃ i,o=Ob.int i:=fun o ho=>by
   have:=h1 o ho
   cases o with
   | int i=>exact⟨i,rfl⟩
   | oth=>cases this
   | tup r=>cases this
  have e:os=(os.map val).map Ob.int:=by
   rw[cq]
   exact((fo fun o ho=>by obtain⟨i,rfl⟩:=hi o ho; rfl).trans (io os)).symm
  have hx:Ats (fun _=>none) os ((os.map val).map V.int):=by
   conv=>arg 2; rw[e]
   exact Ats.ints _
  have:=jGT h hx
  exact⟨this.2.1,this.2.2⟩
theorem jMN {x:Bx}{hs:List Bx}{d:Dd}(g:qD x)(gh:∀ y∈hs,qD y)(hw:refW x hs d=none):qD (newB x hs d).1:=by
 obtain⟨wi,ms,ip⟩:=x
 have g:Good 16 32 wi ms ip:=g
 have w0:=g.w0
 have w1:=g.w1
 have gpl:=g.pl
 cases d with
 | thg m=>
  have h16:¬ 16<=wi:=fun h=>by rw[show refW (wi,ms,ip) hs (.thg m)=some "many" from aB h] at hw; cases hw
  show Good 16 32 (wi+1) (if m=true then ms else ms++[wi]) ip
  refine⟨by omega,by omega,?_,gpl,fun pc hp=>?_⟩
  ·cases m with
   | true=>exact⟨g.mr.ris,fun z hz=>by have:=g.mr.bnd z hz; omega⟩
   | false=>
    refine⟨eZ.mpr ⟨g.mr.ris,gt _ _,fun a ha c hc=>?_⟩,fun z hz=>?_⟩
    ·rw[aG.mp hc]
     exact(g.mr.bnd a ha).2
    ·rcases bq.mp hz with y | y
     ·have:=g.mr.bnd z y; omega
     ·rw[aG.mp y]; omega
  ·have gp:=g.pg pc hp
   exact⟨⟨gp.lot.ris,fun z hz=>by have:=gp.lot.bnd z hz; omega,gp.lot.ne⟩,gp.lo,gp.hi⟩
 | pce o1 o2=>
  by_cases p32:32<=ip.length
  ·rw[show refW (wi,ms,ip) hs (.pce o1 o2)=some "many" from aB p32] at hw; cases hw
  ·by_cases hb:lotB wi o1=false\/obTs o1=[]
   ·rw[show refW (wi,ms,ip) hs (.pce o1 o2)=some "no thing" from(av p32).trans (aB hb)] at hw; cases hw
   ·by_cases hw2:wtB o2=false
    ·rw[show refW (wi,ms,ip) hs (.pce o1 o2)=some "no weight" from((av p32).trans (av hb)).trans (aB hw2)] at hw; cases hw
    ·obtain⟨pr,bb⟩:=lotP fun z=>hb (.inl z)
     obtain⟨z,rfl,z1,z2⟩:=jID hw2
     show Good 16 32 wi ms (ip++[(obTs o1,z)])
     refine⟨w0,w1,g.mr,by rw[aD]; show ((ip.length+1:Nat):Int)<=32; omega,fun pc hp=>?_⟩
     rcases bq.mp hp with y | y
     ·exact g.pg pc y
     ·rw[aG.mp y]
      exact⟨⟨pr,bb,fun e=>hb (.inr e)⟩,z1,z2⟩
 | trn o=>
  by_cases hb:lotB wi (.tup [o])=false
  ·rw[show refW (wi,ms,ip) hs (.trn o)=some "no thing" from aB hb] at hw; cases hw
  ·obtain⟨t,rfl,t0,t1⟩:=jA6 hb
   exact⟨w0,w1,jIH g.mr t0 t1,gpl,g.pg⟩
 | tkt o=>
  by_cases hb:lotB wi (.tup [o])=false
  ·rw[show refW (wi,ms,ip) hs (.tkt o)=some "no thing" from aB hb] at hw; cases hw
  ·obtain⟨t,rfl,t0,t1⟩:=jA6 hb
   by_cases hh:(ip.any fun pc=>decide (t∈pc.1))=true
   ·rw[show refW (wi,ms,ip) hs (.tkt (.int t))=some "held" from(av hb).trans (aB hh)] at hw; cases hw
   ·have hn:∀ pc∈ip,t∉pc.1:=fun pc hp hm=>hh (bZ.mpr ⟨pc,hp,aj hm⟩)
    have al:=jCI t wi.toNat
    show qD (lss t (wi,ms,ip))
    have ed:=jNU g t0 t1 hn
    have rm:=jJS (jC1 t wi.toNat) g.mr.ris
    refine⟨by show (0:Int)<=((allB t wi.toNat).length:Int); omega,by show ((allB t wi.toNat).length:Int)<=16; omega,rm,?_,fun pc hp=>?_⟩
    ·show (((pick (allB t wi.toNat) ip (upto ip.length)).length:Nat):Int)<=32
     unfold pick
     rw[ag,yC]
     exact gpl
    ·obtain⟨k,hk,rfl⟩:=bc.mp (show pc∈(upto ip.length).map fun k=>(nmd (allB t wi.toNat) (yT ip k),(ip.getD k.toNat ([],0)).2) from hp)
     have hb2:=mem_upto.mp hk
     have gp:=g.at (k:=k.toNat) (by omega)
     have hmem:ip.getD k.toNat ([],0)∈ip:=by
      rw[aE,az (show k.toNat<ip.length by omega)]
      exact bK _
     have rr:=jJS (jC1 t wi.toNat) gp.lot.ris
     refine⟨⟨rr.ris,rr.bnd,?_⟩,gp.lo,gp.hi⟩
     show nmd (allB t wi.toNat) (ip.getD k.toNat ([],0)).1≠ []
     rw[jFJ g gp.lot.ris gp.lot.bnd,fm.mpr fun z hz=>by rw[aw fun (e:z=t)=>hn _ hmem (e ▸ hz)]; rfl]
     exact fun e=>gp.lot.ne (fq.mp e)
 | tkp o=>
  by_cases hb:lotB (ip.length:Int) (.tup [o])=false
  ·rw[show refW (wi,ms,ip) hs (.tkp o)=some "no piece" from aB hb] at hw; cases hw
  ·obtain⟨t,rfl,t0,t1⟩:=jA6 hb
   obtain⟨k,rfl⟩:∃ k:Nat,t=(k:Int):=⟨t.toNat,by omega⟩
   show qD (lsp (k:Int) (wi,ms,ip))
   rw[jNV g (by omega)]
   refine⟨w0,w1,g.mr,by show (((ip.take k++ip.drop (k+1)).length:Nat):Int)<=32; rw[aD,bJ,cr]; omega,fun pc hp=>?_⟩
   rcases bq.mp hp with y | y
   ·exact g.pg pc (List.mem_of_mem_take y)
   ·exact g.pg pc (gI y)
 | und=>
  by_cases hb:hs=[]
  ·rw[show refW (wi,ms,ip) hs .und=some "no deed" from aB hb] at hw; cases hw
  ·show qD (hs.getLastD (wi,ms,ip))
   rw[bW,gf hb]
   exact gh _ (List.getLast_mem hb)
theorem jJ5 {x:Bx}{hs:List Bx}{d:Dd}(h:d≠ .und):refW x hs d=refW x [] d:=by
 cases d <;> first | rfl | exact absurd rfl h
theorem jPQ {x:Bx}{hs:List Bx}{d:Dd}(h:d≠ .und):newB x hs d=((newB x [] d).1,hs++[x]):=by
 cases d <;> first | rfl | exact absurd rfl h
theorem jLD (x:Bx)(d:Dd):dep (tellT x d)<=4/\wid (tellT x d)<=1000000:=by
 cases d <;> exact⟨by show (0:Nat)<=4; decide,by show (0:Nat)<=1000000; decide⟩
structure OneG (C sh l kk:Addr)(x:Bx)(hs ys:List Bx)(H:Hp):Prop where
 s:ShopAt C H sh l x hs
 k:∃ us,H kk=some (.lst us)/\All2 (BxAt H) us ys
section
variable {kk:Addr}{ys:List Bx}
theorem OneG.keep (t:OneG C sh l kk x hs ys H)(k1:∀ c o,H c=some o->c=sh\/c=l\/c=kk->H' c=some o)(tu:Tups H H'):OneG C sh l kk x hs ys H':=
 ⟨t.s.keep (fun o h=>k1 _ _ h (.inl rfl)) (fun o h=>k1 _ _ h (.inr (.inl rfl))) tu,by
  obtain⟨us,h,r⟩:=t.k
  exact⟨us,k1 _ _ h (.inr (.inr rfl)),All2.imp (fun _ _=>BxAt.mono tu) r⟩⟩
theorem OneG.ext (t:OneG C sh l kk x hs ys H)(e:Ext H H'):OneG C sh l kk x hs ys H':=t.keep (fun c o h _=>e c o h) e.tups
theorem OneG.pot (t:OneG C sh l kk x hs ys H){p:Addr}{vs:List V}(hp:H p=some (.lst vs))(n1:l≠p)(n2:kk≠p)(k:Keep H H' p):OneG C sh l kk x hs ys H':=by
 refine t.keep (fun c o h m=>k c o h ?_) fun c xs h=>k _ _ h fun z=>by rw[z,hp] at h; cases h
 rcases m with rfl | rfl | rfl
 ·intro z
  obtain⟨_,_,_,h1,_⟩:=t.s.ex
  rw[z,hp] at h1
  cases h1
 ·exact n1
 ·exact n2
theorem OneG.deed (t:OneG C sh l kk x hs ys H)(lk:l≠kk){tb:Addr}{xn:Bx}{hn:List Bx}{ps:Pos}{q:Str}(tab:TabOk H tb ps q)(S:ShopAt C H' sh l xn hn)(k:∀ c o,H c=some o->c≠tb->c≠sh->c≠l->H' c=some o):OneG C sh l kk xn hn ys H':=by
 obtain⟨dxi,_,usi,hi,_,hli,_⟩:=id t.s.ex
 obtain⟨us,h,r⟩:=t.k
 have tu:Tups H H':=fun c vs h=>k _ _ h (tab.ne h (by intro _ z; cases z)) (fun z=>by rw[z,hi] at h; cases h) fun z=>by rw[z,hli] at h; cases h
 exact⟨S,us,k _ _ h (tab.ne h (by intro _ z; cases z)) (fun z=>by rw[z,hi] at h; cases h) (bo lk),All2.imp (fun _ _=>BxAt.mono tu) r⟩
theorem OneG.put (t:OneG C sh l kk x hs ys H)(lk:l≠kk){us:List V}{yn:List Bx}(r:All2 (BxAt H) us yn):OneG C sh l kk x hs yn (L2.upd H kk (.lst us))/\∀ c o,H c=some o->c≠kk->(L2.upd H kk (.lst us)) c=some o:=by
 obtain⟨vs,hk,_⟩:=t.k
 have tu:Tups H (L2.upd H kk (.lst us)):=Tups.upd hk _
 have kp:∀ c o,H c=some o->c≠kk->(L2.upd H kk (.lst us)) c=some o:=fun c o h n=>by rw[jD n]; exact h
 refine⟨⟨t.s.keep (fun o h=>kp _ _ h fun z=>?_) (fun o h=>kp _ _ h lk) tu,us,jA,All2.imp (fun _ _=>BxAt.mono tu) r⟩,kp⟩
 obtain⟨_,_,_,h1,_⟩:=t.s.ex
 rw[z,hk] at h1
 cases h1
end
theorem lastB {H:Hp}{us:List V}{hs:List Bx}{x:Bx}(r:All2 (BxAt H) us (hs++[x])):∃ vs b,us=vs++[.ref b]/\All2 (BxAt H) vs hs/\BxB H b x:=by
 obtain⟨vs,u,e,r1,b,rfl,hb⟩:=jD9 r
 exact⟨vs,b,e,r1,hb⟩
theorem jHC {α β:Type}{R:α->β->Prop} :∀ {us:List α}{hs:List β}{u:α}{y:β},All2 R us hs->R u y->All2 R (us++[u]) (hs++[y])
 | [],[],_,_,_,h=>⟨h,trivial⟩
 | _::_,_::_,_,_,r,h=>⟨r.1,jHC r.2 h⟩
theorem jFZ {B:Nat} :∀ {l:List (List Int×Int)},(∀ x∈l,x.1.length<=B)->2<=B->wids (l.map pcT)<=B
 | [],_,_=>bi _
 | x::l,h,b=>by
  have wi:∀ l:List Int,wids (l.map Tr.int)=0:=fun l=>by
   induction l with
   | nil=>rfl
   | cons a l ih=>rw[be,wids,ih]; rfl
  rw[be,wids]
  have e:wid (pcT x)=max 2 (max (max x.1.length 0) (max 0 0)):=by
   unfold pcT
   rw[wid,wids,wid,ag,wi,wids,show wid (.int x.2)=0 from rfl,wids]
   rfl
  have:=h x (aJ ..)
  have:=jFZ (l:=l) (fun y hy=>h y (aI _ hy)) b
  omega
theorem jKZ {w:Int}{ms:List Int}{ip:List (List Int×Int)}(g:Good 16 32 w ms ip):wid (boxT w ms ip)<=1000000:=by
 have w1:=g.w1
 have ml:=yU g.mr.ris g.mr.bnd w1
 have pl:=g.pl
 have wi:∀ l:List Int,wids (l.map Tr.int)=0:=fun l=>by
  induction l with
  | nil=>rfl
  | cons a l ih=>rw[be,wids,ih]; rfl
 have pw:=jFZ (B:=16) (l:=ip) (fun x hx=>by have:=yU (g.pg x hx).lot.ris (g.pg x hx).lot.bnd w1; omega) (by decide)
 unfold boxT
 rw[wid,wids,show wid (.int w)=0 from rfl,wids,wid,ag,wi,wids,wid,ag,wids]
 show max 3 _<=_
 omega
section
variable {gB fC fP fE fD fS tb1:Addr}{gdB fdC fdP fdE fdD fdS:FuncData}
noncomputable abbrev nLaw:List Str:=["script","pot","shop","kept","deeds","k","deed","told","later"]
theorem scLaw:FnScope nLaw ["script"] (j9 sLaw):= {}
abbrev XLaw (P:Program)(w:World)(K:W.Frag)(mg:Str->Option Value)(base:Heap)(f:Addr)(cdv:Value)(A:Around)(outer:List Env)(s:Shared)(H:Hp)(E:XK):Cx:=XOf nLaw "law" sLaw P w K mg base f cdv A outer s H E
structure LW (P:Program)(w:World)(K:W.Frag)(mg:Str->Option Value)(base:Heap)(C fI gB fC fP fT fL fE fU fD fS tb1:Addr)(fdI gdB fdC fdP fdT fdL fdE fdU fdD fdS:FuncData):Prop where
 T:Txt mg
 KS:CanK P w K mg base "Shop" C 2 fI fdI ["self"] (jIW C)
 MB:CanM P w K mg base C "box" 2 gB gdB ["self"] (jIZ C)
 CC:Can P w K mg base "_law_cell_at" 1 fC fdC ["script","k"] (jIY K)
 CP:Can P w K mg base "_law_pot" 1 fP fdP ["cell"] spPot
 CT:Can P w K mg base "_law_take" 1 fT fdT ["pot","wide"] jBE
 CL:Can P w K mg base "_law_lot" 2 fL fdL ["pot","wide"] spLot
 CE:Can P w K mg base "_law_deed" 3 fE fdE ["pot","box","most"] jIX
 CU:Can P w K mg base "_law_shop_due" 4 fU fdU ["box","deed"] spDue
 CD:Can P w K mg base "_law_shop_told" 6 fD fdD ["shop","deed"] (jFA C tb1)
 CS:Can P w K mg base "_law_same" 6 fS fdS ["found","due"] (jCN 4)
section
variable (G:LW P w K mg base C fI gB fC fP fT fL fE fU fD fS tb1 fdI gdB fdC fdP fdT fdL fdE fdU fdD fdS)(hr:Room 6 (XLaw P w K mg base f cdv A outer s H0 E).A)
abbrev lawL:List Stmt:=jRQ ((jG sLaw).getD 6 (.Pass ⟨0,0,0,0⟩))
def lt2A: { t:TS // JSs (XLaw P w K mg base f cdv A outer s H0 E) (lawL.drop 2) t} :=
 have nd:=scLaw.nd
 ⟨_,(jC (jR (yB (jZ (G.CS.je hr gD (j4 (G.MB.je0 (hr.mono (by decide)) (jv 2 rfl vL)) (j4 (jT yH (jv 3 rfl vL) (x9 qK (jE)) px_un) j7 kT) jK) jK) jU)) (jC (jQ (qU))) jI))⟩
def lt1A: { t:TS // JSs (XLaw P w K mg base f cdv A outer s H0 E) (lawL.drop 1) t} :=
 have nd:=scLaw.nd
 ⟨_,(j8 (jR (jN op_ne (jT kR (jv 6 rfl vL) (jE) jO) (jP) (jL _)) (j8 (jER (G.CU.je (hr.mono (by decide)) gD (j4 (jT yH (jv 3 rfl vL) (x9 qK (jE)) px_un) (j4 (jv 6 rfl vL) j7 j6) kT) kT) (jKB (i:=7) (j:=8) nd rfl rfl (by decide+kernel) (by decide+kernel)))
   (j8 (jR (yB (jZ (G.CS.je hr gD (j4 (G.CD.je hr gD (j4 (jv 2 rfl vL) (j4 (jv 6 rfl vL) j7 j6) j6) j6) (j4 (jv 7 rfl vL) j7 j6) jK) jK) jU)) (jC (jQ (qU))) jI)
   (jC (jR (yB (jZ (jH jX gD G.T.isinstance (by decide+kernel) (j4 (jv 7 rfl vL) (j4 (yF (v:= .ty "str") gD G.T.str (by decide+kernel) rfl) j7 j6) j6) j6) jU)) (jC (yN (je_bm bg cJ cK jAS (jv 3 rfl vL) (j4 (jv 8 rfl vL) j7 j6) j6) kI)) jI)))) jI) (lt2A G hr).2)⟩
def lt0A: { t:TS // JSs (XLaw P w K mg base f cdv A outer s H0 E) lawL t} :=
 have nd:=scLaw.nd
 ⟨_,(j8 (jR (jN jJG (jv 6 rfl vL) (y6) (jL _)) (j8 (kP (i:=1) nd rfl loc_c (G.CP.je (hr.mono (by decide)) gD (j4 (G.CC.je (hr.mono (by decide)) gD (j4 (jv 0 rfl vL) (j4 (yL qG (jH jJ gD G.T.len (by decide+kernel) (j4 (jv 4 rfl vL) j7 j6) j6) (jv 5 rfl vL)) j7 kZ) j6) j6) j7 jK) jK) kI)
   (j8 (kP (i:=6) nd rfl lL (G.CE.je (hr.mono (by decide)) gD (j4 (jv 1 rfl vC) (j4 (jT yH (jv 3 rfl vL) (x9 qK (jE)) px_un) (j4 (jE) j7 jB) kT) j6) j6) kI)
   (jC (jR (jN yA (G.CT.je (hr.mono (by decide)) gD (j4 (jv 1 rfl vC) (j4 (jE) j7 jB) j6) j6) (jE) (jL _)) (jC (kP (i:=6) nd rfl lL (jT yH (kN (j4 (jM (j4 (jP) (j4 (qU) (j4 (y6) j7 jB) jB) jB)) (j4 (jM (j4 (jP) (j4 (jM (j4 (jE) j7 jB)) (j4 (jE) j7 jB) jS) jB)) (j4 (jM (j4 (jP) (j4 (y6) (j4 (y6) j7 jB) jB) jB)) j7 jS) jS) jS)) (G.CT.je (hr.mono (by decide)) gD (j4 (jv 1 rfl vC) (j4 (jE) j7 jB) j6) j6) jB8) qF)) jI)))) jI) (lt1A G hr).2)⟩
def lwhA: { t:TS // JSs (XLaw P w K mg base f cdv A outer s H0 E) ((jG sLaw).drop 7) t} :=
 have nd:=scLaw.nd
 ⟨_,(j8 (jMD dO (jN op_gt (jH jJ gD G.T.len (by decide+kernel) (j4 (jv 3 rfl vL) j7 j6) j6) (jE) (jL _)) (j8 (yN (jO0 bg gG gH jNT (jv 3 rfl vL)) kI)
   (jC (jR (jt_w (xD (jN jP9 (G.CD.je hr gD (j4 (jv 2 rfl vL) (j4 (jM (j4 (jP) (j4 (y6) (j4 (y6) j7 jB) jB) jB)) j7 jS) j6) j6) (y6) (jL _)) (qS (yB (jZ (G.CS.je hr gD (j4 (G.MB.je0 (hr.mono (by decide)) (jv 2 rfl vL)) (j4 (jT yH (jv 3 rfl vL) (x9 qK (jE)) px_un) j7 kT) jK) jK) jU))))) (jC (jQ (qU))) jI))))
   (jC (jQ (y0 yA (G.CD.je hr gD (j4 (jv 2 rfl vL) (j4 (jM (j4 (jP) (j4 (y6) (j4 (y6) j7 jB) jB) jB)) j7 jS) j6) j6) (jP) (jL _)))))⟩
def lf6A: { t:TS // JSs (XLaw P w K mg base f cdv A outer s H0 E) ((jG sLaw).drop 6) t} :=
 have nd:=scLaw.nd
 ⟨_,(j8 (jK8 dO rfl (jKA gD G.T.enumerate (j4 (jv 4 rfl vL) j7 j6) j6) (jMF (i:=5) (j:=6) nd rfl rfl (by decide+kernel) (by decide+kernel)) (lt0A G hr).2 qC) (lwhA G hr).2)⟩
def lapA: { t:TS // JSs (XLaw P w K mg base f cdv A outer s H0 E) ((jG sLaw).drop 4) t} :=
 have nd:=scLaw.nd
 ⟨_,(j8 (jK8 dO rfl (jAH gD G.T.range (j4 (yL yW (jE) (G.CT.je (hr.mono (by decide)) gD (j4 (jv 1 rfl vC) (j4 (jE) j7 jB) j6) j6)) j7 kZ) kZ) (kB (i:=5) nd rfl lL) (jC (yN (je_bm bg cJ cK jAS (jv 4 rfl vL) (j4 (jM (j4 (jP) (j4 (G.CL.je (hr.mono (by decide)) gD (j4 (jv 1 rfl vC) (j4 (jE) j7 jB) j6) j6) (j4 (jv 5 rfl vL) j7 j6) jK) jB)) j7 jS) jS) kI)) qC) (j8 (jK8 dO rfl (jAH gD G.T.range (j4 (jH (jKY rfl) gD G.T.max (by decide+kernel) (j4 (jE) (j4 (jH (jKX rfl) gD G.T.min (by decide+kernel) (j4 (jH jJ gD G.T.len (by decide+kernel) (j4 (jv 0 rfl vL) j7 j6) j6) (j4 (jE) j7 jB) jK) jK) j7 jK) jB) jB) j7 jK) jK) (kB (i:=5) nd rfl lL) (jC (yN (je_bm bg cJ cK jAS (jv 4 rfl vL) (j4 (y6) j7 jB) jB) kI)) qC) (lf6A G hr).2))⟩
def lawA: { t:TS // JSs (XLaw P w K mg base f cdv A outer s H0 E) (jG sLaw) t} :=
 have nd:=scLaw.nd
 ⟨_,(j8 (kP (i:=1) nd rfl loc_c (G.CP.je (hr.mono (by decide)) gD (j4 (G.CC.je (hr.mono (by decide)) gD (j4 (jv 0 rfl vL) (j4 (jE) j7 jB) j6) j6) j7 jK) jK) kI) (j8 (kP (i:=2) nd rfl lL (G.KS.je0 (hr.mono (by decide)) gD) kI) (j8 (kP (i:=3) nd rfl lL (kN (j4 (jM (j4 (jE) (j4 (jM j7) (j4 (jM j7) j7 jS) jS) jB)) j7 jS)) jG2) (j8 (jPT (i:=4) nd rfl lL ⟨by rfl⟩ (m:=[none,some 1]) (Nc:=["k","pot"]) rfl (jAH gD G.T.range (j4 (yL yW (jE) (G.CT.je (hr.mono (by decide)) gD (j4 (jv 1 rfl vC) (j4 (jE) j7 jB) j6) j6)) j7 kZ) kZ) rfl (by decide+kernel) (by decide+kernel) (kW (psc:=j9 sLaw)) (jW (N:=nLaw) rfl rfl (by decide+kernel)) (fun cl C fp s H=>kB (i:=0) (show (["k","pot"]:List Str).Nodup by decide+kernel) rfl qO) (fun cl C fp s H=>yV) (fun cl C fp s H=>(jM (j4 (jP) (j4 (y0 op_gt (G.CT.je (hr.mono (by decide)) gl_b (j4 (jv 1 rfl yI) (j4 (jE) j7 jB) j6) j6) (jE) (jL _)) (j4 (y6) j7 jB) jGE) jB))) qC) (lapA G hr).2))))⟩
theorem jIM {D:Ends}{H:Hp}{sh l kk:Addr}{x:Bx}{hs ys:List Bx}{v0 v1 v4 v5 v6 v7 v8:Option V}(t:OneG C sh l kk x hs ys H)(ey:∃ zs,ys=zs++[x])(g:qD x)
  (nx:∀ H',Ext H H'->D.nx [v0,v1,some (.ref sh),some (.ref kk),v4,v5,v6,v7,v8] H'):
  (lt2A G hr).1 D [v0,v1,some (.ref sh),some (.ref kk),v4,v5,v6,v7,v8] H:=by
 obtain⟨dx,b,us,h1,h2,_⟩:=id t.s.ex
 obtain⟨us2,hk,r⟩:=t.k
 obtain⟨zs,rfl⟩:=ey
 obtain⟨vs,b2,rfl,_,hb2⟩:=lastB r
 refine⟨_,rfl,sh,dx,_,rfl,h1,rfl,sh,dx,b,l,rfl,h1,?_⟩
 refine⟨_,rfl,_,rfl,kk,_, -1,_,rfl,rfl,SqL.of hk,jCG _ _,?_⟩
 exact⟨_,_,boxT x.1 x.2.1 x.2.2,rfl,box_T h2,box_T hb2,jL0 _ _ _,jKZ g,fun H1 e1=>⟨_,rfl,iteF (nx H1 e1)⟩⟩
theorem jDN {H H':Hp}{tb p:Addr}{xs:List V}(t:TabP H tb)(hp:H p=some (.lst xs))(k:∀ c o,H c=some o->c≠p->H' c=some o):TabP H' tb:=by
 rcases t with h | ⟨c,h,h2⟩
 ·exact .inl (k _ _ h fun z=>by rw[z,hp] at h; cases h)
 ·exact .inr ⟨c,k _ _ h (fun z=>by rw[z,hp] at h; cases h),k _ _ h2 fun z=>by rw[z,hp] at h2; cases h2⟩
def StO (C sh l kk tb1:Addr)(n:Nat)(H:Hp):Prop:=∃ x hs,OneG C sh l kk x hs (hs++[x]) H/\qD x/\(∀ y∈hs,qD y)/\hs.length=n/\TabP H tb1
theorem jN8 {x:Bx} :refW x [] .und=some ("no deed" :Str):=rfl
theorem und_end {x:Bx}{hs:List Bx}{z:Bx} :refW x (hs++[z]) .und=none/\newB x (hs++[z]) .und=(z,hs):=by
 refine⟨av (by intro h; cases hs <;> cases h),?_⟩
 show ((hs++[z]).getLastD x,(hs++[z]).dropLast)=_
 rw[fe,List.getLastD_concat]
theorem jOA {D:Ends}{H:Hp}{sh l kk:Addr}{n:Nat}{v0 v1 v4 v5 v6 v7 v8:Option V}(lk:l≠kk)(n100:n<=100)(st:StO C sh l kk tb1 n H)(nx:∀ H',D.rt (.bl true) H'):
  (lwhA G hr).1 D [v0,v1,some (.ref sh),some (.ref kk),v4,v5,v6,v7,v8] H:=by
 refine⟨fun m σ H=>m<=100/\σ=[v0,v1,some (.ref sh),some (.ref kk),v4,v5,v6,v7,v8]/\StO C sh l kk tb1 m H,⟨n,n100,rfl,st⟩,?_⟩
 rintro m σ H1 ⟨m100,rfl,x,hs,t,g,gh,hl,tab⟩
 obtain⟨us,hk,r⟩:=id t.k
 have ul:us.length=m+1:=by
  rw[All2.len r,aD,hl]
  rfl
 refine⟨_,rfl,kk,us,rfl, .inl (SqL.of hk),_,_,rfl,rfl,_,rfl,?_⟩
 by_cases h0:hs=[]
 ·subst h0
  have m0:m=0:=hl.symm
  subst m0
  rw[aw (show ¬ ((us.length:Nat):Int)>1 by rw[ul]; decide)]
  refine iteF ?_
  refine⟨_,rfl,by show (3:Nat)<=_; decide,fun q H2 d2 e2=>⟨sh,l, .ref q, .und,x,[],rfl,t.s.ext e2,g,by decide,⟨q, .non, .non,rfl,d2,trivial⟩,tab.ext e2,fun r hw H3 e3=>?_,fun hw=>?_⟩⟩
  ·rw[jN8] at hw
   cases hw
   exact⟨rfl,nx H3⟩
  ·rw[jN8] at hw
   cases hw
 ·obtain⟨zs,z,rfl⟩:∃ zs z,hs=zs++[z]:=⟨_,_,(fg h0).symm⟩
  have ml:m=zs.length+1:=by rw[<- hl,aD]; rfl
  rw[aj (show ((us.length:Nat):Int)>1 by rw[ul]; omega)]
  refine iteT ⟨fun σ' H'=>σ'=[v0,v1,some (.ref sh),some (.ref kk),v4,v5,v6,v7,v8]/\StO C sh l kk tb1 zs.length H',fun σ' H' ⟨a,b⟩=>⟨zs.length,by omega,by omega,a,b⟩,?_⟩
  obtain⟨vs,b2,rfl,r1,_⟩:=lastB r
  have hg:(vs++[V.ref b2])[(vs++[V.ref b2]).length - 1]?=some (.ref b2):=by
   rw[aD,bX,ie,bt (aq _),ij]
   rfl
  refine⟨_,rfl, .inl ⟨rfl,_,SqL.of hk⟩,kk,_,_,rfl,rfl,hk,hg,?_⟩
  rw[fe]
  obtain⟨t2,k2⟩:=t.put lk r1
  have tab2:TabP (L2.upd H1 kk (.lst vs)) tb1:=jDN tab hk k2
  refine⟨_,rfl,by show (3:Nat)<=_; decide,fun q H3 d3 e3=>⟨sh,l, .ref q, .und,x,zs++[z],rfl,t2.s.ext e3,g,by rw[aD]; show _+1<=_; omega,⟨q, .non, .non,rfl,d3,trivial⟩,tab2.ext e3,fun r hw=>?_,fun hw u H4 hu S4 tab4 k4=>?_⟩⟩
  ·rw[und_end.1] at hw
   cases hw
  ·obtain rfl:=hu
   rw[und_end.2] at S4
   have t4:OneG C sh l kk z zs (zs++[z]) H4:=(t2.ext e3).deed lk (tab2.ext e3) S4 k4
   have gz:qD z:=gh z (bh _ (aG.mpr rfl))
   have gh':∀ y∈zs,qD y:=fun y hy=>gh y (eU _ hy)
   refine⟨rfl,_,rfl,iteF ?_⟩
   obtain⟨dx,b,us,h1,h2,_⟩:=id t4.s.ex
   obtain⟨us2,hk2,r2⟩:=t4.k
   obtain⟨vs2,b3,rfl,_,hb2⟩:=lastB r2
   refine⟨_,rfl,sh,dx,_,rfl,h1,rfl,sh,dx,b,l,rfl,h1,_,rfl,_,rfl,kk,_, -1,_,rfl,rfl,SqL.of hk2,jCG _ _,?_⟩
   exact⟨_,_,boxT z.1 z.2.1 z.2.2,rfl,box_T h2,box_T hb2,jL0 _ _ _,jKZ gz,fun H5 e5=>⟨_,rfl,iteF ⟨rfl,z,zs,t4.ext e5,gz,gh',rfl,tab4.ext e5⟩⟩⟩
def FrO (tb sh l kk:Addr)(H H':Hp):Prop:=∀ c o,H c=some o->c≠tb->c≠sh->c≠l->c≠kk->H' c=some o
theorem FrO.trans {tb sh l kk:Addr}{H H' H'':Hp}(e:FrO tb sh l kk H H')(e':FrO tb sh l kk H' H''):FrO tb sh l kk H H'':=fun c o h n1 n2 n3 n4=>e' c o (e c o h n1 n2 n3 n4) n1 n2 n3 n4
theorem FrO.ext {tb sh l kk:Addr}{H H':Hp}(e:Ext H H'):FrO tb sh l kk H H':=fun c o h _ _ _ _=>e c o h
theorem jH8 {H H':Hp}(tu:Ext H H'){d:Dd}{v1 v2:V}(h:ddV H d v1 v2):ddV H' d v1 v2:=by
 cases d with
 | thg m=>exact h
 | pce o1 o2=>exact⟨h.1.ext tu,h.2.ext tu⟩
 | und=>trivial
 | _=>exact At.ext tu h
theorem dd_ne {d:Dd}(h:d≠ .und):ddW d≠ "undo" :=by
 intro z
 cases d
 case und=>exact h rfl
 all_goals exact absurd z (by show ¬ (Str.ofString _=Str.ofString _); decide)
theorem jOB {H H':Hp}{x:Bx}{d:Dd}{u:V}(h:TAt H (tellT x d) u):TAt H' (tellT x d) u:=by
 cases d <;> exact h
theorem jOD {D:Ends}{H:Hp}{sh l kk qd:Addr}{n:Nat}{x:Bx}{hs:List Bx}{d:Dd}{w1 w2:V}{v0 v1 v4 v5 v7 v8:Option V}(lk:l≠kk)(n100:n<=100)(t:OneG C sh l kk x hs (hs++[x]) H)(g:qD x)(gh:∀ y∈hs,qD y)(hl:hs.length<=n)(tab:TabP H tb1)(dd:H qd=some (.tup [.str (ddW d),w1,w2]))(dv:ddV H d w1 w2)
  (nx:∀ H' v7 v8,(∃ m,m<=n+1/\StO C sh l kk tb1 m H')->FrO tb1 sh l kk H H'->D.nx [v0,v1,some (.ref sh),some (.ref kk),v4,v5,some (.ref qd),v7,v8] H'):
  (lt1A G hr).1 D [v0,v1,some (.ref sh),some (.ref kk),v4,v5,some (.ref qd),v7,v8] H:=by
 have same:∀ {H' v7 v8},Ext H H'->(lt2A G hr).1 D [v0,v1,some (.ref sh),some (.ref kk),v4,v5,some (.ref qd),v7,v8] H':=fun {H' v7 v8} e=>jIM G hr (t.ext e) ⟨hs,rfl⟩ g fun H2 e2=>nx H2 _ _ ⟨hs.length,by omega,x,hs,(t.ext e).ext e2,g,gh,rfl,(tab.ext e).ext e2⟩ (FrO.ext (e.trans e2))
 obtain⟨us,hk,r⟩:=id t.k
 obtain⟨vs,b,rfl,r2,hb⟩:=lastB r
 refine⟨_,rfl,qd,_,0,_,rfl,rfl,SqT.of dd,rfl,rfl,?_⟩
 by_cases h:d= .und
 ·subst h
  exact⟨_,rfl,iteF (same (Ext.refl _))⟩
 ·rw[neS (dd_ne h)]
  refine⟨_,rfl,iteT ⟨_,rfl,_,rfl,kk,_, -1,_,rfl,rfl,SqL.of hk,jCG _ _,_,rfl,b, .ref qd,d,x,rfl,hb,g,⟨qd,w1,w2,rfl,dd,dv⟩,h,fun r hw l4 H4 d4 e4=>?_,fun hw l4 u4 b4 H4 d4 hu hb4 e4=>?_⟩⟩
  ·refine⟨l4,_,rfl,SqL.of d4,rfl,_,_,rfl,_,_,rfl,rfl,?_⟩
   have hw':refW x hs d=some r:=by rw[jJ5 h]; exact hw
   refine⟨_,rfl,_,rfl,sh,l, .ref qd,d,x,hs,rfl,t.s.ext e4,g,by omega,⟨qd,w1,w2,rfl,e4 _ _ dd,jH8 e4 dv⟩,tab.ext e4,fun r' hr' H5 e5=>?_,fun hn=>by rw[hw'] at hn; cases hn⟩
   rw[hw'] at hr'
   cases hr'
   refine⟨_,rfl,_,_, .str r,rfl,rfl,rfl,bi _,bi _,fun H6 e6=>⟨_,rfl,iteF ?_⟩⟩
   exact⟨_,rfl,_,"str",_,true,rfl, .str _,rfl,_,rfl,iteF (same ((e4.trans e5).trans e6))⟩
  ·refine⟨l4,_,rfl,SqL.of d4,rfl,_,_,rfl,_,_,rfl,rfl,?_⟩
   have hw':refW x hs d=none:=by rw[jJ5 h]; exact hw
   have t4:=t.ext e4
   have tab4:=tab.ext e4
   refine⟨_,rfl,_,rfl,sh,l, .ref qd,d,x,hs,rfl,t4.s,g,by omega,⟨qd,w1,w2,rfl,e4 _ _ dd,jH8 e4 dv⟩,tab4,fun r' hr'=>(by rw[hw'] at hr'; cases hr'),fun hn u5 H5 hu5 S5 tab5 k5=>?_⟩
   have gn:=jMN g gh hw'
   have en:=jPQ (x:=x) (hs:=hs) h
   rw[en] at S5 gn
   have t5:=t4.deed lk tab4 S5 k5
   obtain⟨dxi,_,usi,hi,_,hli,_⟩:=id t4.s.ex
   have tu5:Tups H4 H5:=fun c vs h=>k5 _ _ h (tab4.ne h (by intro _ z; cases z)) (fun z=>by rw[z,hi] at h; cases h) fun z=>by rw[z,hli] at h; cases h
   have dw:=jLD x d
   refine⟨_,rfl,_,_,tellT x d,rfl,hu5,jOB hu,dw.1,dw.2,fun H6 e6=>⟨_,rfl,iteF ?_⟩⟩
   have t6:=t5.ext e6
   have tab6:=tab5.ext e6
   obtain⟨us6,hk6,r6⟩:=id t6.k
   have b6:BxB H6 b4 (newB x [] d).1:=(hb4.mono tu5).mono e6.tups
   obtain⟨t7,k7⟩:=t6.put lk (jHC r6 ⟨b4,rfl,b6⟩)
   have tab7:=jDN tab6 hk6 k7
   have ul:us6.length<sizeLine:=by
    have:=All2.len r6
    rw[aD,bX] at this
    unfold sizeLine
    omega
   have ty:∃ T,TyOf (XLaw P w K mg base f cdv A outer s H0 E).K H6 u4 (.type T)/\kitOne (XLaw P w K mg base f cdv A outer s H0 E).K (.type T) (.type "str")=some false:=by
    cases d with
    | thg m=>obtain rfl:=hu; exact⟨_, .int _,rfl⟩
    | pce o1 o2=>obtain rfl:=hu; exact⟨_, .int _,rfl⟩
    | _=>obtain rfl:=hu; exact⟨_, .non,rfl⟩
   obtain⟨T,ty1,ty2⟩:=ty
   refine⟨_,rfl,_,"str",_,false,rfl,ty1,ty2,_,rfl,iteT ⟨_,rfl, .inl ⟨rfl,_,SqL.of hk6⟩,_,rfl,kk,us6,_,rfl,rfl,hk6,ul,?_⟩⟩
   refine jIM G hr t7 ⟨_,rfl⟩ gn fun H8 e8=>nx H8 _ _ ⟨hs.length+1,by omega,_,hs++[x],t7.ext e8,gn,?_,by rw[aD]; rfl,tab7.ext e8⟩ ?_
   ·intro y hy
    rcases bq.mp hy with hy | hy
    ·exact gh y hy
    ·rw[aG.mp hy]
     exact g
   ·exact fun c o hc n1 n2 n3 n4=>e8 _ _ (k7 _ _ (e6 _ _ (k5 _ _ (e4 _ _ hc) n1 n2 n3)) n4)
theorem DdAt.mono {H H':Hp}(k:Kp H H'){v:V}{d:Dd}(h:DdAt H v d):DdAt H' v d:=by
 obtain⟨q,w1,w2,rfl,dd,dv⟩:=h
 refine⟨q,w1,w2,rfl,k.t _ _ dd,?_⟩
 cases d with
 | thg m=>exact dv
 | pce o1 o2=>exact⟨dv.1.mono k,dv.2.mono k⟩
 | und=>trivial
 | _=>exact At.mono k _ _ dv
theorem jOE {D:Ends}{H:Hp}{sh l kk sc dl:Addr}{n:Nat}{x:Bx}{hs:List Bx}{ns:List Int}{ds:List V}{k:Int}{v:V}{v1 v7 v8:Option V}(lk:l≠kk)(n100:n<=100)(t:OneG C sh l kk x hs (hs++[x]) H)(g:qD x)(gh:∀ y∈hs,qD y)(hl:hs.length<=n)(tab:TabP H tb1)(hS:SqL K H sc (ns.map V.int))(hd:H dl=some (.lst ds))(k1:k<=ds.length)(dv:v= .non\/∃ d,DdAt H v d)
  (nx:∀ H' v1 v6 v7 v8,(∃ m,m<=n+1/\StO C sh l kk tb1 m H')->FrO tb1 sh l kk H H'->D.nx [some (.ref sc),v1,some (.ref sh),some (.ref kk),some (.ref dl),some (.int k),v6,v7,v8] H'):
  (lt0A G hr).1 D [some (.ref sc),v1,some (.ref sh),some (.ref kk),some (.ref dl),some (.int k),some v,v7,v8] H:=by
 have go:∀ {H' v1 v7 v8 u d},Ext H H'->DdAt H' u d->(lt1A G hr).1 D [some (.ref sc),v1,some (.ref sh),some (.ref kk),some (.ref dl),some (.int k),some u,v7,v8] H':=fun {H' v1 v7 v8 u d} e h=>by
  obtain⟨qd,w1,w2,rfl,dd,dv⟩:=h
  exact jOD G hr lk n100 (t.ext e) g gh hl (tab.ext e) dd dv fun H2 v7 v8 st f=>nx H2 _ _ _ _ st ((FrO.ext e).trans f)
 rcases dv with rfl | ⟨d,dA⟩
 ·refine⟨_,rfl,rfl,_,rfl,iteT ?_⟩
  refine⟨_,rfl,_,rfl,dl,_,rfl, .inl (SqL.of hd),_,rfl,_,_,rfl,rfl,sc,ns,_,rfl,hS,by omega,fun c=>⟨c,rfl,fun p N hp hN=>?_⟩⟩
  have e1:Ext H (L2.upd H p (.lst [.int N])):=fun c o h=>by rw[jD (jF h hp)]; exact h
  have p1:(L2.upd H p (.lst [.int N])) p=some (.lst [.int N]):=jA
  generalize L2.upd H p (.lst [.int N])=H1 at e1 p1
  have t1:=t.ext e1
  obtain⟨us,hk,r1⟩:=id t1.k
  obtain⟨vs,b,rfl,r2,hb⟩:=lastB r1
  refine⟨_,rfl,_,rfl,_,rfl,kk,_, -1,_,rfl,rfl,SqL.of hk,jCG _ _,p,b,N,17,x,rfl,p1,hN,hb,g,fun v d N2 H2 dA p2 n2 kp=>?_⟩
  have e2:Ext H H2:=fun c o h=>kp _ _ (e1 _ _ h) (jF h hp)
  refine⟨_,rfl,p,N2,3,rfl,p2,n2,by decide,by decide,fun N3 r a1 a2 a3=>?_⟩
  have e3:Ext H (L2.upd H2 p (.lst [.int N3])):=fun c o h=>by rw[jD (jF h hp)]; exact e2 _ _ h
  have dA3:DdAt (L2.upd H2 p (.lst [.int N3])) v d:=dA.mono (Kp.keep (fun c o h n=>by rw[jD n]; exact h) p2 jA)
  have p3:(L2.upd H2 p (.lst [.int N3])) p=some (.lst [.int N3]):=jA
  generalize L2.upd H2 p (.lst [.int N3])=H3 at e3 p3 dA3
  refine⟨rfl,_,rfl,?_⟩
  refine ite2 (fun h=>?_) (fun h=>go e3 dA3)
  refine⟨by show (3:Nat)<=_; decide,fun q1 H4 d4 e4=>⟨by show (1:Nat)<=_; decide,fun q2 H5 d5 e5=>⟨by show (3:Nat)<=_; decide,fun q3 H6 d6 e6=>⟨by show (3:Nat)<=_; decide,fun q4 H7 d7 e7=>⟨by show (3:Nat)<=_; decide,fun ql H8 d8 e8 n8=>?_⟩⟩⟩⟩⟩
  have e38:Ext H3 H8:=(((e4.trans e5).trans e6).trans e7).trans e8
  have p8:=e38 _ _ p3
  refine⟨_,rfl,p,N3,3,rfl,p8,a1,by decide,by decide,fun N4 r2 b1 b2 b3=>?_⟩
  have e9:Ext H (L2.upd H8 p (.lst [.int N4])):=fun c o h=>by rw[jD (jF h hp)]; exact e38 _ _ (e3 _ _ h)
  have k9:∀ {c o},H8 c=some o->c≠p->(L2.upd H8 p (.lst [.int N4])) c=some o:=fun h n=>by rw[jD n]; exact h
  have tn:∀ {c xs},H8 c=some (.tup xs)->c≠p:=fun h z=>by rw[z,p8] at h; cases h
  have lp:ql≠p:=fun z=>by rw[z,((e4.trans e5).trans (e6.trans e7)) _ _ p3] at n8; cases n8
  have d4':=k9 ((((e5.trans e6).trans e7).trans e8) _ _ d4) (tn ((((e5.trans e6).trans e7).trans e8) _ _ d4))
  have d5':=k9 (((e6.trans e7).trans e8) _ _ d5) (tn (((e6.trans e7).trans e8) _ _ d5))
  have d6':=k9 ((e7.trans e8) _ _ d6) (tn ((e7.trans e8) _ _ d6))
  have d7':=k9 (e8 _ _ d7) (tn (e8 _ _ d7))
  have d8':=k9 d8 lp
  generalize L2.upd H8 p (.lst [.int N4])=H9 at e9 d4' d5' d6' d7' d8'
  clear k9 tn
  have r3:r2=0\/r2=1\/r2=2:=by omega
  rcases r3 with rfl | rfl | rfl
  ·refine⟨ql,_,0,_,rfl,rfl,SqL.of d8',rfl,?_⟩
   exact go (d:= .thg true) e9 ⟨q1,_,_,rfl,d4',rfl⟩
  ·refine⟨ql,_,1,_,rfl,rfl,SqL.of d8',rfl,?_⟩
   exact go (d:= .pce (.tup [.int 0]) (.int 0)) e9 ⟨q3,_,_,rfl,d6',⟨q2,_,rfl,d5',by decide,_,_,rfl,rfl,rfl⟩,rfl⟩
  ·refine⟨ql,_,2,_,rfl,rfl,SqL.of d8',rfl,?_⟩
   exact go (d:= .pce .oth .oth) e9 ⟨q4,_,_,rfl,d7', .inl rfl, .inl rfl⟩
 ·obtain⟨q,w1,w2,rfl,d2⟩:=id dA
  exact⟨_,rfl,rfl,_,rfl,iteF (go (Ext.refl _) dA)⟩
def DdL (H:Hp)(v:V):Prop:=v= .non\/∃ q w1 w2,v= .ref q/\((∃ m,w1=V.bl m/\H q=some (.tup [.str "thing",w1,w2]))\/∃ (a:Addr) (ls:List Int) (k:Int),w1= .ref a/\w2= .int k/\H q=some (.tup [.str "piece",w1,w2])/\H a=some (.tup (ls.map V.int))/\ls.length<=100)
theorem DdL.mono {H H':Hp}(tu:Tups H H'){v:V}(h:DdL H v):DdL H' v:=by
 rcases h with rfl | ⟨q,w1,w2,rfl,⟨m,e,h⟩ | ⟨a,ls,k,e1,e2,h1,h2,h3⟩⟩
 ·exact .inl rfl
 ·exact .inr ⟨q,w1,w2,rfl, .inl ⟨m,e,tu _ _ h⟩⟩
 ·exact .inr ⟨q,w1,w2,rfl, .inr ⟨a,ls,k,e1,e2,tu _ _ h1,tu _ _ h2,h3⟩⟩
theorem jHB {H:Hp} :∀ ls:List Int,Ats H (ls.map Ob.int) (ls.map V.int)
 | []=>rfl
 | x::ls=>⟨_,_,rfl,rfl,jHB ls⟩
theorem DdL.dd {H:Hp}{v:V}(h:DdL H v):v= .non\/∃ d,DdAt H v d:=by
 rcases h with rfl | ⟨q,w1,w2,rfl,⟨m,e,h⟩ | ⟨a,ls,k,e1,e2,h1,h2,h3⟩⟩
 ·exact .inl rfl
 ·exact .inr ⟨.thg m,q,w1,w2,rfl,h,e⟩
 ·subst e1 e2
  exact .inr ⟨.pce (.tup (ls.map Ob.int)) (.int k),q,_,_,rfl,h1,⟨a,_,rfl,h2,by rw[ag]; exact h3,jHB ls⟩,rfl⟩
theorem FrO.tups {sh l kk:Addr}{x:Bx}{hs ys:List Bx}{H H':Hp}(t:OneG C sh l kk x hs ys H)(tab:TabP H tb1)(f:FrO tb1 sh l kk H H'):Tups H H':=by
 obtain⟨_,_,_,h1,_,h3,_⟩:=id t.s.ex
 obtain⟨_,h4,_⟩:=t.k
 exact fun c vs h=>f _ _ h (tab.ne h (by intro _ z; cases z)) (fun z=>by rw[z,h1] at h; cases h) (fun z=>by rw[z,h3] at h; cases h) fun z=>by rw[z,h4] at h; cases h
theorem jQ1 {D:Ends}{H:Hp}{sh l kk sc dl:Addr}{ns:List Int}{ds:List V}{v1 v5 v6 v7 v8:Option V}(lk:l≠kk)(t:OneG C sh l kk (0,[],[]) [] ([]++[(0,[],[])]) H)(g0:qD (0,[],[]))(tab:TabP H tb1)(hS:∀ {H'},FrO tb1 sh l kk H H'->SqL K H' sc (ns.map V.int))(hd:H dl=some (.lst ds))(dn:ds.length<=100)(n1:dl≠l)(n2:dl≠kk)(hds:∀ v∈ds,DdL H v)(nx:∀ H',D.rt (.bl true) H'):
  (lf6A G hr).1 D [some (.ref sc),v1,some (.ref sh),some (.ref kk),some (.ref dl),v5,v6,v7,v8] H:=by
 have hdl:∀ {H'},FrO tb1 sh l kk H H'->H' dl=some (.lst ds):=fun f=>f _ _ hd (tab.ne hd (by intro _ z; cases z)) (fun z=>by
  obtain⟨_,_,_,h1,_⟩:=t.s.ex
  rw[z,h1] at hd
  cases hd) n1 n2
 refine⟨_,rfl,false,dl,rfl,⟨_,SqL.of hd⟩,jMQ (tp:=false) (xs:=ds) (fun i σ H'=>(∃ m,m<=i/\StO C sh l kk tb1 m H')/\FrO tb1 sh l kk H H'/\∃ v1 v5 v6 v7 v8,σ=[some (.ref sc),v1,some (.ref sh),some (.ref kk),some (.ref dl),v5,v6,v7,v8]) ⟨⟨0,aq _,(0,[],[]),[],t,g0,fun _ h=>absurd h ar,rfl,tab⟩,FrO.ext (Ext.refl _),_,_,_,_,_,rfl⟩ (fun i σ H' ⟨_,f,_⟩=>SqL.of (hdl f)) ?_ ?_⟩
 ·rintro i v T σ H1 hv nT ⟨⟨m,mi,x,hs,t1,g,gh,hl,tab1⟩,f1,v1,v5,v6,v7,v8,rfl⟩
  have il:i<ds.length:=(ay.mp hv).1
  refine⟨T,_,rfl,SqT.of jA,rfl,_,_,rfl,_,_,rfl,rfl,?_⟩
  have e2:Ext H1 (L2.upd H1 T (.tup [.int (i:Int),v])):=fun c o h=>by rw[jD (jF h nT)]; exact h
  have f2:=f1.trans (FrO.ext e2)
  refine jOE G hr lk (n:=i) (by omega) (t1.ext e2) g gh (by omega) (tab1.ext e2) (hS f2) (hdl f2) (by omega) (DdL.dd (DdL.mono (f2.tups t tab) (hds v (aP hv)))) fun H3 v1 v6 v7 v8 st f3=>⟨st,f2.trans f3,_,_,_,_,_,rfl⟩
 ·rintro σ H1 ⟨⟨m,mi,st⟩,f1,v1,v5,v6,v7,v8,rfl⟩
  exact jOA G hr lk (by omega) st nx
def KO (p dl:Addr)(H H':Hp):Prop:=∀ c o,H c=some o->c≠p->c≠dl->H' c=some o
theorem KO.tups {p dl:Addr}{H H':Hp}{xs ys:List V}(k:KO p dl H H')(hp:H p=some (.lst xs))(hd:H dl=some (.lst ys)):Tups H H':=fun c vs h=>k _ _ h (fun z=>by rw[z,hp] at h; cases h) fun z=>by rw[z,hd] at h; cases h
theorem jQH {H H':Hp}{tb:Addr}(t:TabP H tb)(k:∀ c o,H c=some o->(∀ xs,o≠ .lst xs)->H' c=some o):TabP H' tb:=by
 rcases t with h | ⟨c,h,h2⟩
 ·exact .inl (k _ _ h fun _ z=>by cases z)
 ·exact .inr ⟨c,k _ _ h (fun _ z=>by cases z),k _ _ h2 fun _ z=>by cases z⟩
theorem jQ7 {D:Ends}{H:Hp}{sh l kk sc p dl:Addr}{ns:List Int}{ds:List V}{N:Int}{v5 v6 v7 v8:Option V}(lk:l≠kk)(t:OneG C sh l kk (0,[],[]) [] ([]++[(0,[],[])]) H)(g0:qD (0,[],[]))(tab:TabP H tb1)(hS:∀ {H'},(∀ c o,H c=some o->c≠tb1->c≠sh->c≠l->c≠kk->c≠p->c≠dl->H' c=some o)->SqL K H' sc (ns.map V.int))(hp:H p=some (.lst [.int N]))(hN:0<=N)(hd:H dl=some (.lst ds))(dn:ds.length<=16)(hds:∀ v∈ds,DdL H v)(pd:p≠dl)(n1:dl≠l)(n2:dl≠kk)(n3:p≠l)(n4:p≠kk)(nx:∀ H',D.rt (.bl true) H'):
  (lapA G hr).1 D [some (.ref sc),some (.ref p),some (.ref sh),some (.ref kk),some (.ref dl),v5,v6,v7,v8] H:=by
 refine⟨_,rfl,p,N,3,rfl,hp,hN,by decide,by decide,fun N1 r a1 a2 a3=>?_⟩
 have k1:KO p dl H (L2.upd H p (.lst [.int N1])):=fun c o h n _=>by rw[jD n]; exact h
 have p1:(L2.upd H p (.lst [.int N1])) p=some (.lst [.int N1]):=jA
 have d1:(L2.upd H p (.lst [.int N1])) dl=some (.lst ds):=by rw[jD (bo pd)]; exact hd
 generalize L2.upd H p (.lst [.int N1])=H1 at k1 p1 d1
 have fin:∀ {H':Hp}{ds':List V}{v5 v6 v7 v8:Option V},KO p dl H H'->H' dl=some (.lst ds')->ds'.length<=100->(∀ v∈ds',DdL H' v)->(lf6A G hr).1 D [some (.ref sc),some (.ref p),some (.ref sh),some (.ref kk),some (.ref dl),v5,v6,v7,v8] H':=fun {H' ds' v5 v6 v7 v8} k' d' dn' hds'=>by
  have tn:∀ {c o},H c=some o->(∀ xs,o≠ .lst xs)->H' c=some o:=fun {c o} h n=>k' c o h (fun z=>by rw[z,hp] at h; cases h; exact n _ rfl) fun z=>by rw[z,hd] at h; cases h; exact n _ rfl
  refine jQ1 G hr lk (t.keep (fun c o h m=>k' _ _ h ?_ ?_) (k'.tups hp hd)) g0 (jQH tab fun c o=>tn) (fun {H2} f=>hS fun c o h m1 m2 m3 m4 m5 m6=>f _ _ (k' _ _ h m5 m6) m1 m2 m3 m4) d' dn' n1 n2 hds' nx
  ·rcases m with rfl | rfl | rfl
   ·exact fun z=>by
     obtain⟨_,_,_,h1,_⟩:=t.s.ex
     rw[z,hp] at h1
     cases h1
   ·exact bo n3
   ·exact bo n4
  ·rcases m with rfl | rfl | rfl
   ·exact fun z=>by
     obtain⟨_,_,_,h1,_⟩:=t.s.ex
     rw[z,hd] at h1
     cases h1
   ·exact bo n1
   ·exact bo n2
 refine⟨_,_,rfl,rfl,30+r,rfl,by omega,by omega,jD4 (lo:=0) (n:=(30+r).toNat) (fun i σ H'=>KO p dl H H'/\(∃ N',H' p=some (.lst [.int N'])/\0<=N')/\(∃ ds',H' dl=some (.lst ds')/\ds'.length<=16+i/\∀ v∈ds',DdL H' v)/\∃ v5,σ=[some (.ref sc),some (.ref p),some (.ref sh),some (.ref kk),some (.ref dl),v5,v6,v7,v8]) ⟨k1,⟨N1,p1,a1⟩,⟨ds,d1,dn,fun v h=>(hds v h).mono (k1.tups hp hd)⟩,_,rfl⟩ ?_ ?_⟩
 ·rintro i σ H2 hi ⟨k2,⟨N2,p2,b2⟩,⟨ds2,d2,l2,hd2⟩,v5,rfl⟩
  refine⟨_,rfl, .inl ⟨rfl,_,SqL.of d2⟩,_,rfl,p,N2,14,rfl,p2,b2,by decide,by decide,fun q N3 ts H3 c1 lt q3 p3 kp=>⟨_,rfl,by show (3:Nat)<=_; decide,fun qd H4 d4 e4=>?_⟩⟩
  have d5:H4 dl=some (.lst ds2):=e4 _ _ (kp _ _ d2 (bo pd))
  have tl:=yU lt.ris lt.bnd (by decide:(14:Int)<=16)
  refine⟨dl,ds2,_,rfl,rfl,d5,by unfold sizeLine; omega,?_⟩
  have t3:Tups H2 H3:=fun c vs h=>kp _ _ h fun z=>by rw[z,p2] at h; cases h
  have t5:Tups H4 (L2.upd H4 dl (.lst (ds2++[.ref qd]))):=Tups.upd d5 _
  refine⟨fun c o h m1 m2=>by rw[jD m2]; exact e4 _ _ (kp _ _ (k2 _ _ h m1 m2) m1),⟨N3,by rw[jD pd]; exact e4 _ _ p3,c1⟩,⟨_,jA,by rw[aD,bX]; omega,fun v hv=>?_⟩,_,rfl⟩
  rcases bq.mp hv with hv | hv
  ·exact((hd2 v hv).mono (t3.trans e4.tups)).mono t5
  ·rw[aG.mp hv]
   exact .inr ⟨qd,_,_,rfl, .inr ⟨q,ts,_,rfl,rfl,t5 _ _ d4,t5 _ _ (e4 _ _ q3),by omega⟩⟩
 ·rintro σ H2 ⟨k2,⟨N2,p2,b2⟩,⟨ds2,d2,l2,hd2⟩,v5,rfl⟩
  have hl:∃ m:Int,(if (if (21:Int)<((ns.map V.int).length:Int) then (21:Int) else ((ns.map V.int).length:Int))>1 then (if (21:Int)<((ns.map V.int).length:Int) then (21:Int) else ((ns.map V.int).length:Int)) else 1)=m/\0<=m/\m<=21:=⟨_,rfl,by split <;> omega,by split <;> (try split) <;> omega⟩
  obtain⟨m,hm,m0,m6⟩:=hl
  have hS2:SqL K H2 sc (ns.map V.int):=hS fun c o h _ _ _ _ z1 z2=>k2 _ _ h z1 z2
  refine⟨_,rfl,sc,_,rfl, .inl hS2,_,_,rfl,_,_,rfl,m,by rw[<- hm],by omega,by omega,jD4 (lo:=0) (n:=m.toNat) (fun i σ H'=>KO p dl H H'/\(∃ ds',H' dl=some (.lst ds')/\ds'.length<=48+i/\∀ v∈ds',DdL H' v)/\∃ v5,σ=[some (.ref sc),some (.ref p),some (.ref sh),some (.ref kk),some (.ref dl),v5,v6,v7,v8]) ⟨k2,⟨ds2,d2,by omega,hd2⟩,_,rfl⟩ ?_ ?_⟩
  ·rintro i σ H3 hi ⟨k3,⟨ds3,d3,l3,hd3⟩,v5,rfl⟩
   refine⟨_,rfl, .inl ⟨rfl,_,SqL.of d3⟩,dl,ds3,_,rfl,rfl,d3,by unfold sizeLine; omega,?_⟩
   have t5:Tups H3 (L2.upd H3 dl (.lst (ds3++[.non]))):=Tups.upd d3 _
   refine⟨fun c o h m1 m2=>by rw[jD m2]; exact k3 _ _ h m1 m2,⟨_,jA,by rw[aD,bX]; omega,fun v hv=>?_⟩,_,rfl⟩
   rcases bq.mp hv with hv | hv
   ·exact(hd3 v hv).mono t5
   ·rw[aG.mp hv]
    exact .inl rfl
  ·rintro σ H3 ⟨k3,⟨ds3,d3,l3,hd3⟩,v5,rfl⟩
   exact fin k3 d3 (by omega) hd3
end
def spLaw (K:W.Frag)(tb1:Addr):Sp:=fun vs H Q _=>∃ (a:Addr) (ns:List Int),vs=[.ref a]/\SqL K H a (ns.map V.int)/\ns.length<=63/\TabP H tb1/\∀ H',Q (.bl true) H'
theorem none_of {H H':Hp}{c:Addr}(e:Ext H H')(n:H' c=none):H c=none:=by
 cases h:H c with
 | none=>rfl
 | some o=>rw[e c o h] at n; cases n
theorem mkS {H H':Hp}{sh dx l:Addr}(n0:H sh=none)(m0:H dx=none)(k0:∀ c o,(L2.upd (L2.upd H dx (.own sh)) sh (.ins C dx [])) c=some o->c≠sh->H' c=some o)(nl:(L2.upd (L2.upd H dx (.own sh)) sh (.ins C dx [])) l=none):Ext H H'/\H l=none:=by
 have e:Ext H (L2.upd (L2.upd H dx (.own sh)) sh (.ins C dx [])):=fun c o h=>by rw[jD (jF h n0),jD (jF h m0)]; exact h
 exact⟨fun c o h=>k0 c o (e c o h) (jF h n0),none_of e nl⟩
theorem good0:qD (0,[],[]):=⟨by decide,by decide,⟨List.Pairwise.nil,fun _ h=>nomatch h⟩,by decide,fun _ h=>nomatch h⟩
theorem box0 {H:Hp}{b q1 q2:Addr}(h:H b=some (.tup [.int 0, .ref q1, .ref q2]))(h1:H q1=some (.tup []))(h2:H q2=some (.tup [])):BxB H b (0,[],[]):=⟨q1,q2,[],h,h1,h2,trivial⟩
theorem sqO {H H':Hp}{sc:Addr}{xs:List V}(hS:SqL K H sc xs)(k:∀ o,H sc=some o->(∀ ps,o≠ .tbl ps)->H' sc=some o):SqL K H' sc xs:=by
 rcases hS with h | h
 ·rcases h with h | ⟨o,h⟩
  ·exact .inl (.inl (k _ h (by intro _ z; cases z)))
  ·exact .inl (.inr ⟨o,k _ h (by intro _ z; cases z)⟩)
 ·exact .inr h
theorem jRL {fd:FuncData}(F:Fun K "law" "law" sLaw f fd)(G:LW P w K mg base C fI gB fC fP fT fL fE fU fD fS tb1 fdI gdB fdC fdP fdT fdL fdE fdU fdD fdS):FnOk P w K mg base CX0 7 f fd ["script"] (spLaw K tb1):=by
 refine F.ok scLaw (fun vs H Q E h=>?_) (fun cdv A outer s H vs Q E hr h=>?_)
 ·obtain⟨_,_,rfl,_⟩:=h
  rfl
 ·obtain⟨sc,ns,rfl,hS,_,tab,q⟩:=h
  refine⟨_,(lawA G hr).2.h,?_⟩
  refine⟨_,rfl,sc,ns,0,rfl,hS,by decide,fun c=>⟨c,rfl,fun p N hp hN=>?_⟩⟩
  have eA:Ext H (L2.upd H p (.lst [.int N])):=fun c o h=>by rw[jD (jF h hp)]; exact h
  have pA:(L2.upd H p (.lst [.int N])) p=some (.lst [.int N]):=jA
  generalize L2.upd H p (.lst [.int N])=HA at eA pA
  refine fun sh dx n0 m0 _=>⟨sh,dx,rfl,jA,fun l H1 S0 nl0 k0=>⟨rfl,?_⟩⟩
  obtain⟨e1,nl0⟩:=mkS n0 m0 k0 nl0
  refine⟨by show (0:Nat)<=_; decide,fun q1 H4 d4 e4=>⟨by show (0:Nat)<=_; decide,fun q2 H5 d5 e5=>⟨by show (3:Nat)<=_; decide,fun b0 H6 d6 e6=>⟨by show (1:Nat)<=_; decide,fun kk H7 d7 e7 n7=>?_⟩⟩⟩⟩
  have e16:Ext H1 H6:=(e4.trans e5).trans e6
  have e17:Ext H1 H7:=e16.trans e7
  have E7:Ext HA H7:=e1.trans e17
  have p7:=E7 _ _ pA
  obtain⟨_,_,us0,s01,_,s03,_⟩:=id S0.ex
  have lk:l≠kk:=jF (e16 _ _ s03) n7
  have pl:l≠p:=fun z=>by rw[z,pA] at nl0; cases nl0
  have pk:kk≠p:=fun z=>by rw[z,(e1.trans e16) _ _ pA] at n7; cases n7
  have b0h:BxB H7 b0 (0,[],[]):=box0 (e7 _ _ d6) (e7 _ _ (e6 _ _ (e5 _ _ d4))) (e7 _ _ (e6 _ _ d5))
  have t7:OneG C sh l kk (0,[],[]) [] ([]++[(0,[],[])]) H7:=⟨S0.ext e17,_,d7,⟨b0,rfl,b0h⟩,trivial⟩
  have tab7:=tab.ext (eA.trans E7)
  refine⟨_,rfl,p,N,3,rfl,p7,hN,by decide,by decide,fun N1 r a1 a2 a3=>?_⟩
  have k8:Keep H7 (L2.upd H7 p (.lst [.int N1])) p:=Keep.pot
  have p8:(L2.upd H7 p (.lst [.int N1])) p=some (.lst [.int N1]):=jA
  generalize L2.upd H7 p (.lst [.int N1])=H8 at k8 p8
  refine⟨_,_,rfl,rfl,14+r,rfl,by omega,by omega,jBO (n:=(14+r).toNat) (by rw[aC]; omega) (fun D j σ' H' zs=>(∃ v,σ'=[v,some (.ref p)])/\Keep H8 H' p/\(∃ N',H' p=some (.lst [.int N'])/\0<=N')/\H' D=some (.lst zs)/\zs.length<=j/\∀ v∈zs,DdL H' v) (fun D hD=>⟨⟨_,rfl⟩,fun c o h n=>by rw[jD (jF h hD)]; exact h,⟨N1,by rw[jD (jF p8 hD)]; exact p8,a1⟩,jA,aq _,fun _ h=>by cases h⟩) (fun D j σ' H' zs hD hj ⟨_,_,_,h,hl,_⟩=>⟨h,hl⟩) ?_ ?_⟩
  ·rintro D j σ' H2 zs hD hj ⟨⟨v,rfl⟩,k2,⟨N2,p2,n2⟩,d2,sl,sb⟩
   have Dp:D≠p:=bo (jF p8 hD)
   dsimp only [kX,qI]
   rw[aB rfl]
   refine⟨_,rfl,p,N2,3,rfl,p2,n2,by decide,by decide,fun N3 r3 b1 b2 b3=>⟨_,_,rfl,rfl,by show (3:Nat)<=_; decide,fun q0 H4 d4 e4=>?_⟩⟩
   have D4:H4 D=some (.lst zs):=e4 _ _ (by rw[jD Dp]; exact d2)
   have t5:Tups H4 (L2.upd H4 D (.lst (zs++[.ref q0]))):=Tups.upd D4 _
   refine⟨D4,⟨_,rfl⟩,fun c o h n=>?_,⟨N3,by rw[jD (bo Dp)]; exact e4 _ _ jA,b1⟩,jA,by rw[aD,bX]; omega,fun x hx=>?_⟩
   ·rw[jD (jF h hD)]
    exact e4 _ _ (by rw[jD n]; exact k2 _ _ h n)
   ·rcases bq.mp hx with z | z
    ·exact(((sb x z).mono (Tups.upd p2 _)).mono e4.tups).mono t5
    ·rw[aG.mp z]
     exact .inr ⟨q0,_,_,rfl, .inl ⟨_,rfl,t5 _ _ d4⟩⟩
  ·rintro D σ' H2 zs hD ⟨_,k2,⟨N2,p2,n2⟩,d2,sl,sb⟩
   have K2:Keep H7 H2 p:=fun c o h n=>k2 _ _ (k8 _ _ h n) n
   have l8:=k8 _ _ (e17 _ _ s03) pl
   have kk8:=k8 _ _ d7 pk
   refine jQ7 G hr lk (t7.pot p7 pl pk K2) good0 (jDN tab7 p7 K2) (fun {H3} k3=>sqO hS fun o h ho=>?_) p2 n2 d2 (by omega) sb (jF p8 hD) (bo (jF l8 hD)) (bo (jF kk8 hD)) (bo pl) (bo pk) q
   have h7:=(eA.trans E7) _ _ h
   have hp':=jF h hp
   have h8:=k8 _ _ h7 hp'
   exact k3 _ _ (k2 _ _ h8 hp') (tab.ne h ho) (jF (eA _ _ h) n0) (jF (eA _ _ h) nl0) (jF ((eA.trans (e1.trans e16)) _ _ h) n7) hp' (jF h8 hD)
theorem okOr {CX:CXT}{k:Nat}{fd:FuncData}{ps:List Str}{sp sp':Sp}(F:FnOk P w K mg base CX k f fd ps sp)(F':FnOk P w K mg base CX k f fd ps sp'):FnOk P w K mg base CX k f fd ps (fun vs H Q E=>sp vs H Q E\/sp' vs H Q E):=
 ⟨fun vs H Q E h=>h.elim (F.len vs H Q E) (F'.len vs H Q E),fun A outer s H args us vs Q E hr e0 hb r h=>h.elim (F.run A outer s H args us vs Q E hr e0 hb r) (F'.run A outer s H args us vs Q E hr e0 hb r)⟩
end
theorem lenU1 {P:List Value->Prop} :∀ {us:List Value},us.length=1->(∀ a,P [a])->P us
 | [a],_,h=>h a
theorem lenU2 {P:List Value->Prop} :∀ {us:List Value},us.length=2->(∀ a b,P [a,b])->P us
 | [a,b],_,h=>h a b
theorem lenU3 {P:List Value->Prop} :∀ {us:List Value},us.length=3->(∀ a b c,P [a,b,c])->P us
 | [a,b,c],_,h=>h a b c
abbrev zN (K:W.Frag)(x:Str):=PySem.W.nsIn K mainGlobals x
abbrev zr (f:Addr):Option (Option Value):=some (some (.ref f))
abbrev zl (x:Str)(st:Stmt)(oc:Value)(od:Option Addr)(kV dc pm:Value)(an:Option Addr)(cd ct:Value)(sl:Array (Option Value)):Option Obj:=some ⟨oc,od, .func (PySem.W.fnOf x x (kS st) (jG st) (j9 st) .none kV dc pm an cd ct),sl⟩
abbrev zc:=PySem.W.codeIn
abbrev zk (K:W.Frag)(f:Addr):=keepIn K (.ref f)
theorem zb1 {K:W.Frag}{x q p1:Str}{st:Stmt}{f:Addr}{fd:FuncData}(F:Fun K x q st f fd)(h:∀ (kV doc pm:Value) (an:Option Addr) (cdv ct u1:Value),bindArgs (PySem.W.fnOf x q (kS st) (jG st) (j9 st) .none kV doc pm an cdv ct) ⟨[u1],[]⟩=pure [(p1,u1)]:=by intros; rfl):Binds K fd [p1] []:=F.binds fun kV doc pm an cdv ct us hl=>lenU1 (P:=fun us=>bindArgs _ ⟨us,[]⟩=pure (List.zip _ us)) hl fun u1=>h kV doc pm an cdv ct u1
theorem zb2 {K:W.Frag}{x q p1 p2:Str}{st:Stmt}{f:Addr}{fd:FuncData}(F:Fun K x q st f fd)(h:∀ (kV doc pm:Value) (an:Option Addr) (cdv ct u1 u2:Value),bindArgs (PySem.W.fnOf x q (kS st) (jG st) (j9 st) .none kV doc pm an cdv ct) ⟨[u1,u2],[]⟩=pure [(p1,u1),(p2,u2)]:=by intros; rfl):Binds K fd [p1,p2] []:=F.binds fun kV doc pm an cdv ct us hl=>lenU2 (P:=fun us=>bindArgs _ ⟨us,[]⟩=pure (List.zip _ us)) hl fun u1 u2=>h kV doc pm an cdv ct u1 u2
theorem zb3 {K:W.Frag}{x q p1 p2 p3:Str}{st:Stmt}{f:Addr}{fd:FuncData}(F:Fun K x q st f fd)(h:∀ (kV doc pm:Value) (an:Option Addr) (cdv ct u1 u2 u3:Value),bindArgs (PySem.W.fnOf x q (kS st) (jG st) (j9 st) .none kV doc pm an cdv ct) ⟨[u1,u2,u3],[]⟩=pure [(p1,u1),(p2,u2),(p3,u3)]:=by intros; rfl):Binds K fd [p1,p2,p3] []:=F.binds fun kV doc pm an cdv ct us hl=>lenU3 (P:=fun us=>bindArgs _ ⟨us,[]⟩=pure (List.zip _ us)) hl fun u1 u2 u3=>h kV doc pm an cdv ct u1 u2 u3
set_option autoImplicit true
set_option relaxedAutoImplicit true
set_option maxHeartbeats 8000000 in
theorem all_mk {l:PySem.W.OpenLaw}{w:World}{K:W.Frag}{h:Heap}{mg:Str->Option Value}{fa f1 f2 f3 f4 f5 f6 f7 f8 f9 f10 f11 f12 f13 f14 f15 f16 f17 f18 f19 f20:Addr}(X:K.In h)(G:h.Ns mainGlobals mg)(hfa:mg "law" =some (.ref fa))
  {u1 u2:Tok}
  (a1:zN K "is_whole" =zr f1) (l1:K.lookup f1=zl "is_whole" jB7 oc1 od1 kV1 dc1 pm1 an1 cd1 ct1 sl1) (c1:zc K cd1 "is_whole" =true) (k1:zk K f1=true)
  (a2:zN K "is_rising" =zr f2) (l2:K.lookup f2=zl "is_rising" jAC oc2 od2 kV2 dc2 pm2 an2 cd2 ct2 sl2) (c2:zc K cd2 "is_rising" =true) (k2:zk K f2=true)
  (a3:zN K "is_lot" =zr f3) (l3:K.lookup f3=zl "is_lot" jC4 oc3 od3 kV3 dc3 pm3 an3 cd3 ct3 sl3) (c3:zc K cd3 "is_lot" =true) (k3:zk K f3=true)
  (a4:zN K "is_weight" =zr f4) (l4:K.lookup f4=zl "is_weight" sIsW oc4 od4 kV4 dc4 pm4 an4 cd4 ct4 sl4) (c4:zc K cd4 "is_weight" =true) (k4:zk K f4=true)
  (a5:zN K "picked" =zr f5) (l5:K.lookup f5=zl "picked" yD oc5 od5 kV5 dc5 pm5 an5 cd5 ct5 sl5) (c5:zc K cd5 "picked" =true) (k5:zk K f5=true)
  (a6:zN K "all_but" =zr f6) (l6:K.lookup f6=zl "all_but" jAQ oc6 od6 kV6 dc6 pm6 an6 cd6 ct6 sl6) (c6:zc K cd6 "all_but" =true) (k6:zk K f6=true)
  (a7:zN K "_law_cell_at" =zr f7) (l7:K.lookup f7=zl "_law_cell_at" sCell oc7 od7 kV7 dc7 pm7 an7 cd7 ct7 sl7) (c7:zc K cd7 "_law_cell_at" =true) (k7:zk K f7=true)
  (a8:zN K "_law_pot" =zr f8) (l8:K.lookup f8=zl "_law_pot" sPot oc8 od8 kV8 dc8 pm8 an8 cd8 ct8 sl8) (c8:zc K cd8 "_law_pot" =true) (k8:zk K f8=true)
  (a9:zN K "_law_take" =zr f9) (l9:K.lookup f9=zl "_law_take" sTake oc9 od9 kV9 dc9 pm9 an9 cd9 ct9 sl9) (c9:zc K cd9 "_law_take" =true) (k9:zk K f9=true)
  (a10:zN K "_law_lot" =zr f10) (l10:K.lookup f10=zl "_law_lot" sLot oc10 od10 kV10 dc10 pm10 an10 cd10 ct10 sl10) (c10:zc K cd10 "_law_lot" =true) (k10:zk K f10=true)
  (a11:zN K "_law_whole" =zr f11) (l11:K.lookup f11=zl "_law_whole" jCO oc11 od11 kV11 dc11 pm11 an11 cd11 ct11 sl11) (c11:zc K cd11 "_law_whole" =true) (k11:zk K f11=true)
  (a12:zN K "_law_same" =zr f12) (l12:K.lookup f12=zl "_law_same" sSame oc12 od12 kV12 dc12 pm12 an12 cd12 ct12 sl12) (c12:zc K cd12 "_law_same" =true) (k12:zk K f12=true)
  (a13:zN K "_law_upto" =zr f13) (l13:K.lookup f13=zl "_law_upto" sUpto oc13 od13 kV13 dc13 pm13 an13 cd13 ct13 sl13) (c13:zc K cd13 "_law_upto" =true) (k13:zk K f13=true)
  (a14:zN K "_law_lot_right" =zr f14) (l14:K.lookup f14=zl "_law_lot_right" sLotR oc14 od14 kV14 dc14 pm14 an14 cd14 ct14 sl14) (c14:zc K cd14 "_law_lot_right" =true) (k14:zk K f14=true)
  (a15:zN K "_law_shop_due" =zr f15) (l15:K.lookup f15=zl "_law_shop_due" sDue oc15 od15 kV15 dc15 pm15 an15 cd15 ct15 sl15) (c15:zc K cd15 "_law_shop_due" =true) (k15:zk K f15=true)
  (a16:zN K "_law_shop_word" =zr f16) (l16:K.lookup f16=zl "_law_shop_word" sWord oc16 od16 kV16 dc16 pm16 an16 cd16 ct16 sl16) (c16:zc K cd16 "_law_shop_word" =true) (k16:zk K f16=true)
  (a17:zN K "_law_shop_told" =zr f17) (l17:K.lookup f17=zl "_law_shop_told" jBG oc17 od17 kV17 dc17 pm17 an17 cd17 ct17 sl17) (c17:zc K cd17 "_law_shop_told" =true) (k17:zk K f17=true)
  (a18:zN K "_law_odd_number" =zr f18) (l18:K.lookup f18=zl "_law_odd_number" sOddN oc18 od18 kV18 dc18 pm18 an18 cd18 ct18 sl18) (c18:zc K cd18 "_law_odd_number" =true) (k18:zk K f18=true)
  (a19:zN K "_law_deed" =zr f19) (l19:K.lookup f19=zl "_law_deed" xB oc19 od19 kV19 dc19 pm19 an19 cd19 ct19 sl19) (c19:zc K cd19 "_law_deed" =true) (k19:zk K f19=true)
  (a20:zN K "law" =zr f20) (l20:K.lookup f20=zl "law" sLaw oc20 od20 kV20 dc20 pm20 an20 cd20 ct20 sl20) (c20:zc K cd20 "law" =true) (k20:zk K f20=true)
  (g1:zN K "MOST_THINGS" =some (some (.int 16 u1))) (g2:zN K "MOST_PIECES" =some (some (.int 32 u2))) (z1:zN K "len" =some none) (z2:zN K "range" =some none) (z3:zN K "tuple" =some none) (z4:zN K "sorted" =some none) (z5:zN K "set" =some none) (z6:zN K "list" =some none) (z7:zN K "int" =some none) (z8:zN K "isinstance" =some none) (z9:zN K "bool" =some none) (z10:zN K "str" =some none) (z11:zN K "all" =some none) (z12:zN K "zip" =some none) (z13:zN K "max" =some none) (z14:zN K "min" =some none) (z15:zN K "any" =some none) (z16:zN K "abs" =some none) (z17:zN K "sum" =some none) (z18:zN K "enumerate" =some none) (z19:zN K "dict" =some none) (z20:zN K "ValueError" =some none) {cO cM cT cW cP cH cD:Addr}{cl:Nat->Addr}(x0:zN K "OnceError" =some (some (.ref cO))) (x5:∀ i x,jCE[i]?=some x->PySem.W.nsIn K mainGlobals x=some (some (.ref (cl i)))) (x1M:zN K "TooMany" =some (some (.ref cM))) (x2M:ExcK K cM) (x3M:qR K cM cO) (x4M:ExcIs K cM) (x6M:∀ i,i<10->kitOne K (.ref cM) (.ref (cl i))=some (decide (i=9))) (x7M:kitOne K (.ref cM) (.type "ValueError")=some true) (x1T:zN K "NoThing" =some (some (.ref cT))) (x2T:ExcK K cT) (x3T:qR K cT cO) (x4T:ExcIs K cT) (x6T:∀ i,i<10->kitOne K (.ref cT) (.ref (cl i))=some (decide (i=7))) (x7T:kitOne K (.ref cT) (.type "ValueError")=some true) (x1W:zN K "NoWeight" =some (some (.ref cW))) (x2W:ExcK K cW) (x3W:qR K cW cO) (x4W:ExcIs K cW) (x6W:∀ i,i<10->kitOne K (.ref cW) (.ref (cl i))=some (decide (i=8))) (x7W:kitOne K (.ref cW) (.type "ValueError")=some true) (x1P:zN K "NoPiece" =some (some (.ref cP))) (x2P:ExcK K cP) (x3P:qR K cP cO) (x4P:ExcIs K cP) (x6P:∀ i,i<10->kitOne K (.ref cP) (.ref (cl i))=some (decide (i=4))) (x7P:kitOne K (.ref cP) (.type "ValueError")=some true) (x1H:zN K "Held" =some (some (.ref cH))) (x2H:ExcK K cH) (x3H:qR K cH cO) (x4H:ExcIs K cH) (x6H:∀ i,i<10->kitOne K (.ref cH) (.ref (cl i))=some (decide (i=0))) (x7H:kitOne K (.ref cH) (.type "ValueError")=some true) (x1D:zN K "NoDeed" =some (some (.ref cD))) (x2D:ExcK K cD) (x3D:qR K cD cO) (x4D:ExcIs K cD) (x6D:∀ i,i<10->kitOne K (.ref cD) (.ref (cl i))=some (decide (i=2))) (x7D:kitOne K (.ref cD) (.type "ValueError")=some true) {tb1 cc1:Addr}(cde1:cd5= .ref cc1) (hcd1:codeHdIn K cc1 tb1=true) {bmA:Addr}(xb1:zN K "__builtins__" =zr bmA) (xb2:K.lookup bmA=some ⟨.type "module",some builtinsNs, .plain,#[]⟩) (xb3:bmA≠builtinsNs) (xb4:bmA≠mainGlobals) {clS:Addr}(xC:zN K "Shop" =some (some (.ref clS))) {f21:Addr}{od21 an21:Option Addr}{sl21:Array (Option Value)}{oc21 kV21 dc21 pm21 cd21 ct21:Value}(l21:K.lookup f21=some ⟨oc21,od21, .func (PySem.W.fnOf "__init__" "Shop.__init__" (kS sInit) (jG sInit) (j9 sInit) .none kV21 dc21 pm21 an21 cd21 ct21),sl21⟩) (c21:zc K cd21 "Shop.__init__" =true) (k21:zk K f21=true) (a21:findIn K (.ref clS) "__init__" =some (some (.ref f21))) (n21:isFn K (.ref f21)=true) {f22:Addr}{od22 an22:Option Addr}{sl22:Array (Option Value)}{oc22 kV22 dc22 pm22 cd22 ct22:Value}(l22:K.lookup f22=some ⟨oc22,od22, .func (PySem.W.fnOf "become" "Shop.become" (kS jAD) (jG jAD) (j9 jAD) .none kV22 dc22 pm22 an22 cd22 ct22),sl22⟩) (c22:zc K cd22 "Shop.become" =true) (k22:zk K f22=true) (a22:findIn K (.ref clS) "become" =some (some (.ref f22))) (n22:isFn K (.ref f22)=true) {f23:Addr}{od23 an23:Option Addr}{sl23:Array (Option Value)}{oc23 kV23 dc23 pm23 cd23 ct23:Value}(l23:K.lookup f23=some ⟨oc23,od23, .func (PySem.W.fnOf "put_thing" "Shop.put_thing" (kS qX) (jG qX) (j9 qX) .none kV23 dc23 pm23 an23 cd23 ct23),sl23⟩) (c23:zc K cd23 "Shop.put_thing" =true) (k23:zk K f23=true) (a23:findIn K (.ref clS) "put_thing" =some (some (.ref f23))) (n23:isFn K (.ref f23)=true) {f24:Addr}{od24 an24:Option Addr}{sl24:Array (Option Value)}{oc24 kV24 dc24 pm24 cd24 ct24:Value}(l24:K.lookup f24=some ⟨oc24,od24, .func (PySem.W.fnOf "put_piece" "Shop.put_piece" (kS yZ) (jG yZ) (j9 yZ) .none kV24 dc24 pm24 an24 cd24 ct24),sl24⟩) (c24:zc K cd24 "Shop.put_piece" =true) (k24:zk K f24=true) (a24:findIn K (.ref clS) "put_piece" =some (some (.ref f24))) (n24:isFn K (.ref f24)=true) {f25:Addr}{od25 an25:Option Addr}{sl25:Array (Option Value)}{oc25 kV25 dc25 pm25 cd25 ct25:Value}(l25:K.lookup f25=some ⟨oc25,od25, .func (PySem.W.fnOf "turn_thing" "Shop.turn_thing" (kS yP) (jG yP) (j9 yP) .none kV25 dc25 pm25 an25 cd25 ct25),sl25⟩) (c25:zc K cd25 "Shop.turn_thing" =true) (k25:zk K f25=true) (a25:findIn K (.ref clS) "turn_thing" =some (some (.ref f25))) (n25:isFn K (.ref f25)=true) {f26:Addr}{od26 an26:Option Addr}{sl26:Array (Option Value)}{oc26 kV26 dc26 pm26 cd26 ct26:Value}(l26:K.lookup f26=some ⟨oc26,od26, .func (PySem.W.fnOf "take_thing" "Shop.take_thing" (kS yK) (jG yK) (j9 yK) .none kV26 dc26 pm26 an26 cd26 ct26),sl26⟩) (c26:zc K cd26 "Shop.take_thing" =true) (k26:zk K f26=true) (a26:findIn K (.ref clS) "take_thing" =some (some (.ref f26))) (n26:isFn K (.ref f26)=true) {f27:Addr}{od27 an27:Option Addr}{sl27:Array (Option Value)}{oc27 kV27 dc27 pm27 cd27 ct27:Value}(l27:K.lookup f27=some ⟨oc27,od27, .func (PySem.W.fnOf "take_piece" "Shop.take_piece" (kS qA) (jG qA) (j9 qA) .none kV27 dc27 pm27 an27 cd27 ct27),sl27⟩) (c27:zc K cd27 "Shop.take_piece" =true) (k27:zk K f27=true) (a27:findIn K (.ref clS) "take_piece" =some (some (.ref f27))) (n27:isFn K (.ref f27)=true) {f28:Addr}{od28 an28:Option Addr}{sl28:Array (Option Value)}{oc28 kV28 dc28 pm28 cd28 ct28:Value}(l28:K.lookup f28=some ⟨oc28,od28, .func (PySem.W.fnOf "refuse_no_thing" "Shop.refuse_no_thing" (kS qW) (jG qW) (j9 qW) .none kV28 dc28 pm28 an28 cd28 ct28),sl28⟩) (c28:zc K cd28 "Shop.refuse_no_thing" =true) (k28:zk K f28=true) (a28:findIn K (.ref clS) "refuse_no_thing" =some (some (.ref f28))) (n28:isFn K (.ref f28)=true) {f29:Addr}{od29 an29:Option Addr}{sl29:Array (Option Value)}{oc29 kV29 dc29 pm29 cd29 ct29:Value}(l29:K.lookup f29=some ⟨oc29,od29, .func (PySem.W.fnOf "undo" "Shop.undo" (kS qY) (jG qY) (j9 qY) .none kV29 dc29 pm29 an29 cd29 ct29),sl29⟩) (c29:zc K cd29 "Shop.undo" =true) (k29:zk K f29=true) (a29:findIn K (.ref clS) "undo" =some (some (.ref f29))) (n29:isFn K (.ref f29)=true) {f30:Addr}{od30 an30:Option Addr}{sl30:Array (Option Value)}{oc30 kV30 dc30 pm30 cd30 ct30:Value}(l30:K.lookup f30=some ⟨oc30,od30, .func (PySem.W.fnOf "box" "Shop.box" (kS sBoxM) (jG sBoxM) (j9 sBoxM) .none kV30 dc30 pm30 an30 cd30 ct30),sl30⟩) (c30:zc K cd30 "Shop.box" =true) (k30:zk K f30=true) (a30:findIn K (.ref clS) "box" =some (some (.ref f30))) (n30:isFn K (.ref f30)=true) (SK:ShopK K clS) (MK:Mk K clS f21):
  ∃ fd:FuncData,(∀ (s:Shared) (v:Value),BindsTo s fd ⟨[v],[]⟩ [("script",v)])/\∀ base:Heap,K.In base->base.Ns mainGlobals mg->FnOk l.prog w K mg base CX0 7 fa fd ["script"] (spLaw K tb1):=by
 have e:=hfa.symm.trans (eR X G a20)
 cases e
 have T:Txt mg:=⟨aK X G z1,aK X G z2,aK X G z3,aK X G z4,aK X G z5,aK X G z6,aK X G z7,aK X G z8,aK X G z9,aK X G z10,aK X G z11,aK X G z12,aK X G z13,aK X G z14,aK X G z15,aK X G z16,aK X G z17,aK X G z18,aK X G z19,aK X G z20⟩
 have F1:=kU (st:=jB7) l1 c1 k1
 have F2:=kU (st:=jAC) l2 c2 k2
 have F3:=kU (st:=jC4) l3 c3 k3
 have F4:=kU (st:=sIsW) l4 c4 k4
 have F5:=kU (st:=yD) l5 c5 k5
 have b5:Binds K _ ["box","things","pieces"] []:=zb3 F5
 have F6:=kU (st:=jAQ) l6 c6 k6
 have F7:=kU (st:=sCell) l7 c7 k7
 have F8:=kU (st:=sPot) l8 c8 k8
 have F9:=kU (st:=sTake) l9 c9 k9
 have F10:=kU (st:=sLot) l10 c10 k10
 have F11:=kU (st:=jCO) l11 c11 k11
 have F12:=kU (st:=sSame) l12 c12 k12
 have F13:=kU (st:=sUpto) l13 c13 k13
 have F14:=kU (st:=sLotR) l14 c14 k14
 have F15:=kU (st:=sDue) l15 c15 k15
 have F16:=kU (st:=sWord) l16 c16 k16
 have F17:=kU (st:=jBG) l17 c17 k17
 have F18:=kU (st:=sOddN) l18 c18 k18
 have F19:=kU (st:=xB) l19 c19 k19
 have F20:=kU (st:=sLaw) l20 c20 k20
 have F21:=kU (st:=sInit) l21 c21 k21
 have MH21:Meth K clS "__init__" f21:=⟨a21,n21,k21⟩
 have F22:=kU (st:=jAD) l22 c22 k22
 have MH22:Meth K clS "become" f22:=⟨a22,n22,k22⟩
 have F23:=kU (st:=qX) l23 c23 k23
 have MH23:Meth K clS "put_thing" f23:=⟨a23,n23,k23⟩
 have F24:=kU (st:=yZ) l24 c24 k24
 have MH24:Meth K clS "put_piece" f24:=⟨a24,n24,k24⟩
 have F25:=kU (st:=yP) l25 c25 k25
 have MH25:Meth K clS "turn_thing" f25:=⟨a25,n25,k25⟩
 have F26:=kU (st:=yK) l26 c26 k26
 have MH26:Meth K clS "take_thing" f26:=⟨a26,n26,k26⟩
 have F27:=kU (st:=qA) l27 c27 k27
 have MH27:Meth K clS "take_piece" f27:=⟨a27,n27,k27⟩
 have F28:=kU (st:=qW) l28 c28 k28
 have MH28:Meth K clS "refuse_no_thing" f28:=⟨a28,n28,k28⟩
 have F29:=kU (st:=qY) l29 c29 k29
 have MH29:Meth K clS "undo" f29:=⟨a29,n29,k29⟩
 have F30:=kU (st:=sBoxM) l30 c30 k30
 have MH30:Meth K clS "box" f30:=⟨a30,n30,k30⟩
 refine⟨PySem.W.fnOf "law" "law" (kS sLaw) (jG sLaw) (j9 sLaw) .none kV20 dc20 pm20 an20 cd20 ct20,fun s v=> .of_eq rfl,fun base KB _=>?_⟩
 have M:=fun {x:Str}{f:Addr}(a:PySem.W.nsIn K mainGlobals x=some (some (.ref f)))=>eR X G a
 have M':=fun {x:Str}{v:Value}(a:PySem.W.nsIn K mainGlobals x=some (some v))=>eR X G a
 have CD1:PySem.W.CodeHd base cc1 tb1:=gW KB hcd1
 have FC1:FunC K "picked" "picked" yD f5 _ cc1:=⟨_,_,_,_,_,_,_,_,rfl,cde1 ▸ l5,cde1 ▸ c5⟩
 have BM:BltAt base mg:=⟨bmA,_,eR X G xb1,xb3,xb4,KB _ _ xb2,rfl,rfl,rfl⟩
 have KD:∀ C c,(C,c)∈[(cM,9),(cT,7),(cW,8),(cP,4),(cH,0),(cD,2)]->Kinds K mg C cl fun i=>decide (i=c):=fun C c h=>by
  simp only [am,gd,ar,aX] at h
  rcases h with ⟨rfl,rfl⟩ | ⟨rfl,rfl⟩ | ⟨rfl,rfl⟩ | ⟨rfl,rfl⟩ | ⟨rfl,rfl⟩ | ⟨rfl,rfl⟩
  ·exact⟨x4M,fun i x h=>M (x5 i x h),x6M,x7M⟩
  ·exact⟨x4T,fun i x h=>M (x5 i x h),x6T,x7T⟩
  ·exact⟨x4W,fun i x h=>M (x5 i x h),x6W,x7W⟩
  ·exact⟨x4P,fun i x h=>M (x5 i x h),x6P,x7P⟩
  ·exact⟨x4H,fun i x h=>M (x5 i x h),x6H,x7H⟩
  ·exact⟨x4D,fun i x h=>M (x5 i x h),x6D,x7D⟩
 have SIX:∀ C c,(C,c)∈[(cM,9),(cT,7),(cW,8),(cP,4),(cH,0),(cD,2)]->c∈[9,7,8,4,0,2]:=fun C c h=>by
  simp only [am,gd,ar,aX] at h
  rcases h with ⟨_,rfl⟩ | ⟨_,rfl⟩ | ⟨_,rfl⟩ | ⟨_,rfl⟩ | ⟨_,rfl⟩ | ⟨_,rfl⟩ <;> simp
 have AB:∀ p∈[(cM,9),(cT,7),(cW,8),(cP,4),(cH,0),(cD,2)],qR K p.1 cO:=fun p h=>by
  simp only [am,ar,aX] at h
  rcases h with rfl | rfl | rfl | rfl | rfl | rfl
  ·exact x3M
  ·exact x3T
  ·exact x3W
  ·exact x3P
  ·exact x3H
  ·exact x3D
 have C1:Can l.prog w K mg base "is_whole" 1 f1 _ ["thing"] spWh:=⟨jJH F1 T,M a1,k1,(zb1 F1)⟩
 have C2:Can l.prog w K mg base "is_rising" 2 f2 _ ["thing"] (spB risB):=⟨jJJ F2 T C1,M a2,k2,(zb1 F2)⟩
 have C3:Can l.prog w K mg base "is_lot" 3 f3 _ ["thing","many"] (spB2 lotB):=⟨jM8 F3 T C2,M a3,k3,(zb2 F3)⟩
 have C4:Can l.prog w K mg base "is_weight" 2 f4 _ ["thing"] (spB wtB):=⟨jRM F4 T C1,M a4,k4,(zb1 F4)⟩
 have C5:Can l.prog w K mg base "picked" 2 f5 _ ["box","things","pieces"] (jAX tb1):=⟨jJO FC1 T CD1 BM,M a5,k5,b5⟩
 have C6:Can l.prog w K mg base "all_but" 1 f6 _ ["number","count"] jAY:=⟨jJQ F6 T,M a6,k6,(zb2 F6)⟩
 have cmKS:CanK l.prog w K mg base "Shop" clS 2 f21 _ ["self"] (jIW clS):=⟨jPK F21 SK,MK,M xC,(zb1 F21)⟩
 have cm_become:CanM l.prog w K mg base clS "become" 2 f22 _ ["self","changed"] (yJ clS):=⟨jJP F22 SK,SK.cl,MH22,(zb2 F22)⟩
 have cm_refuse_no_thing:CanM l.prog w K mg base clS "refuse_no_thing" 4 f28 _ ["self","thing"] (jC2 clS):=⟨jPF F28 T SK C3,SK.cl,MH28,(zb2 F28)⟩
 have cm_box:CanM l.prog w K mg base clS "box" 2 f30 _ ["self"] (jIZ clS):=⟨jPN F30 SK,SK.cl,MH30,(zb1 F30)⟩
 have cn_put_thing:CanMN ([(cM,9),(cT,7),(cW,8),(cP,4),(cH,0),(cD,2)].map Prod.fst) l.prog w K mg base clS "put_thing" 3 f23 _ ["self","must"] (jIT clS cM):=⟨okOr (jPG F23 SK cm_become (M' g1)).toN0 (((jM6 F23 SK (M' g1) x2M (M x1M)).mono (by decide)).toN (by simp)),SK.cl,MH23,(zb2 F23)⟩
 have cn_put_piece:CanMN ([(cM,9),(cT,7),(cW,8),(cP,4),(cH,0),(cD,2)].map Prod.fst) l.prog w K mg base clS "put_piece" 4 f24 _ ["self","things","weight"] (jIU clS cM cT cW):=⟨okOr (okOr (okOr (jPH F24 T SK C3 C4 cm_become (M' g2)).toN0 ((jJN F24 T SK C3 C4 (M' g2) x2M (M x1M)).toN (by simp))) ((jJM F24 T SK C3 C4 (M' g2) x2T (M x1T)).toN (by simp))) ((jJL F24 T SK C3 C4 (M' g2) x2W (M x1W)).toN (by simp)),SK.cl,MH24,(zb3 F24)⟩
 have cn_turn_thing:CanMN ([(cM,9),(cT,7),(cW,8),(cP,4),(cH,0),(cD,2)].map Prod.fst) l.prog w K mg base clS "turn_thing" 5 f25 _ ["self","thing"] (jG4 clS cT):=⟨okOr (jM2 F25 T SK cm_refuse_no_thing cm_become).toN0 ((jM1 SK MH28 (jJK F28 T SK C3 x2T (M x1T)) (zb2 F28) F25).toN (by simp)),SK.cl,MH25,(zb2 F25)⟩
 have cn_take_thing:CanMN ([(cM,9),(cT,7),(cW,8),(cP,4),(cH,0),(cD,2)].map Prod.fst) l.prog w K mg base clS "take_thing" 5 f26 _ ["self","thing"] (jG5 clS tb1 cT cH):=⟨okOr (okOr (jM3 F26 T SK cm_refuse_no_thing cm_become C6 C5).toN0 ((jHU SK MH28 (jJK F28 T SK C3 x2T (M x1T)) (zb2 F28) F26).toN (by simp))) ((jHT F26 T SK cm_refuse_no_thing x2H (M x1H)).toN (by simp)),SK.cl,MH26,(zb2 F26)⟩
 have cn_take_piece:CanMN ([(cM,9),(cT,7),(cW,8),(cP,4),(cH,0),(cD,2)].map Prod.fst) l.prog w K mg base clS "take_piece" 4 f27 _ ["self","piece"] (jG7 clS tb1 cP):=⟨okOr (jM4 F27 T SK C3 cm_become C6 C5).toN0 ((jJI F27 T SK C3 x2P (M x1P)).toN (by simp)),SK.cl,MH27,(zb2 F27)⟩
 have cn_undo:CanMN ([(cM,9),(cT,7),(cW,8),(cP,4),(cH,0),(cD,2)].map Prod.fst) l.prog w K mg base clS "undo" 2 f29 _ ["self"] (jIO clS cD):=⟨okOr (jPD F29 T SK).toN0 ((jM0 F29 T SK x2D (M x1D)).toN (by simp)),SK.cl,MH29,(zb1 F29)⟩
 have C7:Can l.prog w K mg base "_law_cell_at" 1 f7 _ ["script","k"] (jIY K):=⟨jPM F7 T,M a7,k7,(zb2 F7)⟩
 have C8:Can l.prog w K mg base "_law_pot" 1 f8 _ ["cell"] spPot:=⟨jRJ F8 T,M a8,k8,(zb1 F8)⟩
 have C9:Can l.prog w K mg base "_law_take" 1 f9 _ ["pot","wide"] jBE:=⟨jPE F9,M a9,k9,(zb2 F9)⟩
 have C10:Can l.prog w K mg base "_law_lot" 2 f10 _ ["pot","wide"] spLot:=⟨jRK F10 T C9,M a10,k10,(zb2 F10)⟩
 have C11:Can l.prog w K mg base "_law_whole" 1 f11 _ ["found"] spWh:=⟨jLZ F11 T,M a11,k11,(zb1 F11)⟩
 have CWI:Can l.prog w K mg base "_law_whole" 1 f11 _ ["found"] jCM:=⟨jO8 C11.G,M a11,k11,(zb1 F11)⟩
 have C12:Can l.prog w K mg base "_law_same" 6 f12 _ ["found","due"] (jCN 4):=⟨jGN F12 T CWI (M a12) k12 (zb2 F12) 4,M a12,k12,(zb2 F12)⟩
 have C13:Can l.prog w K mg base "_law_upto" 2 f13 _ ["thing","least","most"] spUp:=⟨jPC F13 T C11,M a13,k13,(zb3 F13)⟩
 have C14:Can l.prog w K mg base "_law_lot_right" 3 f14 _ ["thing","wide"] (spB2 lotB):=⟨jPJ F14 T C13,M a14,k14,(zb2 F14)⟩
 have C15:Can l.prog w K mg base "_law_shop_due" 4 f15 _ ["box","deed"] spDue:=⟨jRN F15 T C13 C14,M a15,k15,(zb2 F15)⟩
 have C16:CanS l.prog w K mg base "_law_shop_word" 1 f16 _ ["e"] (jDP [(cM,9),(cT,7),(cW,8),(cP,4),(cH,0),(cD,2)]):=⟨jPB F16 T KD SIX,M a16,k16,(zb1 F16)⟩
 have TWW:=(⟨cn_put_thing,cn_put_piece,cn_turn_thing,cn_take_thing,cn_take_piece,cn_undo,C16,M x0,AB,by simp,by simp,by simp,by simp,by simp,by simp⟩:TW l.prog w K mg base [(cM,9),(cT,7),(cW,8),(cP,4),(cH,0),(cD,2)] clS cM cT cW cP cH cD cO f23 f24 f25 f26 f27 f29 f16 tb1 _ _ _ _ _ _ _)
 have C17:Can l.prog w K mg base "_law_shop_told" 6 f17 _ ["shop","deed"] (jFA clS tb1):=⟨jM5 F17 TWW,M a17,k17,(zb2 F17)⟩
 have C18:Can l.prog w K mg base "_law_odd_number" 2 f18 _ ["pot","most"] jGB:=⟨jPI F18 T C9,M a18,k18,(zb2 F18)⟩
 have C19:Can l.prog w K mg base "_law_deed" 3 f19 _ ["pot","box","most"] jIX:=⟨jPL F19 T C9 C10 C18,M a19,k19,(zb3 F19)⟩
 exact jRL F20 ⟨T,cmKS,cm_box,C7,C8,C9,C10,C19,C15,C17,C12⟩
def kcl (i:Nat):Addr:=[171,99,183,159,135,195,87,123,147,111].getD i 0
theorem kx5 (P:Params):∀ i x,jCE[i]?=some x->PySem.W.nsIn (kK P) mainGlobals x=some (some (.ref (kcl i)))
 | 0,_,rfl | 1,_,rfl | 2,_,rfl | 3,_,rfl | 4,_,rfl | 5,_,rfl | 6,_,rfl | 7,_,rfl | 8,_,rfl | 9,_,rfl=>by kernel_rfl
 | _+10,_,h=>by cases h
theorem kcCM (P:Params){h:Heap}(X:(kK P).In h):h.get? 111=some (excClassObj "TooMany" "TooMany" 111 110 [.ref 67] [.ref 67, .type "ValueError", .type "Exception", .type "BaseException", .type "object"] true [] [] false none none (some (.ref 102)) (none) (some (.str "TooMany" 303)) (some (.str "TooMany" 311)) (some (.bool true)) "ValueError.__new__"):=X 111 _ (by kernel_rfl)
def kesCM (P:Params):Array DictEntry:=#[kE P "__module__" 310 (.str "eachonce.errors" 242),kE P "__firstlineno__" 314 (.int 40 313),kE P "__static_attributes__" 315 (.ref 109),kE P "__doc__" 316 (.none)]
theorem kNCM (P:Params){h:Heap}(X:(kK P).In h):h.Ns 110 (nsFind (kesCM P)):=⟨⟨.type "dict",none, .dict (kesCM P) 2,#[]⟩,_,_,X 110 _ (by kernel_rfl),rfl,fun e he=>by
  unfold kesCM at he
  simp only [bu,am,ar,aX] at he
  rcases he with rfl | rfl | rfl | rfl <;> exact⟨_,_,rfl⟩,fun _=>rfl⟩
theorem kcBM (P:Params){h:Heap}(X:(kK P).In h):h.get? 67=some (excClassObj "OnceError" "OnceError" 67 66 [.type "ValueError"] [.type "ValueError", .type "Exception", .type "BaseException", .type "object"] true [] [.ref 87, .ref 99, .ref 111, .ref 123, .ref 135, .ref 147, .ref 159, .ref 171, .ref 183, .ref 195] false none none (some (.ref 58)) (none) (some (.str "OnceError" 244)) (some (.str "OnceError" 252)) (some (.bool true)) "ValueError.__new__"):=X 67 _ (by kernel_rfl)
def kesBM (P:Params):Array DictEntry:=#[kE P "__module__" 251 (.str "eachonce.errors" 242),kE P "__firstlineno__" 255 (.int 31 254),kE P "__static_attributes__" 256 (.ref 65),kE P "__weakref__" 258 (.ref 68),kE P "__doc__" 259 (.none)]
theorem kNBM (P:Params){h:Heap}(X:(kK P).In h):h.Ns 66 (nsFind (kesBM P)):=⟨⟨.type "dict",none, .dict (kesBM P) 3,#[]⟩,_,_,X 66 _ (by kernel_rfl),rfl,fun e he=>by
  unfold kesBM at he
  simp only [bu,am,ar,aX] at he
  rcases he with rfl | rfl | rfl | rfl | rfl <;> exact⟨_,_,rfl⟩,fun _=>rfl⟩
theorem kx2M (P:Params):ExcK (kK P) 111:=⟨"TooMany","TooMany",110,[.ref 67],[.ref 67, .type "ValueError", .type "Exception", .type "BaseException", .type "object"],true,[],[],false,none,none,some (.ref 102),none,some (.str "TooMany" 303),some (.str "TooMany" 311),some (.bool true),nsFind (kesCM P),by kernel_rfl,by kernel_rfl,fun h X=>⟨kcCM P X,kNCM P X, .own (kcBM P X) (kNBM P X) (by kernel_rfl) .base⟩⟩
theorem kx3M (P:Params):qR (kK P) 111 67:=⟨"TooMany","TooMany","OnceError","OnceError",110,66,[.ref 67],[.ref 67, .type "ValueError", .type "Exception", .type "BaseException", .type "object"],[.type "ValueError"],[.type "ValueError", .type "Exception", .type "BaseException", .type "object"],true,true,[],[],[],[.ref 87, .ref 99, .ref 111, .ref 123, .ref 135, .ref 147, .ref 159, .ref 171, .ref 183, .ref 195],false,false,none,none,none,none,some (.ref 102),none,some (.str "TooMany" 303),some (.str "TooMany" 311),some (.bool true),some (.ref 58),none,some (.str "OnceError" 244),some (.str "OnceError" 252),some (.bool true),"ValueError.__new__","ValueError.__new__",by kernel_rfl,by kernel_rfl,fun h X=>⟨kcCM P X,kcBM P X⟩⟩
theorem kx4M (P:Params):ExcIs (kK P) 111:=⟨by kernel_rfl,by kernel_rfl,by kernel_rfl,by kernel_rfl,by kernel_rfl,by kernel_rfl,by kernel_rfl,by kernel_rfl⟩
theorem kx6M (P:Params):∀ i,i<10->kitOne (kK P) (.ref 111) (.ref (kcl i))=some (decide (i=9))
 | 0,_ | 1,_ | 2,_ | 3,_ | 4,_ | 5,_ | 6,_ | 7,_ | 8,_ | 9,_=>by kernel_rfl
 | _+10,h=>by omega
theorem kx7M (P:Params):kitOne (kK P) (.ref 111) (.type "ValueError")=some true:=by kernel_rfl
theorem kcCT (P:Params){h:Heap}(X:(kK P).In h):h.get? 123=some (excClassObj "NoThing" "NoThing" 123 122 [.ref 67] [.ref 67, .type "ValueError", .type "Exception", .type "BaseException", .type "object"] true [] [] false none none (some (.ref 114)) (none) (some (.str "NoThing" 319)) (some (.str "NoThing" 327)) (some (.bool true)) "ValueError.__new__"):=X 123 _ (by kernel_rfl)
def kesCT (P:Params):Array DictEntry:=#[kE P "__module__" 326 (.str "eachonce.errors" 242),kE P "__firstlineno__" 330 (.int 42 329),kE P "__static_attributes__" 331 (.ref 121),kE P "__doc__" 332 (.none)]
theorem kNCT (P:Params){h:Heap}(X:(kK P).In h):h.Ns 122 (nsFind (kesCT P)):=⟨⟨.type "dict",none, .dict (kesCT P) 2,#[]⟩,_,_,X 122 _ (by kernel_rfl),rfl,fun e he=>by
  unfold kesCT at he
  simp only [bu,am,ar,aX] at he
  rcases he with rfl | rfl | rfl | rfl <;> exact⟨_,_,rfl⟩,fun _=>rfl⟩
theorem kcBT (P:Params){h:Heap}(X:(kK P).In h):h.get? 67=some (excClassObj "OnceError" "OnceError" 67 66 [.type "ValueError"] [.type "ValueError", .type "Exception", .type "BaseException", .type "object"] true [] [.ref 87, .ref 99, .ref 111, .ref 123, .ref 135, .ref 147, .ref 159, .ref 171, .ref 183, .ref 195] false none none (some (.ref 58)) (none) (some (.str "OnceError" 244)) (some (.str "OnceError" 252)) (some (.bool true)) "ValueError.__new__"):=X 67 _ (by kernel_rfl)
def kesBT (P:Params):Array DictEntry:=#[kE P "__module__" 251 (.str "eachonce.errors" 242),kE P "__firstlineno__" 255 (.int 31 254),kE P "__static_attributes__" 256 (.ref 65),kE P "__weakref__" 258 (.ref 68),kE P "__doc__" 259 (.none)]
theorem kNBT (P:Params){h:Heap}(X:(kK P).In h):h.Ns 66 (nsFind (kesBT P)):=⟨⟨.type "dict",none, .dict (kesBT P) 3,#[]⟩,_,_,X 66 _ (by kernel_rfl),rfl,fun e he=>by
  unfold kesBT at he
  simp only [bu,am,ar,aX] at he
  rcases he with rfl | rfl | rfl | rfl | rfl <;> exact⟨_,_,rfl⟩,fun _=>rfl⟩
theorem kx2T (P:Params):ExcK (kK P) 123:=⟨"NoThing","NoThing",122,[.ref 67],[.ref 67, .type "ValueError", .type "Exception", .type "BaseException", .type "object"],true,[],[],false,none,none,some (.ref 114),none,some (.str "NoThing" 319),some (.str "NoThing" 327),some (.bool true),nsFind (kesCT P),by kernel_rfl,by kernel_rfl,fun h X=>⟨kcCT P X,kNCT P X, .own (kcBT P X) (kNBT P X) (by kernel_rfl) .base⟩⟩
theorem kx3T (P:Params):qR (kK P) 123 67:=⟨"NoThing","NoThing","OnceError","OnceError",122,66,[.ref 67],[.ref 67, .type "ValueError", .type "Exception", .type "BaseException", .type "object"],[.type "ValueError"],[.type "ValueError", .type "Exception", .type "BaseException", .type "object"],true,true,[],[],[],[.ref 87, .ref 99, .ref 111, .ref 123, .ref 135, .ref 147, .ref 159, .ref 171, .ref 183, .ref 195],false,false,none,none,none,none,some (.ref 114),none,some (.str "NoThing" 319),some (.str "NoThing" 327),some (.bool true),some (.ref 58),none,some (.str "OnceError" 244),some (.str "OnceError" 252),some (.bool true),"ValueError.__new__","ValueError.__new__",by kernel_rfl,by kernel_rfl,fun h X=>⟨kcCT P X,kcBT P X⟩⟩
theorem kx4T (P:Params):ExcIs (kK P) 123:=⟨by kernel_rfl,by kernel_rfl,by kernel_rfl,by kernel_rfl,by kernel_rfl,by kernel_rfl,by kernel_rfl,by kernel_rfl⟩
theorem kx6T (P:Params):∀ i,i<10->kitOne (kK P) (.ref 123) (.ref (kcl i))=some (decide (i=7))
 | 0,_ | 1,_ | 2,_ | 3,_ | 4,_ | 5,_ | 6,_ | 7,_ | 8,_ | 9,_=>by kernel_rfl
 | _+10,h=>by omega
theorem kx7T (P:Params):kitOne (kK P) (.ref 123) (.type "ValueError")=some true:=by kernel_rfl
theorem kcCW (P:Params){h:Heap}(X:(kK P).In h):h.get? 147=some (excClassObj "NoWeight" "NoWeight" 147 146 [.ref 67] [.ref 67, .type "ValueError", .type "Exception", .type "BaseException", .type "object"] true [] [] false none none (some (.ref 138)) (none) (some (.str "NoWeight" 351)) (some (.str "NoWeight" 359)) (some (.bool true)) "ValueError.__new__"):=X 147 _ (by kernel_rfl)
def kesCW (P:Params):Array DictEntry:=#[kE P "__module__" 358 (.str "eachonce.errors" 242),kE P "__firstlineno__" 362 (.int 46 361),kE P "__static_attributes__" 363 (.ref 145),kE P "__doc__" 364 (.none)]
theorem kNCW (P:Params){h:Heap}(X:(kK P).In h):h.Ns 146 (nsFind (kesCW P)):=⟨⟨.type "dict",none, .dict (kesCW P) 2,#[]⟩,_,_,X 146 _ (by kernel_rfl),rfl,fun e he=>by
  unfold kesCW at he
  simp only [bu,am,ar,aX] at he
  rcases he with rfl | rfl | rfl | rfl <;> exact⟨_,_,rfl⟩,fun _=>rfl⟩
theorem kcBW (P:Params){h:Heap}(X:(kK P).In h):h.get? 67=some (excClassObj "OnceError" "OnceError" 67 66 [.type "ValueError"] [.type "ValueError", .type "Exception", .type "BaseException", .type "object"] true [] [.ref 87, .ref 99, .ref 111, .ref 123, .ref 135, .ref 147, .ref 159, .ref 171, .ref 183, .ref 195] false none none (some (.ref 58)) (none) (some (.str "OnceError" 244)) (some (.str "OnceError" 252)) (some (.bool true)) "ValueError.__new__"):=X 67 _ (by kernel_rfl)
def kesBW (P:Params):Array DictEntry:=#[kE P "__module__" 251 (.str "eachonce.errors" 242),kE P "__firstlineno__" 255 (.int 31 254),kE P "__static_attributes__" 256 (.ref 65),kE P "__weakref__" 258 (.ref 68),kE P "__doc__" 259 (.none)]
theorem kNBW (P:Params){h:Heap}(X:(kK P).In h):h.Ns 66 (nsFind (kesBW P)):=⟨⟨.type "dict",none, .dict (kesBW P) 3,#[]⟩,_,_,X 66 _ (by kernel_rfl),rfl,fun e he=>by
  unfold kesBW at he
  simp only [bu,am,ar,aX] at he
  rcases he with rfl | rfl | rfl | rfl | rfl <;> exact⟨_,_,rfl⟩,fun _=>rfl⟩
theorem kx2W (P:Params):ExcK (kK P) 147:=⟨"NoWeight","NoWeight",146,[.ref 67],[.ref 67, .type "ValueError", .type "Exception", .type "BaseException", .type "object"],true,[],[],false,none,none,some (.ref 138),none,some (.str "NoWeight" 351),some (.str "NoWeight" 359),some (.bool true),nsFind (kesCW P),by kernel_rfl,by kernel_rfl,fun h X=>⟨kcCW P X,kNCW P X, .own (kcBW P X) (kNBW P X) (by kernel_rfl) .base⟩⟩
theorem kx3W (P:Params):qR (kK P) 147 67:=⟨"NoWeight","NoWeight","OnceError","OnceError",146,66,[.ref 67],[.ref 67, .type "ValueError", .type "Exception", .type "BaseException", .type "object"],[.type "ValueError"],[.type "ValueError", .type "Exception", .type "BaseException", .type "object"],true,true,[],[],[],[.ref 87, .ref 99, .ref 111, .ref 123, .ref 135, .ref 147, .ref 159, .ref 171, .ref 183, .ref 195],false,false,none,none,none,none,some (.ref 138),none,some (.str "NoWeight" 351),some (.str "NoWeight" 359),some (.bool true),some (.ref 58),none,some (.str "OnceError" 244),some (.str "OnceError" 252),some (.bool true),"ValueError.__new__","ValueError.__new__",by kernel_rfl,by kernel_rfl,fun h X=>⟨kcCW P X,kcBW P X⟩⟩
theorem kx4W (P:Params):ExcIs (kK P) 147:=⟨by kernel_rfl,by kernel_rfl,by kernel_rfl,by kernel_rfl,by kernel_rfl,by kernel_rfl,by kernel_rfl,by kernel_rfl⟩
theorem kx6W (P:Params):∀ i,i<10->kitOne (kK P) (.ref 147) (.ref (kcl i))=some (decide (i=8))
 | 0,_ | 1,_ | 2,_ | 3,_ | 4,_ | 5,_ | 6,_ | 7,_ | 8,_ | 9,_=>by kernel_rfl
 | _+10,h=>by omega
theorem kx7W (P:Params):kitOne (kK P) (.ref 147) (.type "ValueError")=some true:=by kernel_rfl
theorem kcCP (P:Params){h:Heap}(X:(kK P).In h):h.get? 135=some (excClassObj "NoPiece" "NoPiece" 135 134 [.ref 67] [.ref 67, .type "ValueError", .type "Exception", .type "BaseException", .type "object"] true [] [] false none none (some (.ref 126)) (none) (some (.str "NoPiece" 335)) (some (.str "NoPiece" 343)) (some (.bool true)) "ValueError.__new__"):=X 135 _ (by kernel_rfl)
def kesCP (P:Params):Array DictEntry:=#[kE P "__module__" 342 (.str "eachonce.errors" 242),kE P "__firstlineno__" 346 (.int 44 345),kE P "__static_attributes__" 347 (.ref 133),kE P "__doc__" 348 (.none)]
theorem kNCP (P:Params){h:Heap}(X:(kK P).In h):h.Ns 134 (nsFind (kesCP P)):=⟨⟨.type "dict",none, .dict (kesCP P) 2,#[]⟩,_,_,X 134 _ (by kernel_rfl),rfl,fun e he=>by
  unfold kesCP at he
  simp only [bu,am,ar,aX] at he
  rcases he with rfl | rfl | rfl | rfl <;> exact⟨_,_,rfl⟩,fun _=>rfl⟩
theorem kcBP (P:Params){h:Heap}(X:(kK P).In h):h.get? 67=some (excClassObj "OnceError" "OnceError" 67 66 [.type "ValueError"] [.type "ValueError", .type "Exception", .type "BaseException", .type "object"] true [] [.ref 87, .ref 99, .ref 111, .ref 123, .ref 135, .ref 147, .ref 159, .ref 171, .ref 183, .ref 195] false none none (some (.ref 58)) (none) (some (.str "OnceError" 244)) (some (.str "OnceError" 252)) (some (.bool true)) "ValueError.__new__"):=X 67 _ (by kernel_rfl)
def kesBP (P:Params):Array DictEntry:=#[kE P "__module__" 251 (.str "eachonce.errors" 242),kE P "__firstlineno__" 255 (.int 31 254),kE P "__static_attributes__" 256 (.ref 65),kE P "__weakref__" 258 (.ref 68),kE P "__doc__" 259 (.none)]
theorem kNBP (P:Params){h:Heap}(X:(kK P).In h):h.Ns 66 (nsFind (kesBP P)):=⟨⟨.type "dict",none, .dict (kesBP P) 3,#[]⟩,_,_,X 66 _ (by kernel_rfl),rfl,fun e he=>by
  unfold kesBP at he
  simp only [bu,am,ar,aX] at he
  rcases he with rfl | rfl | rfl | rfl | rfl <;> exact⟨_,_,rfl⟩,fun _=>rfl⟩
theorem kx2P (P:Params):ExcK (kK P) 135:=⟨"NoPiece","NoPiece",134,[.ref 67],[.ref 67, .type "ValueError", .type "Exception", .type "BaseException", .type "object"],true,[],[],false,none,none,some (.ref 126),none,some (.str "NoPiece" 335),some (.str "NoPiece" 343),some (.bool true),nsFind (kesCP P),by kernel_rfl,by kernel_rfl,fun h X=>⟨kcCP P X,kNCP P X, .own (kcBP P X) (kNBP P X) (by kernel_rfl) .base⟩⟩
theorem kx3P (P:Params):qR (kK P) 135 67:=⟨"NoPiece","NoPiece","OnceError","OnceError",134,66,[.ref 67],[.ref 67, .type "ValueError", .type "Exception", .type "BaseException", .type "object"],[.type "ValueError"],[.type "ValueError", .type "Exception", .type "BaseException", .type "object"],true,true,[],[],[],[.ref 87, .ref 99, .ref 111, .ref 123, .ref 135, .ref 147, .ref 159, .ref 171, .ref 183, .ref 195],false,false,none,none,none,none,some (.ref 126),none,some (.str "NoPiece" 335),some (.str "NoPiece" 343),some (.bool true),some (.ref 58),none,some (.str "OnceError" 244),some (.str "OnceError" 252),some (.bool true),"ValueError.__new__","ValueError.__new__",by kernel_rfl,by kernel_rfl,fun h X=>⟨kcCP P X,kcBP P X⟩⟩
theorem kx4P (P:Params):ExcIs (kK P) 135:=⟨by kernel_rfl,by kernel_rfl,by kernel_rfl,by kernel_rfl,by kernel_rfl,by kernel_rfl,by kernel_rfl,by kernel_rfl⟩
theorem kx6P (P:Params):∀ i,i<10->kitOne (kK P) (.ref 135) (.ref (kcl i))=some (decide (i=4))
 | 0,_ | 1,_ | 2,_ | 3,_ | 4,_ | 5,_ | 6,_ | 7,_ | 8,_ | 9,_=>by kernel_rfl
 | _+10,h=>by omega
theorem kx7P (P:Params):kitOne (kK P) (.ref 135) (.type "ValueError")=some true:=by kernel_rfl
theorem kcCH (P:Params){h:Heap}(X:(kK P).In h):h.get? 171=some (excClassObj "Held" "Held" 171 170 [.ref 67] [.ref 67, .type "ValueError", .type "Exception", .type "BaseException", .type "object"] true [] [] false none none (some (.ref 162)) (none) (some (.str "Held" 383)) (some (.str "Held" 391)) (some (.bool true)) "ValueError.__new__"):=X 171 _ (by kernel_rfl)
def kesCH (P:Params):Array DictEntry:=#[kE P "__module__" 390 (.str "eachonce.errors" 242),kE P "__firstlineno__" 394 (.int 50 393),kE P "__static_attributes__" 395 (.ref 169),kE P "__doc__" 396 (.none)]
theorem kNCH (P:Params){h:Heap}(X:(kK P).In h):h.Ns 170 (nsFind (kesCH P)):=⟨⟨.type "dict",none, .dict (kesCH P) 2,#[]⟩,_,_,X 170 _ (by kernel_rfl),rfl,fun e he=>by
  unfold kesCH at he
  simp only [bu,am,ar,aX] at he
  rcases he with rfl | rfl | rfl | rfl <;> exact⟨_,_,rfl⟩,fun _=>rfl⟩
theorem kcBH (P:Params){h:Heap}(X:(kK P).In h):h.get? 67=some (excClassObj "OnceError" "OnceError" 67 66 [.type "ValueError"] [.type "ValueError", .type "Exception", .type "BaseException", .type "object"] true [] [.ref 87, .ref 99, .ref 111, .ref 123, .ref 135, .ref 147, .ref 159, .ref 171, .ref 183, .ref 195] false none none (some (.ref 58)) (none) (some (.str "OnceError" 244)) (some (.str "OnceError" 252)) (some (.bool true)) "ValueError.__new__"):=X 67 _ (by kernel_rfl)
def kesBH (P:Params):Array DictEntry:=#[kE P "__module__" 251 (.str "eachonce.errors" 242),kE P "__firstlineno__" 255 (.int 31 254),kE P "__static_attributes__" 256 (.ref 65),kE P "__weakref__" 258 (.ref 68),kE P "__doc__" 259 (.none)]
theorem kNBH (P:Params){h:Heap}(X:(kK P).In h):h.Ns 66 (nsFind (kesBH P)):=⟨⟨.type "dict",none, .dict (kesBH P) 3,#[]⟩,_,_,X 66 _ (by kernel_rfl),rfl,fun e he=>by
  unfold kesBH at he
  simp only [bu,am,ar,aX] at he
  rcases he with rfl | rfl | rfl | rfl | rfl <;> exact⟨_,_,rfl⟩,fun _=>rfl⟩
theorem kx2H (P:Params):ExcK (kK P) 171:=⟨"Held","Held",170,[.ref 67],[.ref 67, .type "ValueError", .type "Exception", .type "BaseException", .type "object"],true,[],[],false,none,none,some (.ref 162),none,some (.str "Held" 383),some (.str "Held" 391),some (.bool true),nsFind (kesCH P),by kernel_rfl,by kernel_rfl,fun h X=>⟨kcCH P X,kNCH P X, .own (kcBH P X) (kNBH P X) (by kernel_rfl) .base⟩⟩
theorem kx3H (P:Params):qR (kK P) 171 67:=⟨"Held","Held","OnceError","OnceError",170,66,[.ref 67],[.ref 67, .type "ValueError", .type "Exception", .type "BaseException", .type "object"],[.type "ValueError"],[.type "ValueError", .type "Exception", .type "BaseException", .type "object"],true,true,[],[],[],[.ref 87, .ref 99, .ref 111, .ref 123, .ref 135, .ref 147, .ref 159, .ref 171, .ref 183, .ref 195],false,false,none,none,none,none,some (.ref 162),none,some (.str "Held" 383),some (.str "Held" 391),some (.bool true),some (.ref 58),none,some (.str "OnceError" 244),some (.str "OnceError" 252),some (.bool true),"ValueError.__new__","ValueError.__new__",by kernel_rfl,by kernel_rfl,fun h X=>⟨kcCH P X,kcBH P X⟩⟩
theorem kx4H (P:Params):ExcIs (kK P) 171:=⟨by kernel_rfl,by kernel_rfl,by kernel_rfl,by kernel_rfl,by kernel_rfl,by kernel_rfl,by kernel_rfl,by kernel_rfl⟩
theorem kx6H (P:Params):∀ i,i<10->kitOne (kK P) (.ref 171) (.ref (kcl i))=some (decide (i=0))
 | 0,_ | 1,_ | 2,_ | 3,_ | 4,_ | 5,_ | 6,_ | 7,_ | 8,_ | 9,_=>by kernel_rfl
 | _+10,h=>by omega
theorem kx7H (P:Params):kitOne (kK P) (.ref 171) (.type "ValueError")=some true:=by kernel_rfl
theorem kcCD (P:Params){h:Heap}(X:(kK P).In h):h.get? 183=some (excClassObj "NoDeed" "NoDeed" 183 182 [.ref 67] [.ref 67, .type "ValueError", .type "Exception", .type "BaseException", .type "object"] true [] [] false none none (some (.ref 174)) (none) (some (.str "NoDeed" 399)) (some (.str "NoDeed" 407)) (some (.bool true)) "ValueError.__new__"):=X 183 _ (by kernel_rfl)
def kesCD (P:Params):Array DictEntry:=#[kE P "__module__" 406 (.str "eachonce.errors" 242),kE P "__firstlineno__" 410 (.int 52 409),kE P "__static_attributes__" 411 (.ref 181),kE P "__doc__" 412 (.none)]
theorem kNCD (P:Params){h:Heap}(X:(kK P).In h):h.Ns 182 (nsFind (kesCD P)):=⟨⟨.type "dict",none, .dict (kesCD P) 2,#[]⟩,_,_,X 182 _ (by kernel_rfl),rfl,fun e he=>by
  unfold kesCD at he
  simp only [bu,am,ar,aX] at he
  rcases he with rfl | rfl | rfl | rfl <;> exact⟨_,_,rfl⟩,fun _=>rfl⟩
theorem kcBD (P:Params){h:Heap}(X:(kK P).In h):h.get? 67=some (excClassObj "OnceError" "OnceError" 67 66 [.type "ValueError"] [.type "ValueError", .type "Exception", .type "BaseException", .type "object"] true [] [.ref 87, .ref 99, .ref 111, .ref 123, .ref 135, .ref 147, .ref 159, .ref 171, .ref 183, .ref 195] false none none (some (.ref 58)) (none) (some (.str "OnceError" 244)) (some (.str "OnceError" 252)) (some (.bool true)) "ValueError.__new__"):=X 67 _ (by kernel_rfl)
def kesBD (P:Params):Array DictEntry:=#[kE P "__module__" 251 (.str "eachonce.errors" 242),kE P "__firstlineno__" 255 (.int 31 254),kE P "__static_attributes__" 256 (.ref 65),kE P "__weakref__" 258 (.ref 68),kE P "__doc__" 259 (.none)]
theorem kNBD (P:Params){h:Heap}(X:(kK P).In h):h.Ns 66 (nsFind (kesBD P)):=⟨⟨.type "dict",none, .dict (kesBD P) 3,#[]⟩,_,_,X 66 _ (by kernel_rfl),rfl,fun e he=>by
  unfold kesBD at he
  simp only [bu,am,ar,aX] at he
  rcases he with rfl | rfl | rfl | rfl | rfl <;> exact⟨_,_,rfl⟩,fun _=>rfl⟩
theorem kx2D (P:Params):ExcK (kK P) 183:=⟨"NoDeed","NoDeed",182,[.ref 67],[.ref 67, .type "ValueError", .type "Exception", .type "BaseException", .type "object"],true,[],[],false,none,none,some (.ref 174),none,some (.str "NoDeed" 399),some (.str "NoDeed" 407),some (.bool true),nsFind (kesCD P),by kernel_rfl,by kernel_rfl,fun h X=>⟨kcCD P X,kNCD P X, .own (kcBD P X) (kNBD P X) (by kernel_rfl) .base⟩⟩
theorem kx3D (P:Params):qR (kK P) 183 67:=⟨"NoDeed","NoDeed","OnceError","OnceError",182,66,[.ref 67],[.ref 67, .type "ValueError", .type "Exception", .type "BaseException", .type "object"],[.type "ValueError"],[.type "ValueError", .type "Exception", .type "BaseException", .type "object"],true,true,[],[],[],[.ref 87, .ref 99, .ref 111, .ref 123, .ref 135, .ref 147, .ref 159, .ref 171, .ref 183, .ref 195],false,false,none,none,none,none,some (.ref 174),none,some (.str "NoDeed" 399),some (.str "NoDeed" 407),some (.bool true),some (.ref 58),none,some (.str "OnceError" 244),some (.str "OnceError" 252),some (.bool true),"ValueError.__new__","ValueError.__new__",by kernel_rfl,by kernel_rfl,fun h X=>⟨kcCD P X,kcBD P X⟩⟩
theorem kx4D (P:Params):ExcIs (kK P) 183:=⟨by kernel_rfl,by kernel_rfl,by kernel_rfl,by kernel_rfl,by kernel_rfl,by kernel_rfl,by kernel_rfl,by kernel_rfl⟩
theorem kx6D (P:Params):∀ i,i<10->kitOne (kK P) (.ref 183) (.ref (kcl i))=some (decide (i=2))
 | 0,_ | 1,_ | 2,_ | 3,_ | 4,_ | 5,_ | 6,_ | 7,_ | 8,_ | 9,_=>by kernel_rfl
 | _+10,h=>by omega
theorem kx7D (P:Params):kitOne (kK P) (.ref 183) (.type "ValueError")=some true:=by kernel_rfl
theorem walk {l:PySem.W.OpenLaw}{q:Program}{loose:List Str}{XP:(Str->Option Value)->Heap->Prop}{YP:World->Heap->Prop}{d:DefRec}{K:Params->W.Frag}(hn:l.most=some 63)(hdf:d.params.defaults=[]){tb1:Addr}{cc1:Addr}
  (hY:∀ (w:World) (h:Heap),YP w h->(K w.params).In h/\∀ T∈[tb1],h.get? T=some (tabObj #[])) (hcd:∀ w:World,codeHdIn (K w.params) cc1 tb1=true) (hKT:∀ w:World,∀ T∈[tb1],(K w.params).lookup T=none) (hnd:([tb1]:List Addr).Nodup)
  (F:∀ (w:World) (mg:Str->Option Value) (fa:Addr) (h:Heap),(K w.params).In h->h.Ns mainGlobals mg->mg d.name=some (.ref fa)->
   ∃ fd:FuncData,(∀ (s:Shared) (u:Value),BindsTo s fd ⟨[u],[]⟩ [("script",u)])/\∀ base:Heap,(K w.params).In base->base.Ns mainGlobals mg->FnOk l.prog w (K w.params) mg base CX0 7 fa fd ["script"] (spLaw (K w.params) tb1)):
  PySem.W.WalkO q loose XP YP l.row.toRowW d [] (fun f vs=>PySem.call f vs):=
 L2.walk_ofTs (cts:=[(cc1,tb1)]) (n:=63) (k:=7) (x:= "script") (CX:=fun _=>CX0) (sp:=fun w=>spLaw (K w.params) tb1) hn (by decide) hdf ⟨rfl,by decide,by decide⟩ hY (fun w p hp=>by
  obtain _h0:=hcd w
  simp only [am,ar,aX] at hp
  rcases hp with rfl <;> assumption) hKT F (fun _ H a ns hl hT hS=>⟨a,ns,rfl,hS,hl, .inl (hT _ aJ),fun _=>rfl⟩) fun _ _ _ _ _ z=>z
end Eo
open PySem PySem.W PyProof.Rows
set_option maxRecDepth 100000 in
set_option maxHeartbeats 0 in
theorem PySem.Challenge.cw_eachonce_k92_shops_at_their_bounds_holds : PySem.Challenge.rw_eachonce_k92_shops_at_their_bounds.Holds := by
 w_on
 o_law
 o_head Eo.kH
 case hw=>w_witness2
 refine Eo.walk (l:=PySem.Challenge.rw_eachonce_k92_shops_at_their_bounds) (K:=Eo.kK) rfl rfl (tb1:=54) (cc1:=56) (fun w h Y=>⟨PySem.W.km_in_of Y,PySem.W.km_tabs_of Y⟩) (fun w=>by kernel_rfl) (fun w T hm=>by
   simp only [am,ar,aX] at hm
   rcases hm with rfl <;> kernel_rfl) (by decide) ?F
 case F=>
  intro w mg fa h KX G hmg
  k_fill
  refine' Eo.all_mk KX G hmg _ _ _ _ _ _ _ _ _ _ _ _ _ _ _ _ _ _ _ _ _ _ _ _ _ _ _ _ _ _ _ _ _ _ _ _ _ _ _ _ _ _ _ _ _ _ _ _ _ _ _ _ _ _ _ _ _ _ _ _ _ _ _ _ _ _ _ _ _ _ _ _ _ _ _ _ _ _ _ _ _ _ _ _ _ _ _ _ _ _ _ _ _ _ _ _ _ _ _ _ _ _ _ (Eo.kx5 _) _ (Eo.kx2M _) (Eo.kx3M _) (Eo.kx4M _) (Eo.kx6M _) (Eo.kx7M _) _ (Eo.kx2T _) (Eo.kx3T _) (Eo.kx4T _) (Eo.kx6T _) (Eo.kx7T _) _ (Eo.kx2W _) (Eo.kx3W _) (Eo.kx4W _) (Eo.kx6W _) (Eo.kx7W _) _ (Eo.kx2P _) (Eo.kx3P _) (Eo.kx4P _) (Eo.kx6P _) (Eo.kx7P _) _ (Eo.kx2H _) (Eo.kx3H _) (Eo.kx4H _) (Eo.kx6H _) (Eo.kx7H _) _ (Eo.kx2D _) (Eo.kx3D _) (Eo.kx4D _) (Eo.kx6D _) (Eo.kx7D _) (tb1:=54) rfl (by kernel_rfl) (bmA:=4) (by kernel_rfl) (by kernel_rfl) (by decide) (by decide) (clS:=342) (by kernel_rfl) (f21:=259) _ _ (by kernel_rfl) (by kernel_rfl) (by kernel_rfl) (f22:=266) _ _ (by kernel_rfl) (by kernel_rfl) (by kernel_rfl) (f23:=273) _ _ (by kernel_rfl) (by kernel_rfl) (by kernel_rfl) (f24:=280) _ _ (by kernel_rfl) (by kernel_rfl) (by kernel_rfl) (f25:=285) _ _ (by kernel_rfl) (by kernel_rfl) (by kernel_rfl) (f26:=290) _ _ (by kernel_rfl) (by kernel_rfl) (by kernel_rfl) (f27:=297) _ _ (by kernel_rfl) (by kernel_rfl) (by kernel_rfl) (f28:=304) _ _ (by kernel_rfl) (by kernel_rfl) (by kernel_rfl) (f29:=311) _ _ (by kernel_rfl) (by kernel_rfl) (by kernel_rfl) (f30:=318) _ _ (by kernel_rfl) (by kernel_rfl) (by kernel_rfl) ⟨⟨by kernel_rfl,by kernel_rfl,by kernel_rfl,by kernel_rfl⟩,by unfold L2.NoAttr; kernel_rfl,by unfold L2.NoAttr; kernel_rfl⟩ ⟨by kernel_rfl,by kernel_rfl,by kernel_rfl,by kernel_rfl⟩
  all_goals ((try delta Eo.zN); (try delta Eo.zr); (try delta Eo.zl); (try delta Eo.zc); (try delta Eo.zk); try k_is)
end
