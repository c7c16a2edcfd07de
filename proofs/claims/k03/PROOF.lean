import PyProof.Rows.All
import Open.Line
import Open.Pieces
import KE.KDictList
import KE.KDictOf
import KE.KFromBytes
import KE.KIntText
import KE.KIsAll
import KE.KItem
import KE.KLam
import KE.KNestM
import PySem.Challenge.RW_eachonce_k03_texts_of_no_box
noncomputable section
namespace PySem.W.Fast
theorem tw1007626937464097853:True:=⟨⟩
theorem tw1012518729820078781:True:=⟨⟩
theorem tw10141046352206954532:True:=⟨⟩
theorem tw10173510044885743070:True:=⟨⟩
theorem tw10218816039371663132:True:=⟨⟩
theorem tw10253843763699179003:True:=⟨⟩
theorem tw10321525710230271188:True:=⟨⟩
theorem tw10358594923238209477:True:=⟨⟩
theorem tw10366245972155940832:True:=⟨⟩
theorem tw10402473343561022090:True:=⟨⟩
theorem tw10403629190391765135:True:=⟨⟩
theorem tw10439207118858465753:True:=⟨⟩
theorem tw10441714798964502017:True:=⟨⟩
theorem tw10484655914094640568:True:=⟨⟩
theorem tw10553684003824834009:True:=⟨⟩
theorem tw10612666660463474189:True:=⟨⟩
theorem tw10711798760967642601:True:=⟨⟩
theorem tw10758802138146406274:True:=⟨⟩
theorem tw10783153008113288706:True:=⟨⟩
theorem tw10787287851542864325:True:=⟨⟩
theorem tw10795873620738846286:True:=⟨⟩
theorem tw1080750304513218894:True:=⟨⟩
theorem tw10842889776501904371:True:=⟨⟩
theorem tw10941498557627434216:True:=⟨⟩
theorem tw10955207803923088284:True:=⟨⟩
theorem tw11065194770609784418:True:=⟨⟩
theorem tw11091010798013364242:True:=⟨⟩
theorem tw1111196677724281806:True:=⟨⟩
theorem tw11171531099368754312:True:=⟨⟩
theorem tw11193925463231931632:True:=⟨⟩
theorem tw11264011843773518982:True:=⟨⟩
theorem tw11271762467497549561:True:=⟨⟩
theorem tw11282057019858442805:True:=⟨⟩
theorem tw1139865720148421107:True:=⟨⟩
theorem tw11526347581838890457:True:=⟨⟩
theorem tw1153561097256422073:True:=⟨⟩
theorem tw11537931547368181372:True:=⟨⟩
theorem tw11604084028342449494:True:=⟨⟩
theorem tw11654251887540173292:True:=⟨⟩
theorem tw11662689009866643620:True:=⟨⟩
theorem tw11665291269350334971:True:=⟨⟩
theorem tw11666971219116760650:True:=⟨⟩
theorem tw11675832257002817000:True:=⟨⟩
theorem tw11783643138098719128:True:=⟨⟩
theorem tw11808294288173259395:True:=⟨⟩
theorem tw11816246095846577232:True:=⟨⟩
theorem tw11887212584204730222:True:=⟨⟩
theorem tw11898727544968682088:True:=⟨⟩
theorem tw11924014384142306641:True:=⟨⟩
theorem tw1193365428543323449:True:=⟨⟩
theorem tw11955163401049074835:True:=⟨⟩
theorem tw12031726836336303135:True:=⟨⟩
theorem tw12073792737450855276:True:=⟨⟩
theorem tw12074291764942361255:True:=⟨⟩
theorem tw12142726281605043917:True:=⟨⟩
theorem tw12172312355539815377:True:=⟨⟩
theorem tw12179165260134832097:True:=⟨⟩
theorem tw12189170350288016125:True:=⟨⟩
theorem tw12206744301051712294:True:=⟨⟩
theorem tw12218388299560626879:True:=⟨⟩
theorem tw12227848502602044530:True:=⟨⟩
theorem tw1234998609977517864:True:=⟨⟩
theorem tw12381428279745902563:True:=⟨⟩
theorem tw12391110467454919948:True:=⟨⟩
theorem tw1244640895094951782:True:=⟨⟩
theorem tw1245932373905736620:True:=⟨⟩
theorem tw12485799378467053683:True:=⟨⟩
theorem tw1250644204884194425:True:=⟨⟩
theorem tw12541527378546766981:True:=⟨⟩
theorem tw12545963142128001652:True:=⟨⟩
theorem tw12552371635880082608:True:=⟨⟩
theorem tw12651552774213652739:True:=⟨⟩
theorem tw1273737416779634933:True:=⟨⟩
theorem tw12751628982603484392:True:=⟨⟩
theorem tw1287283360966438064:True:=⟨⟩
theorem tw129784327086501264:True:=⟨⟩
theorem tw13092268335035383538:True:=⟨⟩
theorem tw1309722454113777739:True:=⟨⟩
theorem tw13250579879653536694:True:=⟨⟩
theorem tw13333032629249939315:True:=⟨⟩
theorem tw13343664717077011098:True:=⟨⟩
theorem tw1338628192101155021:True:=⟨⟩
theorem tw13469007315973365376:True:=⟨⟩
theorem tw13525060412233909738:True:=⟨⟩
theorem tw13557632202963639929:True:=⟨⟩
theorem tw13567136778525722708:True:=⟨⟩
theorem tw13598025678756899502:True:=⟨⟩
theorem tw13636875643733620295:True:=⟨⟩
theorem tw13663799009164907910:True:=⟨⟩
theorem tw13684050564021546385:True:=⟨⟩
theorem tw13690834628709498673:True:=⟨⟩
theorem tw1369204006659553759:True:=⟨⟩
theorem tw13838024696722810176:True:=⟨⟩
theorem tw13846273166848377709:True:=⟨⟩
theorem tw13870630244707831056:True:=⟨⟩
theorem tw13870788896652379524:True:=⟨⟩
theorem tw13920227603408590825:True:=⟨⟩
theorem tw13927020915596927655:True:=⟨⟩
theorem tw13962632977083097403:True:=⟨⟩
theorem tw1397680114905516502:True:=⟨⟩
theorem tw13979290874592393924:True:=⟨⟩
theorem tw14038347868730103139:True:=⟨⟩
theorem tw14056541747274685591:True:=⟨⟩
theorem tw14079354951547010501:True:=⟨⟩
theorem tw14096151213253104773:True:=⟨⟩
theorem tw14183338302243428479:True:=⟨⟩
theorem tw1424629413829398881:True:=⟨⟩
theorem tw1432611656696300036:True:=⟨⟩
theorem tw14335391286726831410:True:=⟨⟩
theorem tw14354126921998239696:True:=⟨⟩
theorem tw14400854277540336692:True:=⟨⟩
theorem tw1440188782534173795:True:=⟨⟩
theorem tw14485066857799841628:True:=⟨⟩
theorem tw14528282262974882756:True:=⟨⟩
theorem tw14528526881987126816:True:=⟨⟩
theorem tw14554839862306155351:True:=⟨⟩
theorem tw14570674181555726792:True:=⟨⟩
theorem tw14629740442015261561:True:=⟨⟩
theorem tw1477705681574849634:True:=⟨⟩
theorem tw14781819193682440257:True:=⟨⟩
theorem tw14808693092938464784:True:=⟨⟩
theorem tw1481502108797982531:True:=⟨⟩
theorem tw14847874116904246547:True:=⟨⟩
theorem tw14891580203479295133:True:=⟨⟩
theorem tw14905260223359950021:True:=⟨⟩
theorem tw14971129612498069223:True:=⟨⟩
theorem tw14984247607756224945:True:=⟨⟩
theorem tw1502323742643206659:True:=⟨⟩
theorem tw15032521092689226971:True:=⟨⟩
theorem tw1510652403114566757:True:=⟨⟩
theorem tw15134771569349242351:True:=⟨⟩
theorem tw15134819328695079857:True:=⟨⟩
theorem tw15234186184088400074:True:=⟨⟩
theorem tw15249680543191725531:True:=⟨⟩
theorem tw15334047879980545030:True:=⟨⟩
theorem tw15372488324711517354:True:=⟨⟩
theorem tw1544603015649828627:True:=⟨⟩
theorem tw15496618796955312916:True:=⟨⟩
theorem tw15570609147882166261:True:=⟨⟩
theorem tw15615635477627125771:True:=⟨⟩
theorem tw15737030189570062798:True:=⟨⟩
theorem tw15759660616061607879:True:=⟨⟩
theorem tw15771253325334308661:True:=⟨⟩
theorem tw1579172162129599646:True:=⟨⟩
theorem tw15822404182086278508:True:=⟨⟩
theorem tw15914216666778884366:True:=⟨⟩
theorem tw15958381631167832602:True:=⟨⟩
theorem tw15970932678495928441:True:=⟨⟩
theorem tw1599776422858026597:True:=⟨⟩
theorem tw16010431892959415379:True:=⟨⟩
theorem tw16010966954111251099:True:=⟨⟩
theorem tw1611601097751319289:True:=⟨⟩
theorem tw16133351340331395512:True:=⟨⟩
theorem tw16233576938213865581:True:=⟨⟩
theorem tw16251139104482737709:True:=⟨⟩
theorem tw16277833122283117220:True:=⟨⟩
theorem tw16289098861871677189:True:=⟨⟩
theorem tw1635161667179663187:True:=⟨⟩
theorem tw16396187962891992104:True:=⟨⟩
theorem tw16402915358816649819:True:=⟨⟩
theorem tw16420024514930843712:True:=⟨⟩
theorem tw16438079302201358873:True:=⟨⟩
theorem tw16641454852123586205:True:=⟨⟩
theorem tw16678054931224802104:True:=⟨⟩
theorem tw16683774709158471192:True:=⟨⟩
theorem tw16722090571786304913:True:=⟨⟩
theorem tw1680099657308146597:True:=⟨⟩
theorem tw16875613677864677892:True:=⟨⟩
theorem tw171915555263154618:True:=⟨⟩
theorem tw17215906601864843901:True:=⟨⟩
theorem tw1737517246071978158:True:=⟨⟩
theorem tw17398904974130460596:True:=⟨⟩
theorem tw17418805197949196783:True:=⟨⟩
theorem tw17420777657739602615:True:=⟨⟩
theorem tw17441813057788089424:True:=⟨⟩
theorem tw17450972747822578669:True:=⟨⟩
theorem tw1747625362034639763:True:=⟨⟩
theorem tw17485437684444657782:True:=⟨⟩
theorem tw174927520973813110:True:=⟨⟩
theorem tw17515702696362336906:True:=⟨⟩
theorem tw17581066418994241211:True:=⟨⟩
theorem tw1775369871995002158:True:=⟨⟩
theorem tw17918275792474660103:True:=⟨⟩
theorem tw17976221365970751675:True:=⟨⟩
theorem tw18005151494780108037:True:=⟨⟩
theorem tw18045140771692862522:True:=⟨⟩
theorem tw18051663774233570723:True:=⟨⟩
theorem tw18129893984473236512:True:=⟨⟩
theorem tw18163602493802822826:True:=⟨⟩
theorem tw18185402491421491980:True:=⟨⟩
theorem tw18196644430015442583:True:=⟨⟩
theorem tw18196728316080687978:True:=⟨⟩
theorem tw181969022069210505:True:=⟨⟩
theorem tw18285970782991195963:True:=⟨⟩
theorem tw18364911262992445367:True:=⟨⟩
theorem tw1911077095247651003:True:=⟨⟩
theorem tw2059318401726729776:True:=⟨⟩
theorem tw2236667149228179968:True:=⟨⟩
theorem tw2239109327710924437:True:=⟨⟩
theorem tw2247856823931536379:True:=⟨⟩
theorem tw2333599359620465312:True:=⟨⟩
theorem tw2393533494797806456:True:=⟨⟩
theorem tw2395081790549797651:True:=⟨⟩
theorem tw2413523980394198469:True:=⟨⟩
theorem tw2458592844723357021:True:=⟨⟩
theorem tw2477070691766660304:True:=⟨⟩
theorem tw2483099832437295443:True:=⟨⟩
theorem tw2550648923734408147:True:=⟨⟩
theorem tw2577499722950013052:True:=⟨⟩
theorem tw2610959764702058696:True:=⟨⟩
theorem tw2710049325712981113:True:=⟨⟩
theorem tw2735487513059077785:True:=⟨⟩
theorem tw2754674833337085944:True:=⟨⟩
theorem tw2866241978267733634:True:=⟨⟩
theorem tw2909628771908722460:True:=⟨⟩
theorem tw2938293362688717210:True:=⟨⟩
theorem tw2948801560043068598:True:=⟨⟩
theorem tw2983025902832389630:True:=⟨⟩
theorem tw29977267234462309:True:=⟨⟩
theorem tw3044247203648966373:True:=⟨⟩
theorem tw3058107683256200598:True:=⟨⟩
theorem tw3079570457929134364:True:=⟨⟩
theorem tw3103009101496793159:True:=⟨⟩
theorem tw3106131403887924408:True:=⟨⟩
theorem tw3163333775983341886:True:=⟨⟩
theorem tw3165586164345195230:True:=⟨⟩
theorem tw3173559822800328013:True:=⟨⟩
theorem tw3219702562748012561:True:=⟨⟩
theorem tw3235823655893826583:True:=⟨⟩
theorem tw3246643522048960060:True:=⟨⟩
theorem tw3289409244045668466:True:=⟨⟩
theorem tw3294148140067294842:True:=⟨⟩
theorem tw3368860851364759174:True:=⟨⟩
theorem tw3369019162868678117:True:=⟨⟩
theorem tw3370309642720888322:True:=⟨⟩
theorem tw3396412643362080664:True:=⟨⟩
theorem tw3414841094458426429:True:=⟨⟩
theorem tw3427422423538103659:True:=⟨⟩
theorem tw3470240624052791875:True:=⟨⟩
theorem tw3510922484738894450:True:=⟨⟩
theorem tw3635368704719245202:True:=⟨⟩
theorem tw366193635436515252:True:=⟨⟩
theorem tw3681583819012468110:True:=⟨⟩
theorem tw3978323089777052260:True:=⟨⟩
theorem tw3997296877084269497:True:=⟨⟩
theorem tw4022452370277267013:True:=⟨⟩
theorem tw4029510909606419262:True:=⟨⟩
theorem tw4242666649607027591:True:=⟨⟩
theorem tw4249906365248676623:True:=⟨⟩
theorem tw4347896618057680681:True:=⟨⟩
theorem tw4356242885709493983:True:=⟨⟩
theorem tw4399632658696956330:True:=⟨⟩
theorem tw440474273698751825:True:=⟨⟩
theorem tw4438594983633793480:True:=⟨⟩
theorem tw4509451068972713619:True:=⟨⟩
theorem tw4524759132956692892:True:=⟨⟩
theorem tw4528432826536181667:True:=⟨⟩
theorem tw4708913537310045443:True:=⟨⟩
theorem tw4742962130999263283:True:=⟨⟩
theorem tw4805757881705747879:True:=⟨⟩
theorem tw4922164135470985102:True:=⟨⟩
theorem tw5028838950647509304:True:=⟨⟩
theorem tw5043800681690422134:True:=⟨⟩
theorem tw5071882934764601675:True:=⟨⟩
theorem tw5075992423210558931:True:=⟨⟩
theorem tw5257797504269882224:True:=⟨⟩
theorem tw5273956923444195539:True:=⟨⟩
theorem tw5301410023844995270:True:=⟨⟩
theorem tw5320063793869276473:True:=⟨⟩
theorem tw5364591039151315628:True:=⟨⟩
theorem tw5368143070428040673:True:=⟨⟩
theorem tw54157326392919094:True:=⟨⟩
theorem tw5465093006523168570:True:=⟨⟩
theorem tw5502073175286017842:True:=⟨⟩
theorem tw5520438784863714153:True:=⟨⟩
theorem tw5558986076272164907:True:=⟨⟩
theorem tw5613484158364976668:True:=⟨⟩
theorem tw5803363362947042943:True:=⟨⟩
theorem tw5838898897061225432:True:=⟨⟩
theorem tw5868982468284843158:True:=⟨⟩
theorem tw6011539184632772388:True:=⟨⟩
theorem tw6043490685821983782:True:=⟨⟩
theorem tw6085447429205846774:True:=⟨⟩
theorem tw6183411102227556229:True:=⟨⟩
theorem tw6251842715071606044:True:=⟨⟩
theorem tw6296132810709572756:True:=⟨⟩
theorem tw6404427009166086334:True:=⟨⟩
theorem tw6544558499947341215:True:=⟨⟩
theorem tw6552837844401055707:True:=⟨⟩
theorem tw6560919840241175862:True:=⟨⟩
theorem tw6582138445102987276:True:=⟨⟩
theorem tw6595378672722538640:True:=⟨⟩
theorem tw6633191020117443598:True:=⟨⟩
theorem tw6676784912652971594:True:=⟨⟩
theorem tw6695189925215488287:True:=⟨⟩
theorem tw6701172569039680514:True:=⟨⟩
theorem tw6705342271628394323:True:=⟨⟩
theorem tw6736903351165188505:True:=⟨⟩
theorem tw6752419503417204407:True:=⟨⟩
theorem tw6760804767866620389:True:=⟨⟩
theorem tw6796304498775797047:True:=⟨⟩
theorem tw681343649555706752:True:=⟨⟩
theorem tw6857377769610108090:True:=⟨⟩
theorem tw6859996472189789442:True:=⟨⟩
theorem tw6975599638257796846:True:=⟨⟩
theorem tw6975904681166382525:True:=⟨⟩
theorem tw7020955769068344209:True:=⟨⟩
theorem tw7051912792987837917:True:=⟨⟩
theorem tw7216386437305717287:True:=⟨⟩
theorem tw7248406657369089422:True:=⟨⟩
theorem tw725340127311180284:True:=⟨⟩
theorem tw740156136874896584:True:=⟨⟩
theorem tw7414844251680717252:True:=⟨⟩
theorem tw7477973579156431254:True:=⟨⟩
theorem tw7544222221306863406:True:=⟨⟩
theorem tw76709976025118240:True:=⟨⟩
theorem tw7738980913730958877:True:=⟨⟩
theorem tw7776872416159250311:True:=⟨⟩
theorem tw7783642224081663805:True:=⟨⟩
theorem tw7811900476233050885:True:=⟨⟩
theorem tw7849488714802318000:True:=⟨⟩
theorem tw7914651797657563118:True:=⟨⟩
theorem tw8050187026438992617:True:=⟨⟩
theorem tw8336438792998454664:True:=⟨⟩
theorem tw8339255094829499750:True:=⟨⟩
theorem tw8383090988725401599:True:=⟨⟩
theorem tw8396394359906570328:True:=⟨⟩
theorem tw8399528046813032147:True:=⟨⟩
theorem tw8422299381979940917:True:=⟨⟩
theorem tw8432645826767268906:True:=⟨⟩
theorem tw8442010421309981639:True:=⟨⟩
theorem tw8458147891089554454:True:=⟨⟩
theorem tw8583833740292466711:True:=⟨⟩
theorem tw8597671882008336611:True:=⟨⟩
theorem tw8598093209203132543:True:=⟨⟩
theorem tw8694291305156711466:True:=⟨⟩
theorem tw8851047985798995588:True:=⟨⟩
theorem tw890775546057719180:True:=⟨⟩
theorem tw8951655365525177044:True:=⟨⟩
theorem tw9098764433349131644:True:=⟨⟩
theorem tw9100502623145940740:True:=⟨⟩
theorem tw9101197287129315494:True:=⟨⟩
theorem tw9166388098425022047:True:=⟨⟩
theorem tw9281073593111153200:True:=⟨⟩
theorem tw9288282535294469644:True:=⟨⟩
theorem tw9299604285691918228:True:=⟨⟩
theorem tw9305735207195915468:True:=⟨⟩
theorem tw9343892127829066277:True:=⟨⟩
theorem tw9372134979353609204:True:=⟨⟩
theorem tw9459659855764835510:True:=⟨⟩
theorem tw9501919858085463026:True:=⟨⟩
theorem tw9558100916117243866:True:=⟨⟩
theorem tw9562506835607284018:True:=⟨⟩
theorem tw9606764406129899823:True:=⟨⟩
theorem tw9643275448869216060:True:=⟨⟩
theorem tw9657733730520158663:True:=⟨⟩
theorem tw969173300266161717:True:=⟨⟩
theorem tw9695602181912770090:True:=⟨⟩
theorem tw9757763245132482407:True:=⟨⟩
theorem tw9796969664352348179:True:=⟨⟩
theorem tw9983224160497143797:True:=⟨⟩
end PySem.W.Fast
set_option Elab.async false
set_option linter.all false
set_option maxRecDepth 100000
def aa:=@PySem.wpAny_bind
def ae:=@PySem.Heap.get?_push_of_some
def af:=@List.length_map
def ag:=@PySem.wpAny_pure
def ah:=@decide_eq_true
def ai:=@PySem.sizeLine_eq
def aj:=@of_decide_eq_true
def ak:=@List.size_toArray
def am:=@List.mem_cons_self
def ao:=@Nat.le_refl
def aq:=@decide_eq_false
def ar:=@List.mem_cons_of_mem
def au:=@PySem.Heap.lt_size
def av:=@List.mem_cons
def aw:=@Bool.false_ne_true
def ay:=@PySem.Heap.get?_push_size
def aA:=@if_pos
def aB:=@if_neg
def aC:=@List.length_cons
def aD:=@List.all_eq_true
def aE:=@PySem.Str.length_append
def aF:=@Option.some.inj
def aG:=@Nat.lt_of_lt_of_le
def aI:=@List.length_append
def aJ:=@Nat.zero_le
def aK:=@List.getD_eq_getElem?_getD
def aL:=@Bool.and_eq_true
def aM:=@Bool.and_eq_true_iff
def aN:=@Nat.ne_of_lt
def aO:=@Nat.le_trans
def aP:=@List.mem_map
def aQ:=@List.mem_singleton
def aR:=@PySem.W.mg_none_of
def aS:=@List.map_append
def aU:=@PySem.F.plainAttrs_str
def aV:=@List.getElem?_eq_some_iff
def aW:=@List.mem_append_right
def aX:=@Bool.and_false
def aY:=@List.getElem?_map
def aZ:=@PySem.wpAny_mono
def ba:=@Bool.false_and
def bb:=@List.length_take
def bc:=@List.length_eq_zero_iff
def be:=@PySem.wpAny_holding
def bh:=@Array.length_toList
def bi:=@List.map_cons
def bj:=@List.not_mem_nil
def bn:=@congrArg
def bo:=@PySem.Heap.get?_update_self
def bp:=@List.lookup_cons
def bq:=@List.mem_of_getElem?
def bu:=@PySem.wpAny_field
def bv:=@PySem.wpAny_newObj_type
def bx:=@PySem.Heap.get?_update_other
def bz:=@PySem.F.slot_str_split
def bA:=@PySem.F.type_str_split
def bB:=@List.getElem?_eq_getElem
def bC:=@Bool.true_and
def bD:=@decide_eq_true_iff
def bE:=@PyProof.Rows.slot_tuple_getitem
def bF:=@PySem.wpAny_callSpecial?_slot
def bG:=@PySem.wpAny_call_entry
def bJ:=@List.mem_append
def bK:=@PySem.W.kia_one
def bL:=@List.append_nil
def bM:=@PySem.wpAny_loadPart_at
def bN:=@PySem.wpAny_setField_rec
def bO:=@beq_eq_false_iff_ne
def bP:=@Bool.eq_iff_iff
def bQ:=@PySem.wpAny_standAt
def bR:=@List.mem_range
def bS:=@PySem.wpAny_truthy_bool
def bT:=@PySem.Heap.size_push
def bU:=@List.take_of_length_le
def bV:=@List.map_eq_nil_iff
def bW:=@List.length_drop
def bX:=@List.take_length
def bY:=@Ne.symm
def bZ:=@List.cons.inj
def cb:=@PySem.W.looks_findIn
def cc:=@PySem.wpAny_setState_of
def ce:=@List.getElem_of_mem
def cf:=@PyProof.Rows.callWith_type1
def cg:=@Nat.lt_irrefl
def cj:=@PySem.strLen_append
def ck:=@List.getElem_mem
def cm:=@PySem.wpAny_seqItems
def cn:=@Array.getElem?_toList
def cq:=@Int.toNat_natCast
def cr:=@Nat.lt_succ_of_lt
def cv:=@PySem.Around.under_plainId
def cw:=@PySem.codeAny_call_builtin
def cx:=@Option.isSome_iff_exists
def cy:=@PySem.typeIs_str
def cz:=@PySem.mem_of_lookup
def cA:=@PySem.wpAny_isSubtype_exc
def cB:=@PySem.wpAny_getItem_str_slice
def cC:=@PySem.F.attr_ValueError
def cD:=@PySem.sizeLine_eq
def cE:=@Nat.ne_of_gt
def cF:=@PySem.wpAny_call
def cG:=@PySem.codeAny_mono
def cH:=@PySem.wpAny_Call_Name_kw
def cI:=@PySem.StrLaws.join_split
def cJ:=@PySem.codeAny_builtin
def cK:=@or_false
def cL:=@PySem.PassesOwn.never
def cM:=@PySem.wpAny_attempt
def cP:=@List.length_singleton
def cQ:=@List.getElem?_eq_none
def cR:=@List.length_range
def cS:=@Bool.eq_false_iff
def cT:=@List.take_add_one
def cU:=@List.mem_of_mem_drop
def cV:=@Array.getElem?_eq_some_iff
def cW:=@PySem.wpAny_setField
def cX:=@PySem.Str.cps_append
def cY:=@PySem.intText_digits
def cZ:=@PySem.F.excBase_ValueError
def da:=@List.mem_of_mem_take
def db:=@PySem.wpAny_askSetting
def dc:=@Array.all_toList
def de:=@List.pairwise_iff_getElem
def df:=@List.drop_eq_getElem_cons
def dg:=@List.getLastD_eq_getLast?
def dh:=@List.getLast?_eq_getElem?
def di:=@Array.toList_append
def dj:=@PySem.F.args_tuple_add_2
def dn:=@List.all_cons
def dq:=@PySem.wpAny_execs_nil
def dv:=@PySem.wpAny_passesOwn
def dw:=@List.nodup_cons
def dy:=@List.contains_cons
def dz:=@PySem.F.entry_tuple_add
def dD:=@Nat.le_of_lt
def dE:=@List.getElem?_set_self
def dF:=@PySem.wpAny_pyIter_list
def dG:=@PySem.W.cellsFrom_some
def dH:=@PySem.F.slot_tuple_add
def dJ:=@PySem.wpAny_typeOf
def dL:=@PyProof.Rows.split_pos
def dM:=@PySem.Str.append_assoc
def dN:=@List.flatMap_cons
def dO:=@Array.getElem?_setIfInBounds_ne
def dP:=@List.take_append_drop
def dQ:=@PySem.builtinLookup_eq_fast
def dR:=@Array.mem_of_getElem?
def dS:=@PySem.F.slot_str_join
def dU:=@PySem.F.type_str_join
def dW:=@PySem.call_meets
def dX:=@PySem.wpAny_rule
def dY:=@Nat.le_add_right
def dZ:=@List.any_eq_true
def ef:=@if_true
def eg:=@Bool.and_true
def ej:=@PySem.Heap.get?_none_of_le
def ek:=@List.mem_append_left
def eD:=@List.getElem?_set_ne
def eE:=@PySem.Calls.evalArgs_plain
def eF:=@PySem.wpAny_updateSeq_pair
def eG:=@Nat.pow_le_pow_right
def eJ:=@List.mem_filter
def eM:=@List.of_mem_zip
def eN:=@PySem.wpAny_loadPart'
def eQ:=@PySem.post_val_or_str
def eR:=@List.length_nil
def eU:=@List.filterMap_cons
def eV:=@PySem.Heap.SameBut.update
def eW:=@ne_true_of_eq_false
def eX:=@List.map_congr_left
def eY:=@Nat.lt_trans
def eZ:=@Bool.or_true
def fb:=@List.map_map
def fc:=@PySem.Calls.Constant_str
def fe:=@PySem.Calls.Name_function_global
def fg:=@List.mem_filterMap
def fh:=@Int.fdiv_eq_ediv_of_nonneg
def fi:=@PySem.W.callWith_K
def fj:=@PySem.wpAny_newFunctionEnv_cells
def fk:=@PySem.Code.quiet_builtin
def fm:=@List.filter_append
def fo:=@List.take_succ
def fq:=@List.take_sublist
def fw:=@Option.some.injEq
def fz:=@List.append_assoc
def fA:=@PySem.wpAny_of_eq
def fE:=@PySem.wpAny_Call_ofName
def fF:=@decide_eq_true_eq
def fK:=@PySem.W.mg_of
def fO:=@PySem.plainId_quiet
def fQ:=@Bool.not_true
def fX:=@PySem.wpAny_onRaise
def fY:=@PySem.wpAny_execs_cons
def fZ:=@PySem.noFill_tuple_add
def gc:=@PySem.wpAny_isInstance
def gd:=@PySem.F.plain_list_iadd
def ge:=@PySem.Around.in1_units
def gf:=@Nat.toDigits_of_lt_base
def gh:=@PySem.Heap.size_update
def gi:=@PySem.F.plainAttrs_list
def gj:=@List.getElem?_cons_succ
def gk:=@beq_iff_eq
def gm:=@List.pairwise_lt_range
def gn:=@List.append_eq_nil_iff
def gq:=@List.length_set
def gt:=@List.forIn_cons
def gu:=@Nat.not_lt_zero
def gx:=@PySem.codeAny_of_tree
def gz:=@PySem.typeLookup_type
def gA:=@List.foldl_cons
def gB:=@List.length_replicate
def gC:=@PySem.F.slot_set_iter
def gE:=@PySem.F.entry_bexc_ga
def gF:=@List.length_filter_le
def gG:=@Array.mem_toList_iff
def gH:=@Array.toList_extract
def gI:=@List.pairwise_append
def gJ:=@Nat.le_succ
def gK:=@PySem.isSubtype_type
def gL:=@Array.toArray_toList
def gM:=@Nat.log2_lt
def gN:=@PySem.W.KIN.val_back
def gO:=@PySem.F.args_bexc_ga
def gP:=@Int.negSucc_eq
def gQ:=@PySem.W.looks_mroIn
def gR:=@List.length_pos_iff
def gS:=@Bool.false_or
def gT:=@Array.append_assoc
def gU:=@PySem.wpAny_load
def gW:=@Int.natCast_nonneg
def gX:=@PySem.W.codeRec_of
def gY:=@List.pairwise_cons
def gZ:=@PySem.W.looks_find
def g0:=@Int.emod_lt_of_pos
def g5:=@Nat.pos_of_ne_zero
def g6:=@Array.all_eq_true'
def g7:=@Int.ediv_one
def g8:=@Nat.add_comm
def g9:=@List.all_map
def hG:=@Int.le_refl
open PySem.W (clsIn findIn findObj handedIn handed_on hasDictIn instObj isFn kHook kIn_of keepIn kitAny kitOne kitx_dict kitx_list lookIn methodObj mg_of mroIn plainGet specialIn takesIn)
open List (map_id replicate)
open Nat (strongRecOn toDigits)
open Array (ext')
open Option (bind_some getD_none)
section
namespace L2
open PySem PySem.Spec PyProof.Rows
def jPN (s:Stmt)(j:Nat):Stmt:=match s with
 | .ClassDef _ _ _ body _ _ _ _ _ _ _=>body.getD j (.Pass ⟨0,0,0,0⟩)
 | _=> .Pass ⟨0,0,0,0⟩
def jU (s:Stmt):Arguments:=match s with
 | .FunctionDef _ a _ _ _ _ _ _ _ _=>a
 | _=> { posonlyargs:=[],args:=[],vararg:=none,kwonlyargs:=[],kw_defaults:=[],kwarg:=none,defaults:=[]}
def jE (s:Stmt):List Stmt:=match s with
 | .FunctionDef _ _ b _ _ _ _ _ _ _=>b
 | _=> []
def j9 (s:Stmt):Scope:=match s with
 | .FunctionDef _ _ _ _ _ _ sc _ _ _=>sc
 | _=> { kind:= .function,names:=[],isGenerator:=false,isCoroutine:=false}
end L2
end
section
namespace Eo
open PySem L2
noncomputable def top (i:Nat):Stmt:=PySem.Challenge.pw_eachonce_k03_texts_of_no_box.main.body.getD i (.Pass ⟨0,0,0,0⟩)
abbrev jAN:Stmt:=top 1
abbrev yY:Stmt:=top 2
abbrev jB7:Stmt:=top 3
abbrev jAF:Stmt:=top 7
abbrev jB6:Stmt:=top 8
abbrev qD:Stmt:=top 9
abbrev jB8:Stmt:=top 10
abbrev jAO:Stmt:=jPN (top 13) 0
abbrev qP:Stmt:=top 26
abbrev qE:Stmt:=top 27
abbrev jAG:Stmt:=top 28
abbrev jA3:Stmt:=top 29
abbrev sRead:Stmt:=top 30
abbrev sCell:Stmt:=top 32
abbrev sPot:Stmt:=top 33
abbrev sTake:Stmt:=top 34
abbrev sLot:Stmt:=top 35
abbrev sBox:Stmt:=top 36
abbrev qJ:Stmt:=top 37
abbrev xD:Stmt:=top 38
abbrev qS:Stmt:=top 39
abbrev xG:Stmt:=top 40
abbrev qW:Stmt:=top 41
abbrev yW:Stmt:=top 42
abbrev yC:Stmt:=top 43
abbrev sUpto:Stmt:=top 44
abbrev xE:Stmt:=top 45
abbrev sBoxR:Stmt:=top 46
abbrev sDueT:Stmt:=top 47
abbrev qV:Stmt:=top 48
abbrev qH:Stmt:=top 49
abbrev sLaw:Stmt:=top 50
noncomputable def kC (x:Str)(t:Nat)(l n:Int)(a:Nat)(X Y:Value)(z:Nat)(u:Int)(v:Nat):Obj:=⟨.type "code",none, .fields #[.str x t, .str x (t+1), .str "/claim/cut.py" (t+2), .int l 0, .int n 0, .int 0 0, .int 0 0, .int 3 0, .ref a, .bool true, .int 181 0, .ref (a+1), .none,X,Y, .ref z, .int u 0, .int l 0, .str "/claim/cut.py" v],#[]⟩
noncomputable def kF (x:Str)(s:Stmt)(m:Str)(t c:Nat):Obj:=⟨.type "function",none, .func (PySem.W.fnOf x x (jU s) (jE s) (j9 s) .none .none .none (.str m t) none (.ref c) .none),#[]⟩
def kCm (x q:Str)(t:Nat)(l n:Int)(a:Nat)(X Y:Value)(z:Nat)(u:Int)(v:Nat):Obj:=⟨.type "code",none, .fields #[.str x t, .str q (t+1), .str "/claim/cut.py" (t+2), .int l 0, .int n 0, .int 0 0, .int 0 0, .int 3 0, .ref a, .bool true, .int 181 0, .ref (a+1), .none,X,Y, .ref z, .int u 0, .int l 0, .str "/claim/cut.py" v],#[]⟩
def kFm (x q:Str)(s:Stmt)(m:Str)(t c:Nat):Obj:=⟨.type "function",none, .func (PySem.W.fnOf x q (jU s) (jE s) (j9 s) .none .none .none (.str m t) none (.ref c) .none),#[]⟩
noncomputable def kE (P:Params)(x:Str)(t:Nat)(v:Value):DictEntry:=⟨PyData.keyHash P x, .str x t,v⟩
noncomputable def kM (P:Params):Obj:=
 let e (x:Str) (t:Nat) (v:Value):DictEntry:=⟨PyData.keyHash P x, .str x t,v⟩
 ⟨.type "dict",none, .dict #[e "__name__" 165 (.str "law_eachonce_k03_texts_of_no_box" 480),e "__doc__" 166 (.none),e "__package__" 167 (.none),e "__loader__" 168 (.builtin "__main__.__loader__#opaque"),e "__spec__" 169 (.none),e "__annotations__" 170 (.ref 6),e "__builtins__" 171 (.ref 4),e "__file__" 173 (.str "/claim/cut.py" 172),e "__cached__" 174 (.none),e "is_whole" 195 (.ref 21),e "is_rising" 201 (.ref 26),e "is_lot" 209 (.ref 33),e "MOST_THINGS" 213 (.int 16 212),e "MOST_PIECES" 215 (.int 32 214),e "is_weight" 222 (.ref 40),e "is_piece" 230 (.ref 47),e "are_pieces" 236 (.ref 52),e "is_box" 244 (.ref 59),e "OnceError" 264 (.ref 69),e "NoText" 289 (.ref 89),e "NoCovering" 305 (.ref 101),e "TooMany" 321 (.ref 113),e "NoThing" 337 (.ref 125),e "NoPiece" 353 (.ref 137),e "NoWeight" 369 (.ref 149),e "NoOrder" 385 (.ref 161),e "Held" 401 (.ref 173),e "NoDeed" 417 (.ref 185),e "NoRow" 433 (.ref 197),e "FIGURES" 437 (.str "0123456789" 436),e "MOST_FIGURES" 439 (.int 13 438),e "number_in" 445 (.ref 204),e "numbers_in" 451 (.ref 209),e "head_in" 459 (.ref 216),e "piece_in" 467 (.ref 223),e "read" 479 (.ref 230),e "_law_cell_at" 489 (.ref 237),e "_law_pot" 499 (.ref 244),e "_law_take" 508 (.ref 251),e "_law_lot" 514 (.ref 256),e "_law_box" 520 (.ref 261),e "_law_whole" 527 (.ref 268),e "_law_same" 533 (.ref 273),e "_law_written" 539 (.ref 278),e "_law_number" 545 (.ref 283),e "_law_numbers" 551 (.ref 288),e "_law_head" 560 (.ref 295),e "_law_piece" 569 (.ref 302),e "_law_upto" 578 (.ref 309),e "_law_lot_right" 584 (.ref 314),e "_law_box_right" 595 (.ref 321),e "_law_due_text" 606 (.ref 328),e "_law_told_text" 616 (.ref 335),e "_law_bent" 632 (.ref 342),e "law" 645 (.ref 349)] 55,#[]⟩
noncomputable def kK (P:Params):W.Frag:=(nat_lit 2, { cls:= .none,data:= .dict #[]})::(nat_lit 3,kM P)::(nat_lit 20,kC "is_whole" 189 2 1 15 (.ref 17) (.ref 18) 19 193 194)::(nat_lit 21,kF "is_whole" jAN "eachonce.kinds" 187 20)::(nat_lit 25,kC "is_rising" 196 4 1 22 (.none) (.none) 24 199 200)::(nat_lit 26,kF "is_rising" yY "eachonce.kinds" 187 25)::(nat_lit 32,kC "is_lot" 202 10 2 27 (.ref 29) (.ref 30) 31 207 208)::(nat_lit 33,kF "is_lot" jB7 "eachonce.kinds" 187 32)::(nat_lit 39,kC "is_weight" 216 17 1 34 (.ref 36) (.ref 37) 38 220 221)::(nat_lit 40,kF "is_weight" jAF "eachonce.boxes" 210 39)::(nat_lit 46,kC "is_piece" 223 19 2 41 (.ref 43) (.ref 44) 45 228 229)::(nat_lit 47,kF "is_piece" jB6 "eachonce.boxes" 210 46)::(nat_lit 51,kC "are_pieces" 231 23 2 48 (.none) (.none) 50 234 235)::(nat_lit 52,kF "are_pieces" qD "eachonce.boxes" 210 51)::(nat_lit 58,kC "is_box" 237 27 1 53 (.ref 55) (.ref 56) 57 242 243)::(nat_lit 59,kF "is_box" jB8 "eachonce.boxes" 210 58)::(nat_lit 68,⟨.type "dict",none, .dict #[kE P "__module__" 254 (.str "eachonce.errors" 245),kE P "__firstlineno__" 258 (.int 35 257),kE P "__static_attributes__" 259 (.ref 67),kE P "__weakref__" 261 (.ref 70),kE P "__doc__" 262 (.none)] 3,#[]⟩)::(nat_lit 69,⟨.type "type",none, .cls { name:= "OnceError",bases:=[.type "ValueError"],mro:=[.ref 69, .type "ValueError", .type "Exception", .type "BaseException", .type "object"],ns:=68,qualname:= "OnceError",subclasses:=[.ref 89, .ref 101, .ref 113, .ref 125, .ref 137, .ref 149, .ref 161, .ref 173, .ref 185, .ref 197]},#[some (.ref 60),none,some (.str "OnceError" 247),some (.str "OnceError" 255),some (.builtin "ValueError.__new__"),some (.bool true)]⟩)::(nat_lit 85,kCm "__init__" "NoText.__init__" 277 39 2 80 (.ref 82) (.ref 83) 84 282 283)::(nat_lit 86,kFm "__init__" "NoText.__init__" jAO "eachonce.errors" 245 85)::(nat_lit 88,⟨.type "dict",none, .dict #[kE P "__module__" 272 (.str "eachonce.errors" 245),kE P "__firstlineno__" 276 (.int 37 275),kE P "__init__" 284 (.ref 86),kE P "__static_attributes__" 286 (.ref 87),kE P "__doc__" 287 (.none)] 2,#[]⟩)::(nat_lit 89,⟨.type "type",none, .cls { name:= "NoText",bases:=[.ref 69],mro:=[.ref 89, .ref 69, .type "ValueError", .type "Exception", .type "BaseException", .type "object"],ns:=88,qualname:= "NoText",subclasses:=[]},#[some (.ref 73),none,some (.str "NoText" 265),some (.str "NoText" 273),some (.builtin "ValueError.__new__"),some (.bool true)]⟩)::(nat_lit 101,⟨.type "type",none, .cls { name:= "NoCovering",bases:=[.ref 69],mro:=[.ref 101, .ref 69, .type "ValueError", .type "Exception", .type "BaseException", .type "object"],ns:=100,qualname:= "NoCovering",subclasses:=[]},#[some (.ref 92),none,some (.str "NoCovering" 290),some (.str "NoCovering" 298),some (.builtin "ValueError.__new__"),some (.bool true)]⟩)::(nat_lit 113,⟨.type "type",none, .cls { name:= "TooMany",bases:=[.ref 69],mro:=[.ref 113, .ref 69, .type "ValueError", .type "Exception", .type "BaseException", .type "object"],ns:=112,qualname:= "TooMany",subclasses:=[]},#[some (.ref 104),none,some (.str "TooMany" 306),some (.str "TooMany" 314),some (.builtin "ValueError.__new__"),some (.bool true)]⟩)::(nat_lit 125,⟨.type "type",none, .cls { name:= "NoThing",bases:=[.ref 69],mro:=[.ref 125, .ref 69, .type "ValueError", .type "Exception", .type "BaseException", .type "object"],ns:=124,qualname:= "NoThing",subclasses:=[]},#[some (.ref 116),none,some (.str "NoThing" 322),some (.str "NoThing" 330),some (.builtin "ValueError.__new__"),some (.bool true)]⟩)::(nat_lit 137,⟨.type "type",none, .cls { name:= "NoPiece",bases:=[.ref 69],mro:=[.ref 137, .ref 69, .type "ValueError", .type "Exception", .type "BaseException", .type "object"],ns:=136,qualname:= "NoPiece",subclasses:=[]},#[some (.ref 128),none,some (.str "NoPiece" 338),some (.str "NoPiece" 346),some (.builtin "ValueError.__new__"),some (.bool true)]⟩)::(nat_lit 149,⟨.type "type",none, .cls { name:= "NoWeight",bases:=[.ref 69],mro:=[.ref 149, .ref 69, .type "ValueError", .type "Exception", .type "BaseException", .type "object"],ns:=148,qualname:= "NoWeight",subclasses:=[]},#[some (.ref 140),none,some (.str "NoWeight" 354),some (.str "NoWeight" 362),some (.builtin "ValueError.__new__"),some (.bool true)]⟩)::(nat_lit 161,⟨.type "type",none, .cls { name:= "NoOrder",bases:=[.ref 69],mro:=[.ref 161, .ref 69, .type "ValueError", .type "Exception", .type "BaseException", .type "object"],ns:=160,qualname:= "NoOrder",subclasses:=[]},#[some (.ref 152),none,some (.str "NoOrder" 370),some (.str "NoOrder" 378),some (.builtin "ValueError.__new__"),some (.bool true)]⟩)::(nat_lit 173,⟨.type "type",none, .cls { name:= "Held",bases:=[.ref 69],mro:=[.ref 173, .ref 69, .type "ValueError", .type "Exception", .type "BaseException", .type "object"],ns:=172,qualname:= "Held",subclasses:=[]},#[some (.ref 164),none,some (.str "Held" 386),some (.str "Held" 394),some (.builtin "ValueError.__new__"),some (.bool true)]⟩)::(nat_lit 185,⟨.type "type",none, .cls { name:= "NoDeed",bases:=[.ref 69],mro:=[.ref 185, .ref 69, .type "ValueError", .type "Exception", .type "BaseException", .type "object"],ns:=184,qualname:= "NoDeed",subclasses:=[]},#[some (.ref 176),none,some (.str "NoDeed" 402),some (.str "NoDeed" 410),some (.builtin "ValueError.__new__"),some (.bool true)]⟩)::(nat_lit 197,⟨.type "type",none, .cls { name:= "NoRow",bases:=[.ref 69],mro:=[.ref 197, .ref 69, .type "ValueError", .type "Exception", .type "BaseException", .type "object"],ns:=196,qualname:= "NoRow",subclasses:=[]},#[some (.ref 188),none,some (.str "NoRow" 418),some (.str "NoRow" 426),some (.builtin "ValueError.__new__"),some (.bool true)]⟩)::(nat_lit 203,kC "number_in" 440 63 1 200 (.none) (.none) 202 443 444)::(nat_lit 204,kF "number_in" qP "eachonce.texts" 434 203)::(nat_lit 208,kC "numbers_in" 446 70 1 205 (.none) (.none) 207 449 450)::(nat_lit 209,kF "numbers_in" qE "eachonce.texts" 434 208)::(nat_lit 215,kC "head_in" 452 72 1 210 (.ref 212) (.ref 213) 214 457 458)::(nat_lit 216,kF "head_in" jAG "eachonce.texts" 434 215)::(nat_lit 222,kC "piece_in" 460 79 1 217 (.ref 219) (.ref 220) 221 465 466)::(nat_lit 223,kF "piece_in" jA3 "eachonce.texts" 434 222)::(nat_lit 229,kC "read" 468 84 1 224 (.ref 226) (.ref 227) 228 477 478)::(nat_lit 230,kF "read" sRead "eachonce.texts" 434 229)::(nat_lit 236,kC "_law_cell_at" 482 99 2 231 (.ref 233) (.ref 234) 235 487 488)::(nat_lit 237,kF "_law_cell_at" sCell "law_eachonce_k03_texts_of_no_box" 480 236)::(nat_lit 243,kC "_law_pot" 490 103 1 238 (.ref 240) (.ref 241) 242 497 498)::(nat_lit 244,kF "_law_pot" sPot "law_eachonce_k03_texts_of_no_box" 480 243)::(nat_lit 250,kC "_law_take" 500 112 2 245 (.ref 247) (.ref 248) 249 506 507)::(nat_lit 251,kF "_law_take" sTake "law_eachonce_k03_texts_of_no_box" 480 250)::(nat_lit 255,kC "_law_lot" 509 116 2 252 (.none) (.none) 254 512 513)::(nat_lit 256,kF "_law_lot" sLot "law_eachonce_k03_texts_of_no_box" 480 255)::(nat_lit 260,kC "_law_box" 515 125 3 257 (.none) (.none) 259 518 519)::(nat_lit 261,kF "_law_box" sBox "law_eachonce_k03_texts_of_no_box" 480 260)::(nat_lit 267,kC "_law_whole" 521 143 1 262 (.ref 264) (.ref 265) 266 525 526)::(nat_lit 268,kF "_law_whole" qJ "law_eachonce_k03_texts_of_no_box" 480 267)::(nat_lit 272,kC "_law_same" 528 145 2 269 (.none) (.none) 271 531 532)::(nat_lit 273,kF "_law_same" xD "law_eachonce_k03_texts_of_no_box" 480 272)::(nat_lit 277,kC "_law_written" 534 157 1 274 (.none) (.none) 276 537 538)::(nat_lit 278,kF "_law_written" qS "law_eachonce_k03_texts_of_no_box" 480 277)::(nat_lit 282,kC "_law_number" 540 164 1 279 (.none) (.none) 281 543 544)::(nat_lit 283,kF "_law_number" xG "law_eachonce_k03_texts_of_no_box" 480 282)::(nat_lit 287,kC "_law_numbers" 546 170 1 284 (.none) (.none) 286 549 550)::(nat_lit 288,kF "_law_numbers" qW "law_eachonce_k03_texts_of_no_box" 480 287)::(nat_lit 294,kC "_law_head" 552 175 1 289 (.ref 291) (.ref 292) 293 558 559)::(nat_lit 295,kF "_law_head" yW "law_eachonce_k03_texts_of_no_box" 480 294)::(nat_lit 301,kC "_law_piece" 561 185 1 296 (.ref 298) (.ref 299) 300 567 568)::(nat_lit 302,kF "_law_piece" yC "law_eachonce_k03_texts_of_no_box" 480 301)::(nat_lit 308,kC "_law_upto" 570 197 3 303 (.ref 305) (.ref 306) 307 576 577)::(nat_lit 309,kF "_law_upto" sUpto "law_eachonce_k03_texts_of_no_box" 480 308)::(nat_lit 313,kC "_law_lot_right" 579 199 2 310 (.none) (.none) 312 582 583)::(nat_lit 314,kF "_law_lot_right" xE "law_eachonce_k03_texts_of_no_box" 480 313)::(nat_lit 320,kC "_law_box_right" 585 203 1 315 (.ref 317) (.ref 318) 319 593 594)::(nat_lit 321,kF "_law_box_right" sBoxR "law_eachonce_k03_texts_of_no_box" 480 320)::(nat_lit 327,kC "_law_due_text" 596 215 1 322 (.ref 324) (.ref 325) 326 604 605)::(nat_lit 328,kF "_law_due_text" sDueT "law_eachonce_k03_texts_of_no_box" 480 327)::(nat_lit 334,kC "_law_told_text" 607 226 1 329 (.ref 331) (.ref 332) 333 614 615)::(nat_lit 335,kF "_law_told_text" qV "law_eachonce_k03_texts_of_no_box" 480 334)::(nat_lit 341,kC "_law_bent" 617 235 3 336 (.ref 338) (.ref 339) 340 630 631)::(nat_lit 342,kF "_law_bent" qH "law_eachonce_k03_texts_of_no_box" 480 341)::(nat_lit 348,kC "law" 633 264 1 343 (.ref 345) (.ref 346) 347 643 644)::(nat_lit 349,kF "law" sLaw "law_eachonce_k03_texts_of_no_box" 480 348)::[]
noncomputable def kA:List Addr:=[2,3,20,21,25,26,32,33,39,40,46,47,51,52,58,59,68,69,85,86,88,89,101,113,125,137,149,161,173,185,197,203,204,208,209,215,216,222,223,229,230,236,237,243,244,250,251,255,256,260,261,267,268,272,273,277,278,282,283,287,288,294,295,301,302,308,309,313,314,320,321,327,328,334,335,341,342,348,349]
noncomputable def vw:Program:= { PySem.Challenge.pw_eachonce_k03_texts_of_no_box with main:= { PySem.Challenge.pw_eachonce_k03_texts_of_no_box.main with body:=[top 1,top 2,top 3,top 5,top 6,top 7,top 8,top 9,top 10,top 12,top 13,top 14,top 15,top 16,top 17,top 18,top 19,top 20,top 21,top 22,top 24,top 25,top 26,top 27,top 28,top 29,top 30,top 32,top 33,top 34,top 35,top 36,top 37,top 38,top 39,top 40,top 41,top 42,top 43,top 44,top 45,top 46,top 47,top 48,top 49,top 50]}}
theorem kA_eq:∀ P,kA=(kK P).map (·.1):=fun _=>by kernel_rfl
noncomputable abbrev kH:PySem.W.Hook:=kHook kK kA kA_eq
end Eo
end
section
namespace L2
open PySem PySem.Spec PyProof.Rows
abbrev Key:=Sum Int Str
def keyIs:Key->Value->Bool
 | .inl k,v=>Value.isInt k v
 | .inr x,v=>Value.isStrOf x v
def keyH (w:World):Key->Int
 | .inl k=>hashInt k
 | .inr x=>hashStr w x
theorem jA1:∀ {k:Key}{v:Value},keyIs k v=true->(∃ i t,k=Sum.inl i/\v=Value.int i t)\/(∃ x t,k=Sum.inr x/\v=Value.str x t)
 | .inl i,v,h=>by
  obtain⟨t,e⟩:=Value.isInt_shape (k:=i) (v:=v) h
  exact .inl ⟨i,t,rfl,e⟩
 | .inr x,v,h=>by
  obtain⟨t,e⟩:=Value.isStrOf_shape (x:=x) (v:=v) h
  exact .inr ⟨x,t,rfl,e⟩
theorem jRF (a b:Int):decide ((Sum.inl a:Key)=Sum.inl b)=(a==b):=by
 by_cases e:a=b
 ·subst e; simp
 ·have h:¬ (Sum.inl a:Key)=Sum.inl b:=fun q=>e (Sum.inl.inj q)
  rw[aq h]
  exact(bO.mpr e).symm
theorem jRC (a b:Str):decide ((Sum.inr a:Key)=Sum.inr b)=decide (a=b):=by
 by_cases e:a=b
 ·subst e; simp
 ·have h:¬ (Sum.inr a:Key)=Sum.inr b:=fun q=>e (Sum.inr.inj q)
  rw[aq h,aq e]
theorem jRE (a:Int)(b:Str):decide ((Sum.inl a:Key)=Sum.inr b)=false:=aq (fun q=>nomatch q)
theorem jRD (a:Str)(b:Int):decide ((Sum.inr a:Key)=Sum.inl b)=false:=aq (fun q=>nomatch q)
def jK7 (prog:Program)(w:World):PySem.KeyKind prog w Key where
 is:=keyIs
 hash:=keyH w
 inj:=fun v a b ha hb=>by
  rcases jA1 ha with ⟨i,t,rfl,rfl⟩ | ⟨x,t,rfl,rfl⟩
  ·rcases jA1 hb with ⟨j,u,rfl,e⟩ | ⟨y,u,rfl,e⟩
   ·injection e with e1 _; rw[e1]
   ·exact nomatch e
  ·rcases jA1 hb with ⟨j,u,rfl,e⟩ | ⟨y,u,rfl,e⟩
   ·exact nomatch e
   ·injection e with e1 _; rw[e1]
 byValue:=fun k v h=>by
  rcases jA1 h with ⟨i,t,rfl,rfl⟩ | ⟨x,t,rfl,rfl⟩ <;> rfl
 pyHash:=fun hv h=>by
  rcases jA1 hv with ⟨i,t,rfl,rfl⟩ | ⟨x,t,rfl,rfl⟩
  ·exact wpAny_pyHash_int h
  ·exact wpAny_pyHash_str h
 eqBool:=fun hu hv h=>by
  rcases jA1 hu with ⟨i,t,rfl,rfl⟩ | ⟨x,t,rfl,rfl⟩
  ·rcases jA1 hv with ⟨j,u,rfl,rfl⟩ | ⟨y,u,rfl,rfl⟩
   ·rw[jRF] at h; exact wpAny_eqBool_int h
   ·rw[jRE] at h; exact SeqAt.EqAt.int_str i t y u _ _ _ _ h
  ·rcases jA1 hv with ⟨j,u,rfl,rfl⟩ | ⟨y,u,rfl,rfl⟩
   ·rw[jRD] at h; exact SeqAt.EqAt.str_int x t j u _ _ _ _ h
   ·rw[jRC] at h; exact wpAny_eqBool_str h
 «strs»:=fun k x t v h=>by
  rcases jA1 h with ⟨i,u,rfl,e⟩ | ⟨y,u,rfl,e⟩
  ·exact nomatch e
  ·injection e with e1 _
   subst e1
   cases v <;> rfl
end L2
namespace L2
open PySem PySem.Spec PyProof.Rows
inductive V where
 | non | bl (b:Bool) | int (i:Int) | str (x:Str) | byt (b:Array UInt8) | flt (b:UInt64) | ref (a:Addr) | ty (n:String)
 deriving DecidableEq
def RelV:V->Value->Prop
 | .non,u=>u=Value.none
 | .bl b,u=>u=Value.bool b
 | .int i,u=>∃ t,u=Value.int i t
 | .str x,u=>∃ t,u=Value.str x t
 | .byt b,u=>∃ t,u=Value.bytes b t
 | .flt b,u=>∃ t,u=Value.float b t
 | .ref a,u=>u=Value.ref a
 | .ty n,u=>u=Value.type n
abbrev Vals:List V->List Value->Prop:=Paired RelV
theorem Vals.length {xs:List V}{us:List Value}(r:Vals xs us):xs.length=us.length:=Paired.length r
theorem Vals.get:∀ {xs:List V}{us:List Value}{i:Nat}{x:V},Vals xs us->xs[i]?=some x->∃ u,us[i]?=some u/\RelV x u
 | _,_,_,_, .nil,e=>by simp at e
 | _,_,0,_, .cons r _,e=>by simp at e; subst e; exact⟨_,rfl,r⟩
 | _,_,i+1,x, .cons _ t,e=>by
  obtain⟨u,h1,h2⟩:=Vals.get (i:=i) (x:=x) t (by simpa using e)
  exact⟨u,by simpa using h1,h2⟩
theorem Vals.set {x:V}{u:Value}(r:RelV x u):∀ {xs:List V}{us:List Value}(i:Nat),Vals xs us->Vals (xs.set i x) (us.set i u)
 | _,_,_, .nil=> .nil
 | _,_,0, .cons _ t=> .cons r t
 | _,_,i+1, .cons q t=> .cons q (Vals.set r i t)
theorem Vals.append:∀ {xs ys:List V}{us ws:List Value},Vals xs us->Vals ys ws->Vals (xs++ys) (us++ws)
 | _,_,_,_, .nil,s=>s
 | _,_,_,_, .cons r t,s=> .cons r (Vals.append t s)
theorem Vals.take:∀ {xs:List V}{us:List Value}(n:Nat),Vals xs us->Vals (xs.take n) (us.take n)
 | _,_,0,_=> .nil
 | _,_,_+1, .nil=> .nil
 | _,_,n+1, .cons r t=> .cons r (Vals.take n t)
theorem Vals.drop:∀ {xs:List V}{us:List Value}(n:Nat),Vals xs us->Vals (xs.drop n) (us.drop n)
 | _,_,0,r=>r
 | _,_,_+1, .nil=> .nil
 | _,_,n+1, .cons _ t=>Vals.drop n t
def RelO:Option V->Option Value->Prop
 | some v,some u=>RelV v u
 | none,none=>True
 | _,_=>False
def KV {κ:Type} :List (κ×V)->List (κ×Value)->Prop:=Paired fun (p:κ×V) (q:κ×Value)=>p.1=q.1/\RelV p.2 q.2
noncomputable def kV:Key->V
 | .inl i=> .int i
 | .inr x=> .str x
def TupO (h:Heap)(a:Addr)(items:Array Value):Prop:=∃ n,h.get? a=some { cls:= .type "tuple",data:= .seq items n}
theorem TupO.isTup {h:Heap}{a:Addr}{items:Array Value}(x:TupO h a items):IsTup h a items:=let ⟨n,e⟩:=x; ⟨_,e,rfl,n,rfl⟩
theorem TupO.new (h:Heap)(items:Array Value):TupO (h.push { cls:= .type "tuple",data:= .seq items}) h.objs.size items:=⟨0,ay _ rfl⟩
inductive HO where
  | lst (xs:List V)
  | tup (xs:List V)
  | dK (kvs:List (Key×V)) | dT (kvs:List (List Key×V))
  | set (S:Int->Bool) (n:Nat)
  | ins (C dx:Addr) (fs:List (Str×V))
  | own (x:Addr)
  | xd (fs:List (Str×V))
  | met (f x:Addr)
  | rng (lo hi:Int)
  | frz (o:Obj) (u:HO)
  | tbl (ps:Array Value)
  | ext (φ:Heap->Prop)
abbrev Hp:=Addr->Option HO
def upd (H:Hp)(a:Addr)(o:HO):Hp:=fun b=>if b=a then some o else H b
theorem j8 {H:Hp}{a:Addr}{o:HO} :upd H a o a=some o:=by unfold upd; rw[aA rfl]
theorem jG {H:Hp}{a b:Addr}{o:HO}(h:b≠a):upd H a o b=H b:=by unfold upd; rw[aB h]
theorem ne_of {H:Hp}{a b:Addr}{o u:HO}(h:H a=some o)(h':H b=some u)(d:o≠u):a≠b:=by
 intro e; subst e; rw[h] at h'; exact d (aF h')
theorem jD {H:Hp}{a b:Addr}{o:HO}(h:H a=some o)(h':H b=none):a≠b:=by
 intro e; subst e; rw[h] at h'; cases h'
section
variable (P:Program)(w:World)
def ObjOk (H:Hp)(h:Heap)(a:Addr):HO->Prop
 | .lst xs=>xs.length<=sizeLine/\∃ (its:List Value) (n:Nat),Vals xs its/\h.get? a=some { cls:= .type "list",data:= .seq its.toArray n}
 | .tup xs=>xs.length<=sizeLine/\∃ its:List Value,Vals xs its/\TupO h a its.toArray
 | .dK kvs=>kvs.length<=sizeLine/\(a==sysModules)=false/\∃ vs,KV kvs vs/\h.DictOf (jK7 P w) a vs
 | .dT kvs=>kvs.length<=sizeLine/\(a==sysModules)=false/\∃ xs:List (List Key×Addr×Value),
   Paired (fun (p:List Key×V) (q:List Key×Addr×Value)=>p.1=q.1/\H q.2.1=some (.tup (p.1.map kV))/\RelV p.2 q.2.2) kvs xs/\
   ∃ o es ep,h.get? a=some o/\o.ExactDict/\o.data= .dict es ep/\es.toList=xs.map (entryOfKey (tupleKind (jK7 P w)))/\(xs.map (·.1)).Nodup
 | .set S n=>h.SetOf (intKind P w) a S n
 | .ins C dx fs=>H dx=some (.own a)/\fs.length<=1000/\dx≠a/\h.get? a=some (instObj C dx)/\
   ∃ mA,h.Ns1 dx mA/\(∀ f,RelO (fs.lookup f) (mA f))/\PySem.Within mA (fs.map (·.1))
 | .own _=>∃ o,h.get? a=some o
 | .xd fs=>∃ mA,h.Ns1 a mA/\∀ f,RelO (fs.lookup f) (mA f)
 | .rng lo hi=>∃ t u v,h.get? a=some { cls:= .type "range",data:= .fields #[.int lo t, .int hi u, .int 1 v]}
 | .frz o u=>h.get? a=some o/\ObjOk H h a u
 | .tbl ps=>h.get? a=some { cls:= .none,data:= .fields ps}
 | .met f x=>h.get? a=some (methodObj (.ref f) (.ref x))
 | .ext φ=>φ h/\(∃ o,h.get? a=some o)/\∀ h1 h2:Heap,φ h1->(∀ o,h1.get? a=some o->h2.get? a=some o)->φ h2
def HOk (H:Hp)(h:Heap):Prop:=∀ a o,H a=some o->ObjOk P w H h a o
end
section
variable {P:Program}{w:World}{H H':Hp}{h h':Heap}{a:Addr}{o:HO}
theorem ObjOk.lt (x:ObjOk P w H h a o):a<h.objs.size:=by
 cases o with
 | lst xs=>obtain⟨_,_,_,_,e⟩:=x; exact au e
 | tup xs=>obtain⟨_,_,_,_,e⟩:=x; exact au e
 | dK kvs=>obtain⟨_,_,_,_,o,_,_,e,_⟩:=x; exact au e
 | dT kvs=>obtain⟨_,_,_,_,o,_,_,e,_⟩:=x; exact au e
 | set S n=>obtain⟨o,_,_,_,e,_⟩:=x; exact au e
 | ins C dx fs=>obtain⟨_,_,_,e,_⟩:=x; exact au e
 | own y=>obtain⟨_,e⟩:=x; exact au e
 | xd fs=>obtain⟨_,⟨_,_,_,e,_⟩,_⟩:=x; exact au e
 | rng lo hi=>obtain⟨_,_,_,e⟩:=x; exact au e
 | frz ob u=>obtain⟨e,_⟩:=x; exact au e
 | tbl ps=>exact au (show h.get? a=some _ from x)
 | met f y=>exact au (show h.get? a=some _ from x)
 | ext φ=>obtain⟨_,⟨_,e⟩,_⟩:=x; exact au e
theorem Paired.mapP {α β:Type}{F G:α->β->Prop} :∀ {l₁:List α}{l₂:List β},Paired F l₁ l₂->(∀ a b,F a b->G a b)->Paired G l₁ l₂
 | _,_, .nil,_=> .nil
 | _,_, .cons r t,f=> .cons (f _ _ r) (Paired.mapP t f)
theorem ObjOk.stay (x:ObjOk P w H h a o)(k:∀ b u,(b=a\/H b=some (.own a))->h.get? b=some u->h'.get? b=some u)
  (ho:∀ b,H b=some (.own a)->H' b=some (.own a)) (ht:∀ b xs,H b=some (.tup xs)->H' b=some (.tup xs)):ObjOk P w H' h' a o:=by
 induction o with
 | lst xs=>obtain⟨z,its,n,r,e⟩:=x; exact⟨z,its,n,r,k _ _ (.inl rfl) e⟩
 | tup xs=>obtain⟨z,its,r,n,e⟩:=x; exact⟨z,its,r,n,k _ _ (.inl rfl) e⟩
 | dK kvs=>obtain⟨z,y,vs,r,ob,es,ep,e,c⟩:=x; exact⟨z,y,vs,r,ob,es,ep,k _ _ (.inl rfl) e,c⟩
 | dT kvs=>
  obtain⟨z,y,xs,r,ob,es,ep,e,c⟩:=x
  exact⟨z,y,xs,Paired.mapP r fun p q z=>⟨z.1,ht _ _ z.2.1,z.2.2⟩,ob,es,ep,k _ _ (.inl rfl) e,c⟩
 | set S n=>obtain⟨ob,es,ep,t,e,c⟩:=x; exact⟨ob,es,ep,t,k _ _ (.inl rfl) e,c⟩
 | ins C dx fs=>
  obtain⟨d,z,ne,e,mA,⟨od,es,ep,e2,c⟩,r⟩:=x
  exact⟨ho _ d,z,ne,k _ _ (.inl rfl) e,mA,⟨od,es,ep,k _ _ (.inr d) e2,c⟩,r⟩
 | own y=>obtain⟨ob,e⟩:=x; exact⟨ob,k _ _ (.inl rfl) e⟩
 | xd fs=>obtain⟨mA,⟨od,es,ep,e,c⟩,r⟩:=x; exact⟨mA,⟨od,es,ep,k _ _ (.inl rfl) e,c⟩,r⟩
 | rng lo hi=>obtain⟨t,u,v,e⟩:=x; exact⟨t,u,v,k _ _ (.inl rfl) e⟩
 | frz ob u ih=>obtain⟨e,q⟩:=x; exact⟨k _ _ (.inl rfl) e,ih q⟩
 | tbl ps=>
  have e:h.get? a=some { cls:= .none,data:= .fields ps} :=x
  show h'.get? a=some { cls:= .none,data:= .fields ps}
  exact k a _ (.inl rfl) e
 | met f y=>
  have e:h.get? a=some (methodObj (.ref f) (.ref y)):=x
  show h'.get? a=some (methodObj (.ref f) (.ref y))
  exact k a _ (.inl rfl) e
 | ext φ=>obtain⟨p,⟨o,e⟩,st⟩:=x; exact⟨st _ _ p fun o q=>k _ _ (.inl rfl) q,⟨o,k _ _ (.inl rfl) e⟩,st⟩
theorem HOk.lt (x:HOk P w H h)(e:H a=some o):a<h.objs.size:=(x a o e).lt
theorem HOk.fresh (x:HOk P w H h)(e:h.objs.size<=a):H a=none:=by
 cases q:H a with
 | none=>rfl
 | some u=>exact absurd (aG (x.lt q) e) (cg _)
theorem HOk.kept (x:HOk P w H h)(k:∀ b u,h.get? b=some u->h'.get? b=some u):HOk P w H h':=fun a o e=>
 (x a o e).stay (fun b u _ q=>k b u q) (fun _ q=>q) fun _ _ q=>q
theorem HOk.laid (x:HOk P w H h)(k:∀ b u,h.get? b=some u->h'.get? b=some u)(hp:h.objs.size<=a)(new:ObjOk P w (upd H a o) h' a o):HOk P w (upd H a o) h':=fun b u e=>by
 have hn:=x.fresh hp
 by_cases hb:b=a
 ·subst hb; rw[j8] at e; cases e; exact new
 ·rw[jG hb] at e
  exact(x b u e).stay (fun c v _ q=>k c v q) (fun c q=>by rw[jG (jD q hn)]; exact q) fun c xs q=>by rw[jG (jD q hn)]; exact q
end
def Rd (H:Hp)(a:Addr)(u:HO):Prop:=H a=some u\/∃ o,H a=some (.frz o u)
theorem Rd.ok {P:Program}{w:World}{H:Hp}{h:Heap}{a:Addr}{u:HO}(r:Rd H a u)(x:HOk P w H h):ObjOk P w H h a u:=by
 rcases r with r | ⟨o,r⟩
 ·exact x a u r
 ·obtain⟨_,q⟩:=x a _ r
  exact q
def Mut:Option HO->Prop
 | some (.lst _)=>True
 | some (.dK _)=>True
 | some (.dT _)=>True
 | some (.set _ _)=>True
 | some (.ins _ _ _)=>True
 | some (.ext _)=>True
 | _=>False
section
variable {P:Program}{w:World}{H:Hp}{h h':Heap}{x e:Addr}{o':HO}
theorem HOk.write (ok:HOk P w H h)(mu:Mut (H x))(he:e=x\/H e=some (.own x))(k:∀ b u,b≠e->h.get? b=some u->h'.get? b=some u)(heo:∃ u,h'.get? e=some u)
  (new:ObjOk P w (upd H x o') h' x o'):HOk P w (upd H x o') h':=fun b u q=>by
 have nown:∀ c y,H c=some (.own y)->c≠x:=fun c y r z=>by subst z; rw[r] at mu; exact mu
 have ntup:∀ c xs,H c=some (.tup xs)->c≠x:=fun c xs r z=>by subst z; rw[r] at mu; exact mu
 by_cases hb:b=x
 ·subst hb; rw[j8] at q; cases q; exact new
 ·rw[jG hb] at q
  by_cases hbe:b=e
  ·have q':H b=some (.own x):=by
    rcases he with z | z
    ·exact absurd (hbe.trans z) hb
    ·rw[hbe]; exact z
   rw[q] at q'; cases q'
   obtain⟨v,hv⟩:=heo
   exact⟨v,by rw[hbe]; exact hv⟩
  ·refine(ok b u q).stay (fun c v hc r=>k c v ?_ r) (fun c r=>by rw[jG (nown c b r)]; exact r) fun c xs r=>by rw[jG (ntup c xs r)]; exact r
   rcases hc with rfl | hc
   ·exact hbe
   ·rintro rfl
    rcases he with z | z
    ·exact nown c b hc z
    ·rw[hc] at z; cases z; exact hb rfl
end
structure Un (fs ex:List Addr)(H H':Hp)(h h':Heap):Prop where
 keep:∀ b o,h.get? b=some o->H b=none->b∉fs->b∉ex->h'.get? b=some o
 slot:∀ b o,h.get? b=some o->H b=none->b∈fs->b∉ex->∃ sl,h'.get? b=some { o with slots:=sl}
 free:∀ b o,h.get? b=some o->H b=none->b∉ex->H' b=none
 there:∀ b o,h.get? b=some o->b∉ex->∃ o',h'.get? b=some o'
 tups:∀ b xs,H b=some (.tup xs)->H' b=some (.tup xs)
 frzs:∀ b o u,H b=some (.frz o u)->H' b=some (.frz o u)
 tbls:∀ b ps,H b=some (.tbl ps)->∃ more,H' b=some (.tbl (ps++more))
section
variable {fs fs' ex ex':List Addr}{H H1 H2:Hp}{h h1 h2 h':Heap}{a x e:Addr}{o:HO}
theorem Un.any (u:Un fs ex H H1 h h1){b:Addr}{ob:Obj}(q:h.get? b=some ob)(n:H b=none)(hx:b∉ex):∃ sl,h1.get? b=some { ob with slots:=sl} :=by
 by_cases hb:b∈fs
 ·exact u.slot b ob q n hb hx
 ·exact⟨ob.slots,u.keep b ob q n hb hx⟩
theorem Un.kept (k:∀ b u,h.get? b=some u->h'.get? b=some u):Un fs ex H H h h':=
 ⟨fun b ob q _ _ _=>k b ob q,fun b ob q _ _ _=>⟨ob.slots,k b ob q⟩,fun _ _ _ n _=>n,fun b ob q _=>⟨ob,k b ob q⟩,fun _ _ q=>q,fun _ _ _ q=>q,fun _ ps q=>⟨#[],by rw[q]; simp⟩⟩
theorem Un.refl:Un fs ex H H h h:=Un.kept fun _ _ q=>q
theorem Un.laid (k:∀ b u,h.get? b=some u->h'.get? b=some u)(hp:h.objs.size<=a)(hn:H a=none):Un fs ex H (upd H a o) h h' where
 keep:=fun b u q _ _ _=>k b u q
 slot:=fun b u q _ _ _=>⟨u.slots,k b u q⟩
 free:=fun b u q n _=>by rw[jG (aN (aG (au q) hp))]; exact n
 there:=fun b u q _=>⟨u,k b u q⟩
 tups:=fun b xs q=>by rw[jG (jD q hn)]; exact q
 frzs:=fun b u xs q=>by rw[jG (jD q hn)]; exact q
 tbls:=fun b ps q=>⟨#[],by rw[jG (jD q hn),q]; simp⟩
theorem Un.write (mu:Mut (H x))(he:e=x\/H e=some (.own x))(k:∀ b u,b≠e->h.get? b=some u->h'.get? b=some u)(heo:∃ u,h'.get? e=some u):Un fs ex H (upd H x o) h h':=by
 have hx:∀ b,H b=none->b≠x:=fun b n z=>by subst z; rw[n] at mu; exact mu
 have hb:∀ b,H b=none->b≠e:=fun b n z=>by
  subst z
  rcases he with r | r
  ·exact hx b n r
  ·rw[n] at r; cases r
 have hm:∀ b u,H b=some u->¬ Mut (some u)->b≠x:=fun b u q nm z=>by subst z; rw[q] at mu; exact nm mu
 refine⟨fun b u q n _ _=>k b u (hb b n) q,fun b u q n _ _=>⟨u.slots,k b u (hb b n) q⟩,fun b u q n _=>by rw[jG (hx b n)]; exact n,fun b u q _=>?_,
  fun b xs q=>by rw[jG (hm b _ q fun z=>z)]; exact q,fun b u xs q=>by rw[jG (hm b _ q fun z=>z)]; exact q,fun b ps q=>⟨#[],by rw[jG (hm b _ q fun z=>z),q]; simp⟩⟩
 by_cases hbe:b=e
 ·subst hbe; exact heo
 ·exact⟨u,k b u hbe q⟩
end
def trk (h:Heap)(H:Hp):List Addr:=(List.range h.objs.size).filter fun a=>(H a).isSome
def hidT (h:Heap)(H:Hp):Heap:=PySem.W.hideAll h (trk h H)
theorem jKR (h:Heap)(H:Hp):(hidT h H).objs.size=h.objs.size:=PySem.W.hideAll_size _ _
theorem jMU {h:Heap}{H:Hp}{b:Addr}{o:Obj}(e:h.get? b=some o)(n:H b=none):(hidT h H).get? b=some o:=
 PySem.W.hideAll_get _ e fun hm=>by
  have q:(H b).isSome=true:=(eJ.mp hm).2
  rw[n] at q; simp at q
theorem jPA {h:Heap}{H:Hp}{b:Addr}{o:Obj}(e:(hidT h H).get? b=some o):h.get? b=some o/\H b=none:=by
 have e':h.get? b=some o:=PySem.W.of_hideAll (trk h H) e
 refine⟨e',?_⟩
 cases q:H b with
 | none=>rfl
 | some x=>
  have hm:b∈trk h H:=eJ.mpr ⟨bR.mpr (au e'),by simp [q]⟩
  have z:(hidT h H).get? b=none:=PySem.W.hideAll_none (trk h H) hm
  rw[z] at e; cases e
end L2
namespace L2
open PySem PySem.Spec PyProof.Rows
structure Mod (K:W.Frag)(mg:Str->Option Value)(base:Heap):Prop where
 kin:K.In base
 glob:base.Ns mainGlobals mg
 blt:∃ mb,base.Ns builtinsNs mb/\∀ x:Str,x≠ "__name__" ->mb x=bootBuiltins x
 nolimit:base.NoLimit
structure Cx where
 prog:Program
 w:World
 K:W.Frag
 mg:Str->Option Value
 base:Heap
 A:Around
 N:List Str
 s₀:Shared
 H₀:Hp
 env:Env
 outer:List Env
 stack:List Env
 ex:List Addr
 fn:Str->Bool
 calm:Bool
 pn:List (Addr×Obj)
 xe:Value->Shared->Prop
def frs (l:List Env):List Addr:=l.filterMap (·.frame)
abbrev Cx.fs (X:Cx):List Addr:=frs X.outer
def Vis (sc:Scope)(x:Str):Prop:=sc.names.lookup x=some .local\/sc.names.lookup x=some .cell\/sc.names.lookup x=some .free
def Loc (sc:Scope)(x:Str):Prop:=sc.names.lookup x=some .local\/sc.names.lookup x=some .cell
def Look (env:Env)(h:Heap)(m:Str->Option Value)(x:Str)(u:Value):Prop:=
 (env.kindOf x=some .local/\m x=some u)\/((env.kindOf x=some .cell\/env.kindOf x=some .free)/\∃ c,env.cells.lookup x=some c/\h.IsCell c (some u))
structure Cx.Ok (X:Cx):Prop where
 mod:Mod X.K X.mg X.base
 kind:X.env.scope.kind= .function
 glob:X.env.globals=mainGlobals
 blt:X.env.builtins=builtinsNs
 above:X.s₀.heap.objs.size<=X.env.locals
 inj:∀ x y c,X.env.cells.lookup x=some c->X.env.cells.lookup y=some c->x=y
 has:∀ x,(X.env.kindOf x=some .cell\/X.env.kindOf x=some .free)->∃ c,X.env.cells.lookup x=some c
 cab:∀ x c,X.fn x=true->X.env.cells.lookup x=some c->X.s₀.heap.objs.size<=c
 hd:X.calm=true->X.A.handled=none
 frames:X.A.frames=some X.stack
 stk:X.stack=X.outer\/(X.stack=X.env::X.outer/\X.env.frame=some X.env.locals)
 exf:∀ b∈X.ex,b≠X.env.locals/\∀ x c,X.env.cells.lookup x=some c->c≠b
 bs:∀ b o,X.base.get? b=some o->X.s₀.heap.get? b=some o/\X.H₀ b=none
 bsz:X.base.objs.size<=X.s₀.heap.objs.size
 noex:∀ b o,X.base.get? b=some o->b∉X.ex
 exfs:∀ b∈X.ex,b∉X.fs
 funs:X.s₀.heap.FunFrames X.base X.outer
 frf:∀ b∈X.fs,X.H₀ b=none
structure Inv (X:Cx)(pins:List (Addr×Obj))(σ:List (Option V))(H:Hp)(s:Shared):Prop where
 ok:X.Ok
 os:s.os=X.s₀.os
 bare:AllBare s.gens
 base:Un X.fs X.ex X.H₀ H X.s₀.heap s.heap
 loc:∃ m,s.heap.Ns X.env.locals m/\∀ (i:Nat) (x:Str) (v:V),X.N[i]?=some x->σ[i]?=some (some v)->Vis X.env.scope x->∃ u,RelV v u/\Look X.env s.heap m x u
 cell:∀ x c,X.env.cells.lookup x=some c->∃ v,s.heap.IsCell c v
 free:H X.env.locals=none
 freeC:∀ x c,X.env.cells.lookup x=some c->H c=none
 pin:∀ p∈X.pn++pins,s.heap.get? p.1=some p.2/\H p.1=none/\p.1≠X.env.locals/\p.1∉X.fs/\∀ v,p.2.data≠ .cell v
 hok:HOk X.prog X.w H s.heap
 len:σ.length=X.N.length
section
variable {X:Cx}{pins:List (Addr×Obj)}{σ:List (Option V)}{H H':Hp}{s:Shared}{h':Heap}
theorem Cx.Ok.nofr (ok:X.Ok){b:Addr}{o:Obj}(e:X.base.get? b=some o):b∉X.fs:=fun hb=>by
 have:=(ok.funs.mem hb).1
 rw[e] at this; cases this
theorem Inv.bs (I:Inv X pins σ H s):∀ b o,X.base.get? b=some o->s.heap.get? b=some o/\H b=none:=fun b o e=>
 ⟨I.base.keep b o (I.ok.bs b o e).1 (I.ok.bs b o e).2 (I.ok.nofr e) (I.ok.noex b o e),I.base.free b o (I.ok.bs b o e).1 (I.ok.bs b o e).2 (I.ok.noex b o e)⟩
theorem Inv.bk (I:Inv X pins σ H s):∀ b o,X.base.get? b=some o->s.heap.get? b=some o:=fun b o e=>(I.bs b o e).1
theorem Inv.mod (I:Inv X pins σ H s):Mod X.K X.mg X.base:=I.ok.mod
theorem Inv.kIn (I:Inv X pins σ H s):X.K.In s.heap:=I.ok.mod.kin.keeps I.bk
theorem Inv.lt (I:Inv X pins σ H s):X.env.locals<s.heap.objs.size:=let ⟨_,hn,_⟩:=I.loc; hn.lt
theorem Inv.sz (I:Inv X pins σ H s):X.s₀.heap.objs.size<=s.heap.objs.size:=aO I.ok.above (dD I.lt)
theorem Inv.nofs (I:Inv X pins σ H s){a:Addr}(h:s.heap.objs.size<=a):a∉X.fs:=fun hb=>by
 obtain⟨_,o,ho,_⟩:=I.ok.funs.mem hb
 exact absurd (aG (au ho) (aO I.sz h)) (cg _)
theorem Inv.cne (I:Inv X pins σ H s):∀ x c,X.env.cells.lookup x=some c->c≠X.env.locals:=fun x c e z=>by
 obtain⟨v,o,ho,hd⟩:=I.cell x c e
 obtain⟨m,⟨o',es,ep,ho',hd',_⟩,_⟩:=I.loc
 rw[z,ho'] at ho; cases ho; rw[hd'] at hd; cases hd
theorem Inv.funs (I:Inv X pins σ H s):s.heap.FunFrames X.base X.outer:=by
 have all:∀ (l:List Env),(∀ b∈frs l,b∈X.fs)->X.s₀.heap.FunFrames X.base l->s.heap.FunFrames X.base l:=by
  intro l
  induction l with
  | nil=>intro _ _; trivial
  | cons env r ih=>
   intro hs hl
   obtain⟨hk,⟨L,o,hf,hn,ho,hd⟩,hr⟩:=hl
   have hL:L∈X.fs:=hs L (by unfold frs; rw[eU,hf]; exact am)
   obtain⟨sl,e⟩:=I.base.slot L o ho (I.ok.frf L hL) hL fun z=>I.ok.exfs L z hL
   exact⟨hk,⟨L,_,hf,hn,e,hd⟩,ih (fun b hb=>hs b (by unfold frs; rw[eU,hf]; exact ar _ hb)) hr⟩
 exact all X.outer (fun _ hb=>hb) I.ok.funs
theorem Inv.stack (I:Inv X pins σ H s):s.heap.FunFrames X.base X.stack:=by
 rcases I.ok.stk with e | ⟨e,hf⟩
 ·rw[e]; exact I.funs
 ·rw[e]
  obtain⟨m,hn,_⟩:=I.loc
  refine .cons (by rw[I.ok.kind]; decide) hf hn ?_ I.funs
  exact ej (aO I.ok.bsz I.ok.above)
theorem Inv.stkSub (I:Inv X pins σ H s):∀ b∈frs X.stack,b∈X.env.locals::X.fs:=fun b hb=>by
 rcases I.ok.stk with e | ⟨e,hf⟩
 ·rw[e] at hb; exact ar _ hb
 ·rw[e] at hb
  unfold frs at hb
  rw[eU,hf] at hb
  exact hb
theorem Inv.stkFree (I:Inv X pins σ H s):∀ b∈frs X.stack,H b=none:=fun b hb=>by
 rcases av.mp (I.stkSub b hb) with e | hb
 ·rw[e]; exact I.free
 ·obtain⟨_,o,ho,_⟩:=I.ok.funs.mem hb
  exact I.base.free b o ho (I.ok.frf b hb) fun z=>I.ok.exfs b z hb
theorem Inv.step {g':Array GenState}{t':Nat}{d':Drawn}{ch:List Addr}(I:Inv X pins σ H s)
  (hch:∀ b∈ch,(b∈X.ex\/X.s₀.heap.objs.size<=b)/\b≠X.env.locals/\(∀ x c,X.env.cells.lookup x=some c->c≠b)/\∀ p∈X.pn++pins,p.1≠b)
  (keep:∀ b o,b≠X.env.locals->b∉X.fs->b∉ch->s.heap.get? b=some o->H b=none->h'.get? b=some o)
  (slot:∀ b o,b≠X.env.locals->b∈X.fs->b∉ch->s.heap.get? b=some o->H b=none->∃ sl,h'.get? b=some { o with slots:=sl}) (free:∀ b o,b∉ch->s.heap.get? b=some o->H b=none->H' b=none)
  (there:∀ b o,b∉ch->s.heap.get? b=some o->∃ o',h'.get? b=some o')
  (tups:∀ b xs,H b=some (.tup xs)->H' b=some (.tup xs)) (frzs:∀ b o u,H b=some (.frz o u)->H' b=some (.frz o u)) (tbls:∀ b ps,H b=some (.tbl ps)->∃ more,H' b=some (.tbl (ps++more)))
  (ns:∀ m,s.heap.Ns X.env.locals m->h'.Ns X.env.locals m) (hok:HOk X.prog X.w H' h') (hg:AllBare g'):
  Inv X pins σ H' { s with heap:=h',gens:=g',drawn:=d',toks:=t'} :=by
 have neL:∀ b o,X.s₀.heap.get? b=some o->b≠X.env.locals:=fun b o e=>aN (aG (au e) I.ok.above)
 have neC:∀ b o,X.s₀.heap.get? b=some o->b∉X.ex->b∉ch:=fun b o e hx hb=>by
  rcases (hch b hb).1 with z | z
  ·exact hx z
  ·exact absurd (aG (au e) z) (cg _)
 have cellK:∀ x c,X.env.cells.lookup x=some c->∀ v,s.heap.IsCell c v->h'.IsCell c v:=fun x c e v ⟨o,ho,hd⟩=>by
  have nch:c∉ch:=fun z=>(hch c z).2.2.1 x c e rfl
  by_cases hc:c∈X.fs
  ·obtain⟨sl,q⟩:=slot c o (I.cne x c e) hc nch ho (I.freeC x c e)
   exact⟨_,q,hd⟩
  ·exact⟨o,keep c o (I.cne x c e) hc nch ho (I.freeC x c e),hd⟩
 refine⟨I.ok,I.os,hg,⟨fun b o e n hb hx=>?_,fun b o e n hb hx=>?_,fun b o e n hx=>?_,fun b o e hx=>?_,fun b xs e=>tups b xs (I.base.tups b xs e),fun b o xs e=>frzs b o xs (I.base.frzs b o xs e),fun b ps e=>?_⟩,?_,fun x c e=>?_,?_,fun x c e=>?_,fun p hp=>?_,hok,I.len⟩
 ·exact keep b o (neL b o e) hb (neC b o e hx) (I.base.keep b o e n hb hx) (I.base.free b o e n hx)
 ·obtain⟨sl,e1⟩:=I.base.slot b o e n hb hx
  obtain⟨sl',e2⟩:=slot b _ (neL b o e) hb (neC b o e hx) e1 (I.base.free b o e n hx)
  exact⟨sl',e2⟩
 ·obtain⟨o',e1⟩:=I.base.there b o e hx
  exact free b o' (neC b o e hx) e1 (I.base.free b o e n hx)
 ·obtain⟨o',e1⟩:=I.base.there b o e hx
  exact there b o' (neC b o e hx) e1
 ·obtain⟨m1,e1⟩:=I.base.tbls b ps e
  obtain⟨m2,e2⟩:=tbls b _ e1
  exact⟨m1++m2,by rw[e2,gT]⟩
 ·obtain⟨m,hn,hl⟩:=I.loc
  refine⟨m,ns m hn,fun i x v e1 e2 e3=>?_⟩
  obtain⟨u,r,l⟩:=hl i x v e1 e2 e3
  refine⟨u,r,?_⟩
  rcases l with l | ⟨k,c,e,z⟩
  ·exact .inl l
  ·exact .inr ⟨k,c,e,cellK x c e _ z⟩
 ·obtain⟨v,z⟩:=I.cell x c e
  exact⟨v,cellK x c e v z⟩
 ·obtain⟨m,⟨o,_,_,ho,_⟩,_⟩:=I.loc
  exact free _ o (fun z=>(hch _ z).2.1 rfl) ho I.free
 ·obtain⟨v,o,ho,hd⟩:=I.cell x c e
  exact free c o (fun z=>(hch c z).2.2.1 x c e rfl) ho (I.freeC x c e)
 ·obtain⟨e,n,ne,nf,d⟩:=I.pin p hp
  have nch:p.1∉ch:=fun z=>(hch p.1 z).2.2.2 p hp rfl
  exact⟨keep p.1 p.2 ne nf nch e n,free p.1 p.2 nch e n,ne,nf,d⟩
theorem Inv.un {t':Nat}(I:Inv X pins σ H s)(u:Un X.fs [] H H' s.heap h')(hok:HOk X.prog X.w H' h'):Inv X pins σ H' { s with heap:=h',toks:=t'} :=by
 obtain⟨m,⟨o,es,ep,ho,r⟩,_⟩:=id I.loc
 obtain⟨sl,hL⟩:=u.any ho I.free (by simp)
 exact I.step (g':=s.gens) (d':=s.drawn) (ch:=[]) (fun _ z=>nomatch z) (fun b o _ hb _ e n=>u.keep b o e n hb (by simp)) (fun b o _ hb _ e n=>u.slot b o e n hb (by simp)) (fun b o _ e n=>u.free b o e n (by simp)) (fun b o _ e=>u.there b o e (by simp)) u.tups u.frzs u.tbls (fun m' hm=>by
  obtain⟨o',es',ep',ho',r'⟩:=hm
  rw[ho] at ho'; cases ho'
  exact⟨_,es',ep',hL,r'⟩) hok I.bare
theorem Inv.call {g':Array GenState}{t':Nat}{d':Drawn}{ch:List Addr}(I:Inv X pins σ H s)(u:Un (frs X.stack) ch H H' s.heap h')(hok:HOk X.prog X.w H' h')(hg:AllBare g')
  (hch:∀ b∈ch,(b∈X.ex\/X.s₀.heap.objs.size<=b)/\b≠X.env.locals/\(∀ x c,X.env.cells.lookup x=some c->c≠b)/\∀ p∈X.pn++pins,p.1≠b):
  Inv X pins σ H' { s with heap:=h',gens:=g',drawn:=d',toks:=t'} :=by
 obtain⟨m,⟨o,es,ep,ho,r⟩,_⟩:=id I.loc
 obtain⟨sl,hL⟩:=u.any ho I.free fun z=>(hch _ z).2.1 rfl
 exact I.step (ch:=ch) hch (fun b o hL hb hc e n=>u.keep b o e n (fun z=>(av.mp (I.stkSub b z)).elim hL hb) hc) (fun b o _ _ hc e n=>u.any e n hc) (fun b o hc e n=>u.free b o e n hc) (fun b o hc e=>u.there b o e hc) u.tups u.frzs u.tbls (fun m' hm=>by
  obtain⟨o',es',ep',ho',r'⟩:=hm
  rw[ho] at ho'; cases ho'
  exact⟨_,es',ep',hL,r'⟩) hok hg
theorem Inv.turned {t':Nat}{it:Addr}(I:Inv X pins σ H s)(k:∀ b o,b≠it->s.heap.get? b=some o->h'.get? b=some o)(hn:H it=none)(hL:it≠X.env.locals)
  (h1:it∈X.ex\/X.s₀.heap.objs.size<=it) (h2:∀ x c,X.env.cells.lookup x=some c->c≠it) (h3:∀ p∈X.pn++pins,p.1≠it):Inv X pins σ H { s with heap:=h',toks:=t'} :=by
 have nit:∀ b u,H b=some u->b≠it:=fun b u e z=>by rw[z,hn] at e; cases e
 refine I.step (g':=s.gens) (d':=s.drawn) (ch:=[it]) (fun b hb=>?_) (fun b o _ _ hc e _=>k b o (fun z=>hc (by simp [z])) e) (fun b o _ _ hc e _=>⟨o.slots,k b o (fun z=>hc (by simp [z])) e⟩) (fun _ _ _ _ n=>n)
  (fun b o hc e=>⟨o,k b o (fun z=>hc (by simp [z])) e⟩) (fun _ _ e=>e) (fun _ _ _ e=>e) (fun b ps e=>⟨#[],by rw[e]; simp⟩) (fun m hm=>?_) (fun b u e=>?_) I.bare
 ·have e:b=it:=by simpa using hb
  subst e
  exact⟨h1,hL,h2,h3⟩
 ·obtain⟨o,es,ep,ho,r⟩:=hm
  exact⟨o,es,ep,k _ o (bY hL) ho,r⟩
 ·refine(I.hok b u e).stay (fun c v hc q=>k c v ?_ q) (fun _ q=>q) fun _ _ q=>q
  rcases hc with z | z
  ·rw[z]; exact nit b u e
  ·exact nit c _ z
theorem Inv.tok (I:Inv X pins σ H s)(t:Nat):Inv X pins σ H { s with toks:=t} :=I.un (h':=s.heap) (t':=t) Un.refl I.hok
theorem Inv.kept {t':Nat}(I:Inv X pins σ H s)(k:∀ b u,s.heap.get? b=some u->h'.get? b=some u):Inv X pins σ H { s with heap:=h',toks:=t'} :=I.un (Un.kept k) (I.hok.kept k)
theorem Inv.laid {a:Addr}{o:HO}{t':Nat}(I:Inv X pins σ H s)(k:∀ b u,s.heap.get? b=some u->h'.get? b=some u)(hp:s.heap.objs.size<=a)(new:ObjOk X.prog X.w (upd H a o) h' a o):
  Inv X pins σ (upd H a o) { s with heap:=h',toks:=t'} :=I.un (Un.laid k hp (I.hok.fresh hp)) (I.hok.laid k hp new)
theorem Inv.write {x e:Addr}{o:HO}{t':Nat}(I:Inv X pins σ H s)(mu:Mut (H x))(he:e=x\/H e=some (.own x))(k:∀ b u,b≠e->s.heap.get? b=some u->h'.get? b=some u)(heo:∃ u,h'.get? e=some u)
  (new:ObjOk X.prog X.w (upd H x o) h' x o):Inv X pins σ (upd H x o) { s with heap:=h',toks:=t'} :=I.un (Un.write mu he k heo) (I.hok.write mu he k heo new)
theorem Inv.pins_of {pins':List (Addr×Obj)}(I:Inv X pins σ H s)(h:∀ p∈pins',s.heap.get? p.1=some p.2/\H p.1=none/\p.1≠X.env.locals/\p.1∉X.fs/\∀ v,p.2.data≠ .cell v):Inv X pins' σ H s:=
 ⟨I.ok,I.os,I.bare,I.base,I.loc,I.cell,I.free,I.freeC,fun p hp=>(bJ.mp hp).elim (fun z=>I.pin p (ek _ z)) (h p),I.hok,I.len⟩
theorem jHB {N:List Str}(hN:N.Nodup){i j:Nat}{x:Str}(a:N[i]?=some x)(b:N[j]?=some x):i=j:=by
 obtain⟨h1,e1⟩:=aV.mp a
 obtain⟨h2,e2⟩:=aV.mp b
 exact(List.getElem_inj hN).mp (e1.trans e2.symm)
theorem jF0 {M:Model}{A:Around}{E:Value->Shared->Prop}{i:Nat}{x:Str}{v:V}{u:Value}{Q:Unit->Shared->Prop}(I:Inv X pins σ H s)(hN:X.N.Nodup)(hi:X.N[i]?=some x)(hx:Loc X.env.scope x)(r:RelV v u)
  (h:∀ s',Inv X pins (σ.set i (some v)) H s'->(∃ a,Heap.SameBut a s.heap s'.heap/\(a=X.env.locals\/X.env.cells.lookup x=some a))->Q () s') (hf:X.fn x=true\/X.env.scope.names.lookup x=some .local:=by first | exact .inl rfl | exact .inr rfl | assumption):wpAny M A (storeName X.env x u) Q E s:=by
 obtain⟨m,hn,hl⟩:=id I.loc
 have hcls:(X.env.scope.kind== .class || (X.env.scope.kind== .module&&X.env.locals != X.env.globals))=false:=by rw[I.ok.kind]; rfl
 have hiσ:i<σ.length:=by rw[I.len]; exact(aV.mp hi).1
 have cne:=I.cne
 have tracked:∀ {a:Addr}{h':Heap},(∃ o,s.heap.get? a=some o/\H a=none)->Heap.SameBut a s.heap h'->HOk X.prog X.w H h':=fun {a h'} ha hs b ob e=>by
  obtain⟨_,_,hfree⟩:=ha
  refine(I.hok b ob e).stay (fun c w' hc q=>(hs.2 c ?_).trans q) (fun _ q=>q) fun _ _ q=>q
  rintro rfl
  rcases hc with rfl | hc
  ·rw[hfree] at e; cases e
  ·rw[hfree] at hc; cases hc
 rcases hx with hk | hk
 ·refine wpAny_storeName_local hk hn (fun h' hn' hs=>?_) hcls
  obtain⟨oL,_,_,hoL,_⟩:=id hn
  refine h _ ⟨I.ok,I.os,I.bare,⟨fun b o e n hb hx=>?_,fun b o e n hb hx=>?_,I.base.free,fun b o e hx=>?_,I.base.tups,I.base.frzs,I.base.tbls⟩,⟨_,hn',fun j y v' e1 e2 e3=>?_⟩,fun y c e=>?_,I.free,I.freeC,fun p hp=>?_,tracked ⟨oL,hoL,I.free⟩ hs,by simpa using I.len⟩ ⟨_,hs, .inl rfl⟩
  ·exact(hs.2 b (aN (aG (au e) I.ok.above))).trans (I.base.keep b o e n hb hx)
  ·obtain⟨sl,e1⟩:=I.base.slot b o e n hb hx
   exact⟨sl,(hs.2 b (aN (aG (au e) I.ok.above))).trans e1⟩
  ·obtain⟨o',e1⟩:=I.base.there b o e hx
   exact⟨o',(hs.2 b (aN (aG (au e) I.ok.above))).trans e1⟩
  ·by_cases hj:j=i
   ·subst hj
    rw[hi] at e1; cases e1
    rw[dE hiσ] at e2
    cases e2
    exact⟨u,r, .inl ⟨hk,by simp⟩⟩
   ·rw[eD (bY hj)] at e2
    obtain⟨u',r',q⟩:=hl j y v' e1 e2 e3
    refine⟨u',r',?_⟩
    rcases q with ⟨k,e⟩ | ⟨k,c,e,z⟩
    ·refine .inl ⟨k,?_⟩
     have:y≠x:=fun e=>hj (jHB hN e1 (e ▸ hi))
     simp [this,e]
    ·exact .inr ⟨k,c,e,z.sameBut hs (cne y c e)⟩
  ·obtain⟨w',z⟩:=I.cell y c e
   exact⟨w',z.sameBut hs (cne y c e)⟩
  ·obtain⟨e,n,ne,nf,d⟩:=I.pin p hp
   exact⟨(hs.2 p.1 ne).trans e,n,ne,nf,d⟩
 ·have hfn:X.fn x=true:=by
   rcases hf with z | z
   ·exact z
   ·rw[z] at hk; cases hk
  obtain⟨c,hc⟩:=I.ok.has x (.inl hk)
  obtain⟨w',z⟩:=I.cell x c hc
  refine wpAny_storeName_cell I.ok.kind hk hc z (fun h' hc' hs=>?_)
  obtain⟨oc,hoc,hocd⟩:=id z
  refine h { s with heap:=h'} ⟨I.ok,I.os,I.bare,⟨fun b o e n hb hx=>?_,fun b o e n hb hx=>?_,I.base.free,fun b o e hx=>?_,I.base.tups,I.base.frzs,I.base.tbls⟩,⟨m,hn.sameBut hs (bY (cne x c hc)),fun j y v' e1 e2 e3=>?_⟩,fun y c' e=>?_,I.free,I.freeC,fun p hp=>?_,tracked ⟨oc,hoc,I.freeC x c hc⟩ hs,by simpa using I.len⟩ ⟨c,hs, .inr hc⟩
  ·exact(hs.2 b (aN (aG (au e) (I.ok.cab x c hfn hc)))).trans (I.base.keep b o e n hb hx)
  ·obtain⟨sl,e1⟩:=I.base.slot b o e n hb hx
   exact⟨sl,(hs.2 b (aN (aG (au e) (I.ok.cab x c hfn hc)))).trans e1⟩
  ·obtain⟨o',e1⟩:=I.base.there b o e hx
   exact⟨o',(hs.2 b (aN (aG (au e) (I.ok.cab x c hfn hc)))).trans e1⟩
  ·by_cases hj:j=i
   ·subst hj
    rw[hi] at e1; cases e1
    rw[dE hiσ] at e2
    cases e2
    exact⟨u,r, .inr ⟨.inl hk,c,hc,hc'⟩⟩
   ·rw[eD (bY hj)] at e2
    obtain⟨u',r',q⟩:=hl j y v' e1 e2 e3
    refine⟨u',r',?_⟩
    rcases q with q | ⟨k,c',e,z'⟩
    ·exact .inl q
    ·refine .inr ⟨k,c',e,z'.sameBut hs ?_⟩
     rintro rfl
     exact hj (jHB hN e1 (I.ok.inj _ _ _ e hc ▸ hi))
  ·by_cases hcc:c'=c
   ·subst hcc; exact⟨_,hc'⟩
   ·obtain⟨w2,z2⟩:=I.cell y c' e
    exact⟨w2,z2.sameBut hs hcc⟩
  ·obtain⟨e,n,ne,nf,d⟩:=I.pin p hp
   refine⟨(hs.2 p.1 ?_).trans e,n,ne,nf,d⟩
   intro q
   rw[q,hoc] at e
   have q':oc=p.2:=aF e
   exact d w' (by rw[<- q']; exact hocd)
theorem jCM {M:Model}{A:Around}{E:Value->Shared->Prop}{i:Nat}{x:Str}{v:V}{u:Value}{Q:Unit->Shared->Prop}(I:Inv X pins σ H s)(hN:X.N.Nodup)(hi:X.N[i]?=some x)(hx:Loc X.env.scope x)(r:RelV v u)
  (h:∀ s',Inv X pins (σ.set i (some v)) H s'->Q () s') (hf:X.fn x=true\/X.env.scope.names.lookup x=some .local:=by first | exact .inl rfl | exact .inr rfl | assumption):wpAny M A (storeName X.env x u) Q E s:=
 jF0 I hN hi hx r (fun s' I' _=>h s' I') hf
theorem Inv.call' {s':Shared}{ch:List Addr}(I:Inv X pins σ H s)(ho:s'.os=s.os)(u:Un (frs X.stack) ch H H' s.heap s'.heap)(hok:HOk X.prog X.w H' s'.heap)(hg:AllBare s'.gens)
  (hch:∀ b∈ch,(b∈X.ex\/X.s₀.heap.objs.size<=b)/\b≠X.env.locals/\(∀ x c,X.env.cells.lookup x=some c->c≠b)/\∀ p∈X.pn++pins,p.1≠b):Inv X pins σ H' s':=by
 obtain⟨h',g',d',t',o'⟩:=s'
 have e:o'=s.os:=ho
 subst e
 exact I.call (g':=g') (t':=t') (d':=d') u hok hg hch
end
abbrev XK:=Value->Option Addr->Hp->Prop
abbrev St:=List (Option V)
abbrev VK:=V->Hp->Prop
abbrev TE:=St->Hp->VK->Prop
abbrev TT:=St->Hp->(Bool->Hp->Prop)->Prop
abbrev TA:=St->Hp->(List V->Hp->Prop)->Prop
structure Ends where
 nx:St->Hp->Prop
 rt:VK
 bk:St->Hp->Prop:=fun _ _=>False
 ct:St->Hp->Prop:=fun _ _=>False
abbrev TS:=Ends->St->Hp->Prop
def EP (X:Cx)(pins:List (Addr×Obj))(σ:St)(Q:VK)(u:Value)(s':Shared):Prop:=∃ v H',Inv X pins σ H' s'/\RelV v u/\Q v H'
def TP (X:Cx)(pins:List (Addr×Obj))(σ:St)(Q:Bool->Hp->Prop)(b:Bool)(s':Shared):Prop:=∃ H',Inv X pins σ H' s'/\Q b H'
def AP (X:Cx)(pins:List (Addr×Obj))(σ:St)(Q:List V->Hp->Prop)(us:List Value)(s':Shared):Prop:=∃ vs H',Inv X pins σ H' s'/\Vals vs us/\Q vs H'
def SP (X:Cx)(pins:List (Addr×Obj))(D:Ends)(f:Flow)(s':Shared):Prop:=
 match f with
 | .next=>∃ σ' H',Inv X pins σ' H' s'/\D.nx σ' H'
 | .brk=>∃ σ' H',Inv X pins σ' H' s'/\D.bk σ' H'
 | .cont=>∃ σ' H',Inv X pins σ' H' s'/\D.ct σ' H'
 | .ret u=>∃ v σ' H',Inv X pins σ' H' s'/\RelV v u/\D.rt v H'
def PE (X:Cx)(e:Expr)(t:TE):Prop:=
 ∀ (pins:List (Addr×Obj)) (s:Shared) (σ:St) (H:Hp) (Q:VK),Inv X pins σ H s->t σ H Q->wpAny (model X.prog X.w) X.A (eval e X.env) (EP X pins σ Q) X.xe s
def PT (X:Cx)(e:Expr)(t:TT):Prop:=
 ∀ (pins:List (Addr×Obj)) (s:Shared) (σ:St) (H:Hp) (Q:Bool->Hp->Prop),Inv X pins σ H s->t σ H Q->wpAny (model X.prog X.w) X.A (isTrue e X.env (eval e X.env)) (TP X pins σ Q) X.xe s
def PW (X:Cx)(e:Expr)(t:TT):Prop:=
 ∀ (whole:Sem Value) (pins:List (Addr×Obj)) (s:Shared) (σ:St) (H:Hp) (Q:Bool->Hp->Prop),Inv X pins σ H s->t σ H Q->wpAny (model X.prog X.w) X.A (isTrue e X.env whole) (TP X pins σ Q) X.xe s
theorem PW.pt {X:Cx}{e:Expr}{t:TT}(h:PW X e t):PT X e t:=h _
def PA (X:Cx)(es:List Expr)(t:TA):Prop:=
 ∀ (pos:Pos) (pins:List (Addr×Obj)) (s:Shared) (σ:St) (H:Hp) (Q:List V->Hp->Prop),Inv X pins σ H s->t σ H Q->wpAny (model X.prog X.w) X.A (spliced (backTo pos (starEach es X.env))) (AP X pins σ Q) X.xe s
def PS (X:Cx)(st:Stmt)(t:TS):Prop:=
 ∀ (pins:List (Addr×Obj)) (s:Shared) (σ:St) (H:Hp) (D:Ends),Inv X pins σ H s->t D σ H->wpAny (model X.prog X.w) X.A (exec st X.env) (SP X pins D) X.xe s
def PSs (X:Cx)(st:List Stmt)(t:TS):Prop:=
 ∀ (pins:List (Addr×Obj)) (s:Shared) (σ:St) (H:Hp) (D:Ends),Inv X pins σ H s->t D σ H->wpAny (model X.prog X.w) X.A (execs st X.env) (SP X pins D) X.xe s
theorem thn {α:Type}{t:Sem α}{Q Q':α->Shared->Prop}{M:Model}{A:Around}{E:Value->Shared->Prop}{s:Shared}(h:wpAny M A t Q E s)(hQ:∀ a s,Q a s->Q' a s):wpAny M A t Q' E s:=aZ h hQ fun _ _ x=>x
end L2
namespace L2
open PySem PySem.Spec PyProof.Rows
section
variable {X:Cx}
def tVar (i:Nat):TE:=fun σ H Q=>∃ v,σ[i]?=some (some v)/\Q v H
def tC (v:V):TE:=fun _ H Q=>Q v H
theorem jNH {i:Nat}{x:Str}{pos:Pos}(hN:X.N[i]?=some x)(hv:Vis X.env.scope x)(hd:(x==("__debug__" :Str))=false:=by decide)(hcd:(x==("__classdict__" :Str))=false:=by decide):PE X (.Name x pos) (tVar i):=by
 intro pins s σ H Q I h
 obtain⟨v,e,h⟩:=h
 obtain⟨m,hn,hl⟩:=I.loc
 obtain⟨u,r,l⟩:=hl i x v hN e hv
 have fin:EP X pins σ Q u s:=⟨v,H,I,r,h⟩
 rcases l with ⟨hk,hm⟩ | ⟨hk,c,hc,hcell⟩
 ·exact wpAny_Name (wpAny_loadName_local I.ok.kind hk hn hm fin) hd
 ·rcases hk with hk | hk
  ·exact wpAny_Name (wpAny_loadName_cell I.ok.kind hk hc hcell fin) hd
  ·exact wpAny_Name (wpAny_loadName_free I.ok.kind hk hc hcell fin hcd) hd
theorem kB {i j pos} :PE X (.Constant (.int i) j pos) (tC (.int i)):=fun _ _ _ H _ I h=>wpAny_Constant_int ⟨.int i,H,I.tok _,⟨_,rfl⟩,h⟩
theorem pe_bl {b j pos} :PE X (.Constant (.bool b) j pos) (tC (.bl b)):=fun _ _ _ H _ I h=>Constant_bool ⟨.bl b,H,I,rfl,h⟩
theorem jQT {j pos} :PE X (.Constant .none j pos) (tC .non):=fun _ _ _ H _ I h=>Constant_none ⟨.non,H,I,rfl,h⟩
theorem jQQ {x j pos} :PE X (.Constant (.str x) j pos) (tC (.str x)):=fun _ _ _ H _ I h=>fc ⟨.str x,H,I.tok _,⟨_,rfl⟩,h⟩
def Gl (X:Cx)(x:Str):Prop:=X.env.kindOf x=some .globalImplicit
theorem jBE {E:Value->Shared->Prop}{pins:List (Addr×Obj)}{s:Shared}{σ:St}{H:Hp}{x:Str}{u:Value}{pos:Pos}{Q:Value->Shared->Prop}(I:Inv X pins σ H s)(hg:Gl X x)(hm:X.mg x=some u)(h:Q u s)
  (hd:(x==("__debug__" :Str))=false:=by decide):wpAny (model X.prog X.w) X.A (eval (.Name x pos) X.env) Q E s:=
 fe I.ok.kind hg (Calls.loadGlobal_global (by rw[I.ok.glob]; exact I.mod.glob.keeps I.bk) hm h) hd
theorem jDS {E:Value->Shared->Prop}{pins:List (Addr×Obj)}{s:Shared}{σ:St}{H:Hp}{x:Str}{u:Value}{pos:Pos}{Q:Value->Shared->Prop}(I:Inv X pins σ H s)(hg:Gl X x)(hm:X.mg x=none)(hv:bootBuiltins x=some u)(h:Q u s)
  (hn:x≠ "__name__" :=by decide) (hd:(x==("__debug__" :Str))=false:=by decide):wpAny (model X.prog X.w) X.A (eval (.Name x pos) X.env) Q E s:=by
 obtain⟨mb,h1,h2⟩:=I.mod.blt
 exact fe I.ok.kind hg (Calls.loadGlobal_builtin (by rw[I.ok.glob]; exact I.mod.glob.keeps I.bk) hm (by rw[I.ok.blt]; exact h1.keeps I.bk) ((h2 x hn).trans hv) h) hd
theorem jOQ {x:Str}{v:V}{u:Value}{pos:Pos}(hg:Gl X x)(hm:X.mg x=some u)(r:RelV v u)(hd:(x==("__debug__" :Str))=false:=by decide):PE X (.Name x pos) (tC v):=
 fun _ _ _ H _ I h=>jBE I hg hm ⟨v,H,I,r,h⟩ hd
theorem jOV {x:Str}{v:V}{u:Value}{pos:Pos}(hg:Gl X x)(hm:X.mg x=none)(hv:bootBuiltins x=some u)(r:RelV v u)(hn:x≠ "__name__" :=by decide)(hd:(x==("__debug__" :Str))=false:=by decide):PE X (.Name x pos) (tC v):=
 fun _ _ _ H _ I h=>jDS I hg hm hv ⟨v,H,I,r,h⟩ hn hd
variable {a b:Expr}{ta tb:TE}{pos:Pos}
def tB (t:TE):TT:=fun σ H Q=>t σ H fun x H1=>∃ c,x= .bl c/\Q c H1
theorem jQH {e:Expr}{t:TE}(h:PE X e t)(he:∀ whole,isTrue e X.env whole=(do let v <- whole; standAt e.pos; holding [v] (truthy v)):=by intro _; rfl):PT X e (tB t):=by
 intro pins s σ H Q I hw
 refine isTrue_plain (thn (h pins s σ H _ I hw) fun v s1 ⟨x,H1,I1,r1,q1⟩=>?_) (he _)
 obtain⟨d,rfl,q⟩:=q1
 cases r1
 exact bS ⟨H1,I1,q⟩
variable {tA tB':TT}{rest:List Expr}
def tAnd (t u:TT):TT:=fun σ H Q=>t σ H fun c H1=>if c=true then u σ H1 Q else Q false H1
def tOr (t u:TT):TT:=fun σ H Q=>t σ H fun c H1=>if c=true then Q true H1 else u σ H1 Q
def tNot (t:TT):TT:=fun σ H Q=>t σ H fun c H1=>Q (!c) H1
theorem jOG (ha:PT X a tA):PW X (.BoolOp .And [a] pos) tA:=by
 intro wh pins s σ H Q I h
 refine isTrue_and (thn (ha pins s σ H Q I h) fun c s1 e=>?_)
 cases c with
 | true=>exact isTrue_and_nil e
 | false=>exact e
theorem jQF (ha:PT X a tA):PW X (.BoolOp .Or [a] pos) tA:=by
 intro wh pins s σ H Q I h
 refine isTrue_or (thn (ha pins s σ H Q I h) fun c s1 e=>?_)
 cases c with
 | false=>exact isTrue_or_nil e
 | true=>exact e
theorem jQG (ha:PT X a tA)(hb:PW X (.BoolOp .And (b::rest) pos) tB'):PW X (.BoolOp .And (a::b::rest) pos) (tAnd tA tB'):=by
 intro wh pins s σ H Q I h
 refine isTrue_and (thn (ha pins s σ H _ I h) fun c s1 ⟨H1,I1,q1⟩=>?_)
 cases c with
 | true=>exact hb wh pins s1 σ H1 Q I1 q1
 | false=>exact⟨H1,I1,q1⟩
theorem pw_or (ha:PT X a tA)(hb:PW X (.BoolOp .Or (b::rest) pos) tB'):PW X (.BoolOp .Or (a::b::rest) pos) (tOr tA tB'):=by
 intro wh pins s σ H Q I h
 refine isTrue_or (thn (ha pins s σ H _ I h) fun c s1 ⟨H1,I1,q1⟩=>?_)
 cases c with
 | true=>exact⟨H1,I1,q1⟩
 | false=>exact hb wh pins s1 σ H1 Q I1 q1
theorem jQI (ha:PT X a tA):PT X (.UnaryOp .Not a pos) (tNot tA):=by
 intro pins s σ H Q I h
 exact isTrue_not (ha pins s σ H (fun c H1=>Q (!c) H1) I h)
def tAndV (ta tb:TE):TE:=fun σ H Q=>ta σ H fun x H1=>∃ c,x= .bl c/\if c=true then tb σ H1 Q else Q (.bl false) H1
def tOrV (ta tb:TE):TE:=fun σ H Q=>ta σ H fun x H1=>∃ c,x= .bl c/\if c=true then Q (.bl true) H1 else tb σ H1 Q
def tNotV (ta:TE):TE:=fun σ H Q=>ta σ H fun x H1=>∃ c,x= .bl c/\Q (.bl (!c)) H1
theorem jQR {op}{t:TE}(h:PE X a t):PE X (.BoolOp op [a] pos) t:=fun pins s σ H Q I hw=>BoolOp_one (h pins s σ H Q I hw)
theorem jQV (ha:PE X a ta)(hb:PE X (.BoolOp .And (b::rest) pos) tb):PE X (.BoolOp .And (a::b::rest) pos) (tAndV ta tb):=by
 intro pins s σ H Q I h
 refine BoolOp_and (thn (ha pins s σ H _ I h) fun v s1 ⟨x,H1,I1,r1,q1⟩=>?_)
 obtain⟨c,rfl,q1⟩:=q1
 cases r1
 refine bS ?_
 cases c with
 | true=>exact hb pins s1 σ H1 Q I1 q1
 | false=>exact⟨.bl false,H1,I1,rfl,q1⟩
theorem pe_or (ha:PE X a ta)(hb:PE X (.BoolOp .Or (b::rest) pos) tb):PE X (.BoolOp .Or (a::b::rest) pos) (tOrV ta tb):=by
 intro pins s σ H Q I h
 refine BoolOp_or (thn (ha pins s σ H _ I h) fun v s1 ⟨x,H1,I1,r1,q1⟩=>?_)
 obtain⟨c,rfl,q1⟩:=q1
 cases r1
 refine bS ?_
 cases c with
 | false=>exact hb pins s1 σ H1 Q I1 q1
 | true=>exact⟨.bl true,H1,I1,rfl,q1⟩
theorem jQS (ha:PE X a ta):PE X (.UnaryOp .Not a pos) (tNotV ta):=by
 intro pins s σ H Q I h
 refine UnaryOp_ (thn (ha pins s σ H _ I h) fun v s1 ⟨x,H1,I1,r1,q1⟩=>?_)
 obtain⟨c,rfl,q1⟩:=q1
 cases r1
 exact not_of (bS ⟨.bl (!c),H1,I1,rfl,q1⟩)
def tIf (t:TT)(ta tb:TE):TE:=fun σ H Q=>t σ H fun c H1=>if c=true then ta σ H1 Q else tb σ H1 Q
theorem jM5 {c:Expr}(hc:PT X c tA)(ha:PE X a ta)(hb:PE X b tb):PE X (.IfExp c a b pos) (tIf tA ta tb):=by
 intro pins s σ H Q I h
 refine wpAny_IfExp (thn (hc pins s σ H _ I h) fun d s1 ⟨H1,I1,q1⟩=>?_)
 cases d with
 | true=>exact ha pins s1 σ H1 Q I1 q1
 | false=>exact hb pins s1 σ H1 Q I1 q1
end
end L2
namespace L2
open PySem PySem.Spec PyProof.Rows
def SqL (K:W.Frag)(H:Hp)(a:Addr)(xs:List V):Prop:=
 Rd H a (.lst xs)\/
  ∃ (o:Obj) (its:Array Value) (n:Nat),K.lookup a=some o/\o.cls= .type "list" /\o.dict=none/\o.data= .seq its n/\its.size<=sizeLine/\Vals xs its.toList
def SqT (K:W.Frag)(H:Hp)(a:Addr)(xs:List V):Prop:=
 Rd H a (.tup xs)\/
  ∃ (o:Obj) (its:Array Value) (n:Nat),K.lookup a=some o/\o.cls= .type "tuple" /\o.data= .seq its n/\its.size<=sizeLine/\Vals xs its.toList
noncomputable def absV:Value->Option V
 | .none=>some .non
 | .bool b=>some (.bl b)
 | .int i _=>some (.int i)
 | .str x _=>some (.str x)
 | .bytes b _=>some (.byt b)
 | .float b _=>some (.flt b)
 | .ref a=>some (.ref a)
 | .type n=>some (.ty n)
 | _=>none
theorem RelV.abs {x:V}{u:Value}(r:RelV x u):absV u=some x:=by
 cases x with
 | non=>cases r; rfl
 | bl _=>cases r; rfl
 | int _=>obtain⟨t,rfl⟩:=r; rfl
 | str _=>obtain⟨t,rfl⟩:=r; rfl
 | byt _=>obtain⟨t,rfl⟩:=r; rfl
 | flt _=>obtain⟨t,rfl⟩:=r; rfl
 | ref _=>cases r; rfl
 | ty _=>cases r; rfl
theorem RelV.inj {x y:V}{u:Value}(r:RelV x u)(q:RelV y u):x=y:=aF (r.abs.symm.trans q.abs)
theorem Vals.inj:∀ {xs ys:List V}{us:List Value},Vals xs us->Vals ys us->xs=ys
 | _,_,_, .nil, .nil=>rfl
 | _,_,_, .cons r t, .cons r' t'=>by rw[r.inj r',Vals.inj t t']
section
variable {X:Cx}{pins:List (Addr×Obj)}{σ:St}{H:Hp}{s:Shared}{a:Addr}{xs ys:List V}
theorem SqL.of {K:W.Frag}(h:H a=some (.lst xs)):SqL K H a xs:= .inl (.inl h)
theorem SqT.of {K:W.Frag}(h:H a=some (.tup xs)):SqT K H a xs:= .inl (.inl h)
theorem Inv.list (I:Inv X pins σ H s)(h:SqL X.K H a xs):∃ its:List Value,Vals xs its/\PlainL s.heap a its.toArray/\xs.length<=sizeLine:=by
 rcases h with h | ⟨o,its,n,hk,hc,hd,hs,hz,r⟩
 ·obtain⟨z,its,n,r,e⟩:=h.ok I.hok
  exact⟨its,r,⟨_,n,e,rfl,rfl,rfl⟩,z⟩
 ·refine⟨its.toList,r,⟨o,n,I.kIn a o hk,hc,hd,by simpa using hs⟩,?_⟩
  have e:=r.length
  simp only [bh] at e
  omega
theorem Inv.tuple (I:Inv X pins σ H s)(h:SqT X.K H a xs):∃ its:List Value,Vals xs its/\IsTup s.heap a its.toArray/\xs.length<=sizeLine:=by
 rcases h with h | ⟨o,its,n,hk,hc,hs,hz,r⟩
 ·obtain⟨z,its,r,p⟩:=h.ok I.hok
  exact⟨its,r,p.isTup,z⟩
 ·refine⟨its.toList,r,⟨o,I.kIn a o hk,hc,n,by simpa using hs⟩,?_⟩
  have e:=r.length
  simp only [bh] at e
  omega
theorem Inv.list_inj (I:Inv X pins σ H s)(h:SqL X.K H a xs)(h':SqL X.K H a ys):xs=ys:=by
 obtain⟨its,r,⟨o,n,e,_,_,d⟩,_⟩:=I.list h
 obtain⟨its',r',⟨o',n',e',_,_,d'⟩,_⟩:=I.list h'
 rw[e] at e'; cases e'
 rw[d] at d'
 injection d' with d1 _
 have:its=its':=by simpa using bn Array.toList d1
 subst this
 exact r.inj r'
theorem Inv.tuple_inj (I:Inv X pins σ H s)(h:SqT X.K H a xs)(h':SqT X.K H a ys):xs=ys:=by
 obtain⟨its,r,⟨o,e,_,n,d⟩,_⟩:=I.tuple h
 obtain⟨its',r',⟨o',e',_,n',d'⟩,_⟩:=I.tuple h'
 rw[e] at e'; cases e'
 rw[d] at d'
 injection d' with d1 _
 have:its=its':=by simpa using bn Array.toList d1
 subst this
 exact r.inj r'
end
abbrev Cx.wish (X:Cx)(E:Value->Shared->Prop):Cx:= { X with xe:=E}
abbrev Cx.nox (X:Cx):Cx:=X.wish fun _ _=>False
theorem Cx.Ok.wish {X:Cx}(ok:X.Ok)(E:Value->Shared->Prop):(X.wish E).Ok:=
 ⟨ok.mod,ok.kind,ok.glob,ok.blt,ok.above,ok.inj,ok.has,ok.cab,ok.hd,ok.frames,ok.stk,ok.exf,ok.bs,ok.bsz,ok.noex,ok.exfs,ok.funs,ok.frf⟩
theorem Cx.Ok.unwish {X:Cx}{E:Value->Shared->Prop}(ok:(X.wish E).Ok):X.Ok:=
 ⟨ok.mod,ok.kind,ok.glob,ok.blt,ok.above,ok.inj,ok.has,ok.cab,ok.hd,ok.frames,ok.stk,ok.exf,ok.bs,ok.bsz,ok.noex,ok.exfs,ok.funs,ok.frf⟩
section
variable {X:Cx}{pins:List (Addr×Obj)}{σ:St}{H:Hp}{s:Shared}{E:Value->Shared->Prop}
theorem Inv.wish (I:Inv X pins σ H s)(E:Value->Shared->Prop):Inv (X.wish E) pins σ H s:=⟨I.ok.wish E,I.os,I.bare,I.base,I.loc,I.cell,I.free,I.freeC,I.pin,I.hok,I.len⟩
theorem Inv.unwish (I:Inv (X.wish E) pins σ H s):Inv X pins σ H s:=⟨I.ok.unwish,I.os,I.bare,I.base,I.loc,I.cell,I.free,I.freeC,I.pin,I.hok,I.len⟩
theorem SP.unwish {D:Ends}{f:Flow}{s':Shared}(h:SP (X.wish E) pins D f s'):SP X pins D f s':=by
 cases f with
 | next=>obtain⟨σ',H',I,q⟩:=h; exact⟨σ',H',I.unwish,q⟩
 | brk=>obtain⟨σ',H',I,q⟩:=h; exact⟨σ',H',I.unwish,q⟩
 | cont=>obtain⟨σ',H',I,q⟩:=h; exact⟨σ',H',I.unwish,q⟩
 | ret u=>obtain⟨v,σ',H',I,r,q⟩:=h; exact⟨v,σ',H',I.unwish,r,q⟩
theorem PT.nox {e:Expr}{t:TT}(h:PT X.nox e t):PT X e t:=fun pins s σ H Q I hw=>
 aZ (h pins s σ H Q (I.wish _) hw) (fun _ _ ⟨H',I',q⟩=>⟨H',I'.unwish,q⟩) fun _ _ z=>False.elim z
theorem PSs.nox {st:List Stmt}{t:TS}(h:PSs X.nox st t):PSs X st t:=fun pins s σ H D I hw=>
 aZ (h pins s σ H D (I.wish _) hw) (fun _ _ q=>q.unwish) fun _ _ z=>False.elim z
end
section
variable {X:Cx}{st:Stmt}{rest:List Stmt}{t u:TS}{e:Expr}{te:TE}{pos:Pos}
def tNext:TS:=fun D σ H=>D.nx σ H
def tSeq (t u:TS):TS:=fun D σ H=>t { D with nx:=u D} σ H
theorem jE4:PSs X [] tNext:=fun _ _ σ H _ I h=>dq ⟨σ,H,I,h⟩
theorem y9 (h1:PS X st t)(h2:PSs X rest u):PSs X (st::rest) (tSeq t u):=by
 intro pins s σ H D I h
 refine fY (thn (h1 pins s σ H { D with nx:=u D} I h) fun f s1 q=>?_)
 cases f with
 | next=>
  obtain⟨σ',H',I',q⟩:=q
  exact h2 pins s1 σ' H' D I' q
 | ret v=>exact q
 | brk=>exact q
 | cont=>exact q
theorem jAP (h1:PS X st t):PSs X [st] t:=by
 intro pins s σ H D I h
 refine fY (thn (h1 pins s σ H D I h) fun f s1 q=>?_)
 cases f with
 | next=>exact dq q
 | ret v=>exact q
 | brk=>exact q
 | cont=>exact q
theorem Inv.quiet {pins:List (Addr×Obj)}{σ:St}{H:Hp}{s:Shared}(I:Inv X pins σ H s):interactive X.env=false:=by simp [interactive,I.ok.kind]
def tDrop (te:TE):TS:=fun D σ H=>te σ H fun _ H1=>D.nx σ H1
theorem jOJ (he:PE X e te)(hs:swapsWith e none pos.line X.env=pure false:=by rfl):PS X (.Expr e pos) (tDrop te):=by
 intro pins s σ H D I h
 exact wpAny_Expr_any (thn (he pins s σ H _ I h) fun v s1 ⟨x,H1,I1,r1,q1⟩=>⟨σ,H1,I1,q1⟩) I.quiet hs
def tRet (te:TE):TS:=fun D σ H=>te σ H D.rt
theorem jCC (he:PE X e te):PS X (.Return (some e) pos) (tRet te):=by
 intro pins s σ H D I h
 exact wpAny_Return_some (thn (he pins s σ H _ I h) fun v s1 ⟨x,H1,I1,r1,q1⟩=>⟨x,σ,H1,I1,r1,q1⟩)
def tIfS (c:TT)(t u:TS):TS:=fun D σ H=>c σ H fun b H1=>if b=true then t D σ H1 else u D σ H1
theorem ps_if {c:Expr}{a b:List Stmt}{tc:TT}(hc:PT X c tc)(ha:PSs X a t)(hb:PSs X b u):PS X (.If c a b pos) (tIfS tc t u):=by
 intro pins s σ H D I h
 refine wpAny_If (thn (hc pins s σ H _ I h) fun d s1 ⟨H1,I1,q1⟩=>?_)
 cases d with
 | true=>exact ha pins s1 σ H1 D I1 q1
 | false=>exact hb pins s1 σ H1 D I1 q1
end
abbrev TG:=V->St->Hp->(St->Hp->Prop)->Prop
abbrev TGs:=List V->St->Hp->(St->Hp->Prop)->Prop
def PG (X:Cx)(target:Expr)(t:TG):Prop:=
 ∀ (pins:List (Addr×Obj)) (s:Shared) (σ:St) (H:Hp) (v:V) (u:Value) (Q:St->Hp->Prop),Inv X pins σ H s->RelV v u->t v σ H Q->
  wpAny (model X.prog X.w) X.A (assign target X.env u) (fun _ s'=>∃ σ' H',Inv X pins σ' H' s'/\Q σ' H') X.xe s
def PGs (X:Cx)(ts:List Expr)(t:TGs):Prop:=
 ∀ (pins:List (Addr×Obj)) (s:Shared) (σ:St) (H:Hp) (vs:List V) (us:List Value) (Q:St->Hp->Prop),Inv X pins σ H s->Vals vs us->t vs σ H Q->
  wpAny (model X.prog X.w) X.A (assignInOrder ((assignEach ts X.env).map (·.2)) us) (fun _ s'=>∃ σ' H',Inv X pins σ' H' s'/\Q σ' H') X.xe s
abbrev TSet:=V->V->V->Hp->(Hp->Prop)->Prop
def PSet (X:Cx)(t:TSet):Prop:=
 ∀ (pins:List (Addr×Obj)) (s:Shared) (σ:St) (H:Hp) (o i v:V) (ov iv u:Value) (Q:Hp->Prop),Inv X pins σ H s->RelV o ov->RelV i iv->RelV v u->t o i v H Q->
  wpAny (model X.prog X.w) X.A (setItem ov iv u) (fun _ s'=>∃ H',Inv X pins σ H' s'/\Q H') X.xe s
section
variable {X:Cx}{pos:Pos}
def yF (i:Nat):TG:=fun v σ H Q=>Q (σ.set i (some v)) H
theorem jE5 {i:Nat}{x:Str}(hN:X.N.Nodup)(hi:X.N[i]?=some x)(hx:Loc X.env.scope x)(hf:X.fn x=true\/X.env.scope.names.lookup x=some .local:=by first | exact .inl rfl | exact .inr rfl | assumption):PG X (.Name x pos) (yF i):=by
 intro pins s σ H v u Q I r h
 exact wpAny_assign_Name (jCM I hN hi hx r (fun s' I'=>⟨_,H,I',h⟩) hf)
def gNil:TGs:=fun vs σ H Q=>vs=[]/\Q σ H
def xH (t:TG)(u:TGs):TGs:=fun vs σ H Q=>∃ v r,vs=v::r/\t v σ H fun σ' H'=>u r σ' H' Q
theorem jOP:PGs X [] gNil:=by
 intro pins s σ H vs us Q I r h
 obtain⟨e,h⟩:=h
 subst e
 cases r
 exact assignInOrder_nil ⟨σ,H,I,h⟩
theorem jM3 {e:Expr}{es:List Expr}{t:TG}{u:TGs}(h1:PG X e t)(h2:PGs X es u)
  (hs:(assignEach (e::es) X.env).map (·.2)=assign e X.env::(assignEach es X.env).map (·.2):=by rfl):PGs X (e::es) (xH t u):=by
 intro pins s σ H vs us Q I r h
 obtain⟨v,vr,e1,h⟩:=h
 subst e1
 cases r with
 | cons r rr=>
  rw[hs]
  refine assignInOrder_cons (thn (h1 pins s σ H _ _ _ I r h) fun _ s1 ⟨σ1,H1,I1,q1⟩=>?_)
  exact h2 pins s1 σ1 H1 _ _ Q I1 rr q1
def gTup (K:W.Frag)(n:Nat)(t:TGs):TG:=fun v σ H Q=>∃ a xs,v= .ref a/\SqT K H a xs/\xs.length=n/\t xs σ H Q
theorem jQN {es:List Expr}{k:Nat}{t:TGs}{n:Nat}(hc:X.calm=true)(h:PGs X es t)
  (hn:(assignEach es X.env).length=n:=by rfl) (hst:(assignEach es X.env).findIdx? (·.1)=none:=by rfl):PG X (.Tuple es k pos) (gTup X.K n t):=by
 intro pins s σ H v u Q I r hw
 obtain⟨a,xs,e1,hq,hl,hw⟩:=hw
 subst e1
 cases r
 obtain⟨its,rv,ht,hz⟩:=I.tuple hq
 refine assign_Tuple_tuple (I.ok.hd hc) ht (by simp [hn,<- hl,rv.length]) hst fun h' hx=>?_
 have I1:Inv X pins σ H { s with heap:=h'} :=I.kept (t':=s.toks) fun b o e=>hx b o (aN (au e)) e
 exact h pins _ σ H xs _ Q I1 (by simpa using rv) hw
def gSub (to ti:TE)(t:TSet):TG:=fun v σ H Q=>to σ H fun o H1=>ti σ H1 fun i H2=>t o i v H2 fun H3=>Q σ H3
theorem jQO {o i:Expr}{to ti:TE}{t:TSet}(ho:PE X o to)(hi:PE X i ti)(hs:PSet X t)
  (ha:∀ v,assign (.Subscript o i pos) X.env v=(do
   let ov <- holding [v] (eval o X.env)
   let iv <- holding [v,ov] (eval i X.env)
   standAt pos
   holding [v,ov,iv] (setItem ov iv v)
   release [v,ov,iv] []):=by intro _; rfl):PG X (.Subscript o i pos) (gSub to ti t):=by
 intro pins s σ H v u Q I r h
 rw[ha]
 refine aa (be (thn (ho pins s σ H _ I h) fun ov s1 ⟨x,H1,I1,r1,q1⟩=>?_))
 refine aa (be (thn (hi pins s1 σ H1 _ I1 q1) fun iv s2 ⟨y,H2,I2,r2,q2⟩=>?_))
 refine aa (bQ (aa (be (thn (hs pins s2 σ H2 x y v ov iv u _ I2 r1 r2 r q2) fun _ s3 ⟨H3,I3,q3⟩=>?_))))
 exact wpAny_release ⟨σ,H3,I3,q3⟩
def tAsg (te:TE)(g:TG):TS:=fun D σ H=>te σ H fun x H1=>g x σ H1 D.nx
theorem jNG {tg e:Expr}{te:TE}{g:TG}(he:PE X e te)(hg:PG X tg g)(hs:swapsWithSole [tg] e pos.line X.env=pure false:=by rfl)(hw:swappedStores [tg] e X.env=pure none:=by rfl)
  (h1:(assignEach [tg] X.env).map (·.2)=[assign tg X.env]:=by rfl):PS X (.Assign [tg] e pos) (tAsg te g):=by
 intro pins s σ H D I h
 refine wpAny_Assign_stores (thn (he pins s σ H _ I h) fun v s1 ⟨x,H1,I1,r1,q1⟩=>?_) hs hw
 rw[h1]
 exact thn (hg pins s1 σ H1 x v _ I1 r1 q1) fun _ s2 q=>q
theorem qX {i:Nat}{x:Str}{e:Expr}{te:TE}{pos':Pos}(hN:X.N.Nodup)(hi:X.N[i]?=some x)(hx:Loc X.env.scope x)(he:PE X e te)(hs:swapsWith e (some (.Name x pos')) pos.line X.env=pure false:=by rfl)(hf:X.fn x=true\/X.env.scope.names.lookup x=some .local:=by first | exact .inl rfl | exact .inr rfl | assumption):
  PS X (.Assign [.Name x pos'] e pos) (tAsg te (yF i)):=by
 intro pins s σ H D I h
 refine wpAny_Assign_Name (thn (he pins s σ H _ I h) fun v s1 ⟨y,H1,I1,r1,q1⟩=>?_) hs
 exact jCM I1 hN hi hx r1 (fun s2 I2=>⟨_,H1,I2,q1⟩) hf
end
section
variable {X:Cx}{pos:Pos}
end
structure It where
 go:Nat->Hp->Prop
 yld:Nat->Hp->V->Hp->Prop
 stop:Nat->Hp->Prop
def FpOk (X:Cx)(pins:List (Addr×Obj))(H:Hp)(b:Addr):Prop:=
 H b=none/\b≠X.env.locals/\b∉X.fs/\(b∈X.ex\/X.s₀.heap.objs.size<=b)/\(∀ x c,X.env.cells.lookup x=some c->c≠b)/\∀ p∈X.pn++pins,p.1≠b
theorem Inv.fpOk {X:Cx}{pins:List (Addr×Obj)}{σ:St}{H H':Hp}{s:Shared}{b:Addr}(I:Inv X pins σ H s)(hb:s.heap.objs.size<=b)(hn:H' b=none):FpOk X pins H' b:=by
 refine⟨hn,cE (aG I.lt hb),I.nofs hb, .inr (aO I.sz hb),fun x c e z=>?_,fun p hp z=>?_⟩
 ·obtain⟨v,q⟩:=I.cell x c e
  exact absurd (aG q.lt (by rw[z]; exact hb)) (cg _)
 ·exact absurd (aG (au (I.pin p hp).1) (by rw[z]; exact hb)) (cg _)
structure Turn (P:Program)(w:World)(K:W.Frag)(tg:Expr)(J:It)(fp:List Addr)(it:Addr)(tn:Nat->Heap->Prop):Prop where
 mem:it∈fp
 obj:∀ i h,tn i h->∀ b∈fp,∃ o,h.get? b=some o/\∀ v,o.data≠ .cell v
 keep:∀ i h h',tn i h->(∀ b∈fp,∀ o,h.get? b=some o->h'.get? b=some o)->tn i h'
 item:∀ (X:Cx),X.prog=P->X.w=w->X.K=K->X.calm=true->∀ (i:Nat) (pins:List (Addr×Obj)) (s:Shared) (σ:St) (H:Hp) (E:Value->Shared->Prop),Inv X pins σ H s->(∀ b∈fp,FpOk X pins H b)->tn i s.heap->J.go i H->
  wpAny (model P w) X.A (pyNext (.ref it)) (fun r s1=>∃ u,r=some u/\
   wpAny (model P w) X.A (letOwnedTupleGo tg (.ref it) u) (fun _ s2=>∃ x H',Inv X pins σ H' s2/\RelV x u/\J.yld i H x H'/\tn (i+1) s2.heap/\∀ b∈fp,H' b=none) E s1) E s
 done:∀ (X:Cx),X.prog=P->X.w=w->X.K=K->X.calm=true->∀ (i:Nat) (pins:List (Addr×Obj)) (s:Shared) (σ:St) (H:Hp) (E:Value->Shared->Prop),Inv X pins σ H s->(∀ b∈fp,FpOk X pins H b)->tn i s.heap->J.stop i H->
  wpAny (model P w) X.A (pyNext (.ref it)) (fun r s1=>r=none/\Inv X pins σ H s1) E s
 self:∀ (A:Around) (i:Nat) (s:Shared) (Q:Value->Shared->Prop) (E:Value->Shared->Prop),tn i s.heap->Q (.ref it) s->wpAny (model P w) A (pyIter (.ref it)) Q E s
abbrev TI:=St->Hp->(It->Hp->Prop)->Prop
def PIE (X:Cx)(pins:List (Addr×Obj))(σ:St)(tg:Expr)(R:It->Hp->Prop)(itv:Value)(s2:Shared):Prop:=
 ∃ (it:Addr) (fp:List Addr) (tn:Nat->Heap->Prop) (J:It) (H':Hp),itv= .ref it/\Inv X pins σ H' s2/\Turn X.prog X.w X.K tg J fp it tn/\tn 0 s2.heap/\(∀ b∈fp,FpOk X pins H' b)/\R J H'
def PI (X:Cx)(tg iter:Expr)(wi:TI):Prop:=
 ∀ (pins:List (Addr×Obj)) (s:Shared) (σ:St) (H:Hp) (R:It->Hp->Prop),Inv X pins σ H s->wi σ H R->
  wpAny (model X.prog X.w) X.A (eval iter X.env) (fun v s1=>wpAny (model X.prog X.w) X.A (pyIter v) (PIE X pins σ tg R) X.xe s1) X.xe s
theorem go_of {M:Model}{A:Around}{E:Value->Shared->Prop}{s:Shared}{tg:Expr}{it:Addr}{u:Value}{o:Obj}{n:String}{vs:Array Value}{Q:Unit->Shared->Prop}(ho:s.heap.get? it=some o)(hc:o.cls= .type n)(hd:o.data= .fields vs)
  (hn: ["enumerate","zip","dict_itemiterator","dict_reverseitemiterator","odict_iterator","itertools.zip_longest","itertools.pairwise"].contains n=false) (hQ:Q () s):wpAny M A (letOwnedTupleGo tg (.ref it) u) Q E s:=by
 unfold letOwnedTupleGo
 cases tg <;> first
  | exact ag hQ
  | (cases u <;> first
    | exact ag hQ
    | (refine aa (gU ho ?_)
       rw [hc, hd]
       show wpAny M A (if (["enumerate", "zip", "dict_itemiterator", "dict_reverseitemiterator", "odict_iterator", "itertools.zip_longest", "itertools.pairwise"].contains n && vs[0]? == some (rawInt _)) = true then _ else _) Q E s
       rw [aB (by intro h; rw [hn, ba] at h; cases h)]
       exact ag hQ))
def Itl (K:W.Frag)(a:Addr):It:=
 ⟨fun i H=>∃ xs x,SqL K H a xs/\xs[i]?=some x,fun i H x H'=>H'=H/\∀ xs,SqL K H a xs->xs[i]?=some x,fun i H=>∃ xs,SqL K H a xs/\xs.length<=i⟩
def Itt (K:W.Frag)(a:Addr):It:=
 ⟨fun i H=>∃ xs x,SqT K H a xs/\xs[i]?=some x,fun i H x H'=>H'=H/\∀ xs,SqT K H a xs->xs[i]?=some x,fun i H=>∃ xs,SqT K H a xs/\xs.length<=i⟩
def Itr (lo:Int)(n:Nat):It:=⟨fun i _=>i<n,fun i H x H'=>H'=H/\x= .int (lo+i),fun i _=>n<=i⟩
theorem jIK {P:Program}{w:World}{K:W.Frag}{tg:Expr}(a it:Addr):Turn P w K tg (Itl K a) [it] it (fun i h=>h.IsListIter it a i) where
 mem:=by simp
 obj:=fun i h st b hb=>by
  have e:b=it:=by simpa using hb
  subst e
  obtain⟨o,e,c,d⟩:=st
  exact⟨o,e,fun v z=>by rw[d] at z; cases z⟩
 keep:=fun i h h' st k=>st.at fun o e=>k it (by simp) o e
 item:=by
  intro X hP hw hK hc i pins s σ H E I hf st hg
  subst hP hw hK
  obtain⟨xs,x,hq,hx⟩:=hg
  obtain⟨its,rv,p,hz⟩:=I.list hq
  obtain⟨u,hu,ru⟩:=rv.get hx
  obtain⟨f0,f1,f2,f3,f4,f5⟩:=hf it (by simp)
  refine wpAny_pyNext_list_item st p.isList (x:=u) (by simpa using hu) fun h' st' sb=>?_
  have I1:Inv X pins σ H { s with heap:=h'} :=I.turned (t':=s.toks) (fun b o hb e=>(sb.2 b hb).trans e) f0 f1 f3 f4 f5
  obtain⟨o,e,c,d⟩:=id st'
  exact⟨u,rfl,go_of (s:= { s with heap:=h'}) e c d (by decide) ⟨x,H,I1,ru,⟨rfl,fun ys hy=>by rw[I.list_inj hy hq]; exact hx⟩,st',fun b hb=>(hf b hb).1⟩⟩
 done:=by
  intro X hP hw hK hc i pins s σ H E I hf st hg
  subst hP hw hK
  obtain⟨xs,hq,hx⟩:=hg
  obtain⟨its,rv,p,hz⟩:=I.list hq
  obtain⟨f0,f1,f2,f3,f4,f5⟩:=hf it (by simp)
  have hl:=rv.length
  exact wpAny_pyNext_list_end (I.ok.hd hc) st p.isList (by simp; omega) fun h' eb=>⟨rfl,I.turned (t':=s.toks) (fun b o hb e=>eb b o hb e) f0 f1 f3 f4 f5⟩
 self:=fun _ _ _ _ _ st h=>wpAny_pyIter_listiter st h
theorem jHY {P:Program}{w:World}{K:W.Frag}{tg:Expr}(a it:Addr):Turn P w K tg (Itt K a) [it] it (fun i h=>h.IsTupleIter it a i) where
 mem:=by simp
 obj:=fun i h st b hb=>by
  have e:b=it:=by simpa using hb
  subst e
  obtain⟨o,e,c,d⟩:=st
  exact⟨o,e,fun v z=>by rw[d] at z; cases z⟩
 keep:=fun i h h' st k=>st.at fun o e=>k it (by simp) o e
 item:=by
  intro X hP hw hK hc i pins s σ H E I hf st hg
  subst hP hw hK
  obtain⟨xs,x,hq,hx⟩:=hg
  obtain⟨its,rv,p,hz⟩:=I.tuple hq
  obtain⟨u,hu,ru⟩:=rv.get hx
  obtain⟨f0,f1,f2,f3,f4,f5⟩:=hf it (by simp)
  refine wpAny_pyNext_tuple_item st (show s.heap.IsTuple a its.toArray from p) (x:=u) (by simpa using hu) fun h' st' sb=>?_
  have I1:Inv X pins σ H { s with heap:=h'} :=I.turned (t':=s.toks) (fun b o hb e=>(sb.2 b hb).trans e) f0 f1 f3 f4 f5
  obtain⟨o,e,c,d⟩:=id st'
  exact⟨u,rfl,go_of (s:= { s with heap:=h'}) e c d (by decide) ⟨x,H,I1,ru,⟨rfl,fun ys hy=>by rw[I.tuple_inj hy hq]; exact hx⟩,st',fun b hb=>(hf b hb).1⟩⟩
 done:=by
  intro X hP hw hK hc i pins s σ H E I hf st hg
  subst hP hw hK
  obtain⟨xs,hq,hx⟩:=hg
  obtain⟨its,rv,p,hz⟩:=I.tuple hq
  obtain⟨f0,f1,f2,f3,f4,f5⟩:=hf it (by simp)
  have hl:=rv.length
  exact wpAny_pyNext_tuple_end (I.ok.hd hc) st (show s.heap.IsTuple a its.toArray from p) (by simp; omega) fun h' eb=>⟨rfl,I.turned (t':=s.toks) (fun b o hb e=>eb b o hb e) f0 f1 f3 f4 f5⟩
 self:=fun _ _ _ _ _ st h=>wpAny_pyIter_tupleiter st h
theorem jHZ {P:Program}{w:World}{K:W.Frag}{tg:Expr}(it:Addr)(lo:Int)(n:Nat):Turn P w K tg (Itr lo n) [it] it (fun i h=>IsRangeIter h it (lo+(i:Nat)*1) ((n:Int) - (i:Nat)) 1) where
 mem:=by simp
 obj:=fun i h st b hb=>by
  have e:b=it:=by simpa using hb
  subst e
  exact⟨_,st,fun v z=>by
   have z':Data.fields _=Data.cell v:=z
   cases z'⟩
 keep:=fun i h h' st k=>k it (by simp) _ st
 item:=by
  intro X hP hw hK hc i pins s σ H E I hf st hg
  subst hP hw hK
  obtain⟨f0,f1,f2,f3,f4,f5⟩:=hf it (by simp)
  have W:=Walks.range (prog:=X.prog) (w:=X.w) (I.ok.hd hc) it lo 1 n
  refine W.item i s _ _ hg st fun v h' tk hv st' kk=>?_
  obtain⟨t,rfl⟩:=hv
  have I1:Inv X pins σ H { s with heap:=h',toks:=tk} :=I.turned (fun b o hb e=>kk b o (by simpa using hb) e) f0 f1 f3 f4 f5
  refine⟨_,rfl,go_of (s:= { s with heap:=h',toks:=tk}) (n:= "range_iterator") st' rfl rfl (by decide) ⟨.int (lo+i),H,I1,⟨t,?_⟩,⟨rfl,rfl⟩,st',fun b hb=>(hf b hb).1⟩⟩
  rw[Int.mul_one]
 done:=by
  intro X hP hw hK hc i pins s σ H E I hf st hg
  subst hP hw hK
  obtain⟨f0,f1,f2,f3,f4,f5⟩:=hf it (by simp)
  exact wpAny_pyNext_range_end (I.ok.hd hc) st (by have:n<=i:=hg; omega) fun h' eb=>⟨rfl,I.turned (t':=s.toks) (fun b o hb e=>eb b o hb e) f0 f1 f3 f4 f5⟩
 self:=fun _ _ _ _ _ st h=>wpAny_pyIter_rangeiter st h
end L2
namespace L2
open PySem PySem.Spec PyProof.Rows
section
variable {X:Cx}{tg:Expr}
def iList (K:W.Frag)(tl:TE):TI:=fun σ H R=>tl σ H fun x H1=>∃ a,x= .ref a/\(∃ xs,SqL K H1 a xs)/\R (Itl K a) H1
def iTup (K:W.Frag)(tl:TE):TI:=fun σ H R=>tl σ H fun x H1=>∃ a,x= .ref a/\(∃ xs,SqT K H1 a xs)/\R (Itt K a) H1
theorem jOO {l:Expr}{tl:TE}(hl:PE X l tl):PI X tg l (iList X.K tl):=by
 intro pins s σ H R I h
 refine thn (hl pins s σ H _ I h) fun v s1 ⟨x,H1,I1,r1,q1⟩=>?_
 obtain⟨a,e,⟨xs,hq⟩,q⟩:=q1
 subst e
 cases r1
 obtain⟨its,rv,p,hz⟩:=I1.list hq
 refine dF p.isList ?_
 refine⟨s1.heap.objs.size,[s1.heap.objs.size],_,_,H1,rfl,I1.kept (t':=s1.toks) fun b o e=>ae _ e,jIK a _,⟨_,ay _ rfl,rfl,rfl⟩,fun b hb=>?_,q⟩
 have e:b=s1.heap.objs.size:=by simpa using hb
 subst e
 exact I1.fpOk (ao _) (I1.hok.fresh (ao _))
theorem jQL {l:Expr}{tl:TE}(hl:PE X l tl):PI X tg l (iTup X.K tl):=by
 intro pins s σ H R I h
 refine thn (hl pins s σ H _ I h) fun v s1 ⟨x,H1,I1,r1,q1⟩=>?_
 obtain⟨a,e,⟨xs,hq⟩,q⟩:=q1
 subst e
 cases r1
 obtain⟨its,rv,p,hz⟩:=I1.tuple hq
 refine wpAny_pyIter_tuple (show s1.heap.IsTuple a its.toArray from p) ?_
 refine⟨s1.heap.objs.size,[s1.heap.objs.size],_,_,H1,rfl,I1.kept (t':=s1.toks) fun b o e=>ae _ e,jHY a _,⟨_,ay _ rfl,rfl,rfl⟩,fun b hb=>?_,q⟩
 have e:b=s1.heap.objs.size:=by simpa using hb
 subst e
 exact I1.fpOk (ao _) (I1.hok.fresh (ao _))
theorem jH1 {pins:List (Addr×Obj)}{σ:St}{H:Hp}{s:Shared}{R:It->Hp->Prop}{E:Value->Shared->Prop}{lo hi:Int}{t u v:Tok}{tk:Nat}(I:Inv X pins σ H s)(h1: -(2 ^ 62)<=lo)(h2:lo<2 ^ 62)(h3: -(2 ^ 62)<=hi)(h4:hi<2 ^ 62)
  (q:R (Itr lo (hi - lo).toNat) H):wpAny (model X.prog X.w) X.A (pyIter (.ref s.heap.objs.size)) (PIE X pins σ tg R) E { s with heap:=s.heap.push { cls:= .type "range",data:= .fields #[.int lo t, .int hi u, .int 1 v]},toks:=tk} :=by
 refine wpAny_pyIter_range (IsRange.new ..) (small_one h1 h2 h3 h4) ?_
 have I1:Inv X pins σ H { s with heap:=s.heap.push { cls:= .type "range",data:= .fields #[.int lo t, .int hi u, .int 1 v]},toks:=tk} :=I.kept fun b o e=>ae _ e
 refine⟨(s.heap.push { cls:= .type "range",data:= .fields #[.int lo t, .int hi u, .int 1 v]}).objs.size,[(s.heap.push { cls:= .type "range",data:= .fields #[.int lo t, .int hi u, .int 1 v]}).objs.size],_,_,H,rfl,
  I1.kept (t':=tk) fun b o e=>ae _ e,jHZ _ lo (hi - lo).toNat,?_,fun b hb=>?_,q⟩
 ·have e1:lo+((0:Nat):Int)*1=lo:=by simp
  have e2:(((hi - lo).toNat:Nat):Int) - ((0:Nat):Int)=Builtin.Range.rangeSize lo hi 1:=by rw[rangeSize_one]; split <;> omega
  show IsRangeIter _ _ (lo+((0:Nat):Int)*1) ((((hi - lo).toNat:Nat):Int) - ((0:Nat):Int)) 1
  rw[e1,e2]
  exact ay _ rfl
 ·have e:b=(s.heap.push { cls:= .type "range",data:= .fields #[.int lo t, .int hi u, .int 1 v]}).objs.size:=by simpa using hb
  subst e
  exact I1.fpOk (ao _) (I1.hok.fresh (ao _))
def iRng1 (ta:TA):TI:=fun σ H R=>ta σ H fun vs H1=>∃ j:Int,vs=[.int j]/\ -(2 ^ 62)<=j/\j<2 ^ 62/\R (Itr 0 j.toNat) H1
def iRng2 (ta:TA):TI:=fun σ H R=>ta σ H fun vs H1=>∃ i j:Int,vs=[.int i, .int j]/\(-(2 ^ 62)<=i/\i<2 ^ 62/\ -(2 ^ 62)<=j/\j<2 ^ 62)/\R (Itr i (j - i).toNat) H1
theorem jBP {a:Expr}{ta:TA}{p pos:Pos}(hg:Gl X "range")(hm:X.mg "range" =none)(ha:PA X [a] ta)(hs:starEach [a] X.env=[(false,eval a X.env)]:=by rfl):PI X tg (.Call (.Name "range" p) [a] [] pos) (iRng1 ta):=by
 intro pins s σ H R I h
 refine Call_ (jDS I hg hm boot_range (cf (thn (ha pos pins s σ H _ I h) fun us s1 ⟨vs,H1,I1,r1,q1⟩=>?_) hs rfl))
 obtain⟨j,e,q1,q2,q⟩:=q1
 subst e
 cases r1 with
 | cons r rr=>
  cases rr
  obtain⟨t,rfl⟩:=r
  exact call_range_1 (jH1 I1 (by omega) (by omega) q1 q2 (by simpa using q))
theorem jJB {a b:Expr}{ta:TA}{p pos:Pos}(hg:Gl X "range")(hm:X.mg "range" =none)(ha:PA X [a,b] ta)(hs:starEach [a,b] X.env=[(false,eval a X.env),(false,eval b X.env)]:=by rfl)(hs2:starEach [b] X.env=[(false,eval b X.env)]:=by rfl):
  PI X tg (.Call (.Name "range" p) [a,b] [] pos) (iRng2 ta):=by
 intro pins s σ H R I h
 refine Call_ (jDS I hg hm boot_range (cf (thn (ha pos pins s σ H _ I h) fun us s1 ⟨vs,H1,I1,r1,q1⟩=>?_) (by rw[hs,hs2]) (by rw[hs2]; rfl)))
 obtain⟨i,j,e,⟨q1,q2,q3,q4⟩,q⟩:=q1
 subst e
 cases r1 with
 | cons r rr=>
  cases rr with
  | cons r' rr=>
   cases rr
   obtain⟨t,rfl⟩:=r
   obtain⟨t',rfl⟩:=r'
   exact call_range_2 (jH1 I1 q1 q2 q3 q4 q)
def tFor (wi:TI)(g:TG)(tb:TS):TS:=fun D σ H=>wi σ H fun J H1=>∃ W:Nat->Nat->St->Hp->Prop,(∃ m,W 0 m σ H1)/\∀ i m σ H,W i m σ H->
 (J.stop i H/\D.nx σ H)\/(J.go i H/\∃ N:St->Hp->Prop,(∀ σ' H',N σ' H'->∃ m',m'<m/\W (i+1) m' σ' H')/\∀ x H',J.yld i H x H'->g x σ H' fun σ2 H2=>tb { D with nx:=N,ct:=N,bk:=D.nx} σ2 H2)
def jF6 (fp:List Addr)(h:Heap):List (Addr×Obj):=fp.filterMap fun b=>(h.get? b).map fun o=>(b,o)
theorem jB2 {fp:List Addr}{h:Heap}{b:Addr}{o:Obj}(hb:b∈fp)(e:h.get? b=some o):(b,o)∈jF6 fp h:=fg.mpr ⟨b,hb,by rw[e]; rfl⟩
theorem jJU {fp:List Addr}{h:Heap}{p:Addr×Obj}(hp:p∈jF6 fp h):p.1∈fp/\h.get? p.1=some p.2:=by
 obtain⟨b,hb,e⟩:=fg.mp hp
 cases q:h.get? b with
 | none=>rw[q] at e; cases e
 | some o=>
  rw[q] at e
  have e':(b,o)=p:=aF e
  subst e'
  exact⟨hb,q⟩
theorem Inv.pinned {pins:List (Addr×Obj)}{σ:St}{H:Hp}{s:Shared}{fp:List Addr}(I:Inv X pins σ H s)(hf:∀ b∈fp,FpOk X pins H b)(ho:∀ b∈fp,∃ o,s.heap.get? b=some o/\∀ v,o.data≠ .cell v):Inv X (pins++jF6 fp s.heap) σ H s:=
 I.pins_of fun p hp=>(bJ.mp hp).elim (fun z=>I.pin p (aW _ z)) fun z=>by
  obtain⟨hb,e⟩:=jJU z
  obtain⟨f0,f1,f2,_⟩:=hf p.1 hb
  obtain⟨o,e',d⟩:=ho p.1 hb
  rw[e] at e'; cases e'
  exact⟨e,f0,f1,f2,d⟩
theorem Inv.unpinned {pins pl:List (Addr×Obj)}{σ:St}{H:Hp}{s:Shared}(I:Inv X (pins++pl) σ H s):Inv X pins σ H s:=I.pins_of fun p hp=>I.pin p (aW _ (ek _ hp))
theorem jNF {iter:Expr}{body:List Stmt}{wi:TI}{g:TG}{tb:TS}{pos:Pos}(hp:PassesOwn (model X.prog X.w) X.A X.env X.xe)(hc:X.calm=true)(hi:PI X tg iter wi)(hg:PG X tg g)(hb:PSs X body tb)
  (hs:∀ x,foldedSetIterable iter X.env x=pure x:=by intro _; rfl):PS X (.For tg iter body [] pos) (tFor wi g tb):=by
 intro pins s σ H D I h
 refine wpAny_For (thn (hi pins s σ H _ I h) fun v s1 h1=>thn h1 fun itv s2 h2=>?_) hs
 obtain⟨it,fp,tn,J,H2,e,I2,T,st2,f2,W,⟨m0,w0⟩,turn⟩:=h2
 subst e
 have stat:∀ {H':Hp},(∀ b∈fp,H' b=none)->∀ b∈fp,FpOk X pins H' b:=fun hn b hb=>⟨hn b hb,(f2 b hb).2⟩
 refine codeAny_forLoop_any (fun n s'=>∃ i σ' H',Inv X pins σ' H' s'/\tn i s'.heap/\(∀ b∈fp,H' b=none)/\W i n σ' H') ?_ m0 ⟨0,σ,H2,I2,st2,fun b hb=>(f2 b hb).1,w0⟩
 rintro n s3 ⟨i,σ3,H3,I3,st3,fr3,w3⟩
 rcases turn i n σ3 H3 w3 with ⟨stop,qn⟩ | ⟨go,N,hN,step⟩
 ·refine dv hp (thn (T.done X rfl rfl rfl hc i pins s3 σ3 H3 X.xe I3 (stat fr3) st3 stop) fun r s4 ⟨hr,I4⟩=>?_)
  subst hr
  exact dq ⟨σ3,H3,I4,qn⟩
 ·refine dv hp (thn (T.item X rfl rfl rfl hc i pins s3 σ3 H3 X.xe I3 (stat fr3) st3 go) fun r s4 ⟨u,hr,h4⟩=>?_)
  subst hr
  refine dv hp (thn h4 fun _ s5 ⟨x,H5,I5,r5,y5,st5,fr5⟩=>?_)
  have I5':=I5.pinned (stat fr5) (T.obj _ _ st5)
  refine dv hp (thn (hg _ s5 σ3 H5 x u _ I5' r5 (step x H5 y5)) fun _ s6 ⟨σ6,H6,I6,q6⟩=>?_)
  refine dv hp (thn (hb _ s6 σ6 H6 _ I6 q6) fun f s7 q7=>?_)
  have again:∀ {σ7:St}{H7:Hp},Inv X (pins++jF6 fp s5.heap) σ7 H7 s7->N σ7 H7->∃ m,m<n/\∃ i σ' H',Inv X pins σ' H' s7/\tn i s7.heap/\(∀ b∈fp,H' b=none)/\W i m σ' H':=fun {σ7 H7} I7 n7=>by
   obtain⟨m',hm,w7⟩:=hN σ7 H7 n7
   refine⟨m',hm,i+1,σ7,H7,I7.unpinned,T.keep _ _ _ st5 fun b hb o e=>(I7.pin (b,o) (aW _ (aW _ (jB2 hb e)))).1,fun b hb=>?_,w7⟩
   obtain⟨o,e,d⟩:=T.obj _ _ st5 b hb
   exact(I7.pin (b,o) (aW _ (aW _ (jB2 hb e)))).2.1
  cases f with
  | next=>obtain⟨σ7,H7,I7,n7⟩:=q7; exact again I7 n7
  | cont=>obtain⟨σ7,H7,I7,n7⟩:=q7; exact again I7 n7
  | brk=>obtain⟨σ7,H7,I7,q7⟩:=q7; exact⟨σ7,H7,I7.unpinned,q7⟩
  | ret v=>obtain⟨x7,σ7,H7,I7,r7,q7⟩:=q7; exact⟨x7,σ7,H7,I7.unpinned,r7,q7⟩
end
theorem jKV {K:W.Frag}{a:Addr}{xs:List V}{g:TG}{tb:TS}{D:Ends}{σ:St}{H:Hp}(Pv:Nat->St->Hp->Prop)(h0:Pv 0 σ H)(hl:∀ i σ H,i<=xs.length->Pv i σ H->SqT K H a xs)
  (hs:∀ i x σ H,xs[i]?=some x->Pv i σ H->g x σ H fun σ2 H2=>tb { D with nx:=Pv (i+1),ct:=Pv (i+1),bk:=D.nx} σ2 H2) (hd:∀ σ H,Pv xs.length σ H->D.nx σ H):
  ∃ W:Nat->Nat->St->Hp->Prop,(∃ m,W 0 m σ H)/\∀ i m σ H,W i m σ H->
   ((Itt K a).stop i H/\D.nx σ H)\/((Itt K a).go i H/\∃ N:St->Hp->Prop,(∀ σ' H',N σ' H'->∃ m',m'<m/\W (i+1) m' σ' H')/\∀ x H',(Itt K a).yld i H x H'->g x σ H' fun σ2 H2=>tb { D with nx:=N,ct:=N,bk:=D.nx} σ2 H2):=by
 refine⟨fun i m σ H=>m=xs.length - i/\i<=xs.length/\Pv i σ H,⟨xs.length,by simp,aJ _,h0⟩,?_⟩
 rintro i m σ H ⟨rfl,hi,p⟩
 have q:=hl i σ H hi p
 by_cases hlt:i<xs.length
 ·refine .inr ⟨⟨xs,xs[i],q,by simp [hlt]⟩,Pv (i+1),fun σ' H' p'=>⟨xs.length - (i+1),by omega,rfl,hlt,p'⟩,fun x H' y=>?_⟩
  obtain⟨e,y⟩:=y
  subst e
  exact hs i x σ _ (y xs q) p
 ·have e:i=xs.length:=by omega
  subst e
  exact .inl ⟨⟨xs,q,ao _⟩,hd σ H p⟩
theorem jAX {lo:Int}{n:Nat}{g:TG}{tb:TS}{D:Ends}{σ:St}{H:Hp}(Pv:Nat->St->Hp->Prop)(h0:Pv 0 σ H)
  (hs:∀ i σ H,i<n->Pv i σ H->g (.int (lo+i)) σ H fun σ2 H2=>tb { D with nx:=Pv (i+1),ct:=Pv (i+1),bk:=D.nx} σ2 H2) (hd:∀ σ H,Pv n σ H->D.nx σ H):
  ∃ W:Nat->Nat->St->Hp->Prop,(∃ m,W 0 m σ H)/\∀ i m σ H,W i m σ H->
   ((Itr lo n).stop i H/\D.nx σ H)\/((Itr lo n).go i H/\∃ N:St->Hp->Prop,(∀ σ' H',N σ' H'->∃ m',m'<m/\W (i+1) m' σ' H')/\∀ x H',(Itr lo n).yld i H x H'->g x σ H' fun σ2 H2=>tb { D with nx:=N,ct:=N,bk:=D.nx} σ2 H2):=by
 refine⟨fun i m σ H=>m=n - i/\i<=n/\Pv i σ H,⟨n,by simp,aJ _,h0⟩,?_⟩
 rintro i m σ H ⟨rfl,hi,p⟩
 by_cases hlt:i<n
 ·refine .inr ⟨hlt,Pv (i+1),fun σ' H' p'=>⟨n - (i+1),by omega,rfl,hlt,p'⟩,fun x H' y=>?_⟩
  obtain⟨e,y⟩:=y
  subst e y
  exact hs i σ _ hlt p
 ·have e:i=n:=by omega
  subst e
  exact .inl ⟨ao _,hd σ H p⟩
end L2
namespace L2
open PySem PySem.Spec PyProof.Rows
abbrev R2:=V->V->Hp->VK->Prop
def OpR (X:Cx)(f:Value->Value->Sem Value)(r:R2):Prop:=
 ∀ (pins:List (Addr×Obj)) (s:Shared) (σ:St) (H:Hp) (x y:V) (v u:Value) (Q:VK),Inv X pins σ H s->RelV x v->RelV y u->r x y H Q->
  wpAny (model X.prog X.w) X.A (f v u) (EP X pins σ Q) X.xe s
def UnR (X:Cx)(f:Value->Sem Value)(r:V->Hp->VK->Prop):Prop:=
 ∀ (pins:List (Addr×Obj)) (s:Shared) (σ:St) (H:Hp) (x:V) (v:Value) (Q:VK),Inv X pins σ H s->RelV x v->r x H Q->
  wpAny (model X.prog X.w) X.A (f v) (EP X pins σ Q) X.xe s
def qC (X:Cx)(f:Value)(r:List V->Hp->VK->Prop):Prop:=
 ∀ (pins:List (Addr×Obj)) (s:Shared) (σ:St) (H:Hp) (xs:List V) (us:List Value) (Q:VK),Inv X pins σ H s->Vals xs us->r xs H Q->
  wpAny (model X.prog X.w) X.A (call f us) (EP X pins σ Q) X.xe s
def tOp (r:R2)(ta tb:TE):TE:=fun σ H Q=>ta σ H fun x H1=>tb σ H1 fun y H2=>r x y H2 Q
def tUn (r:V->Hp->VK->Prop)(ta:TE):TE:=fun σ H Q=>ta σ H fun x H1=>r x H1 Q
def rI (C:Int->Int->Prop)(g:Int->Int->V):R2:=fun x y H Q=>∃ i j,x= .int i/\y= .int j/\C i j/\Q (g i j) H
def rI0 (g:Int->Int->V):R2:=fun x y H Q=>∃ i j,x= .int i/\y= .int j/\Q (g i j) H
def rU (g:Int->V):V->Hp->VK->Prop:=fun x H Q=>∃ i,x= .int i/\Q (g i) H
section
variable {X:Cx}{a b c:Expr}{ta tb tc:TE}{pos:Pos}
theorem binT (ha:PE X a ta)(hb:PE X b tb){pins:List (Addr×Obj)}{s:Shared}{σ:St}{H:Hp}{R:V->V->Hp->Prop}(I:Inv X pins σ H s)
  (h:ta σ H fun x H1=>tb σ H1 fun y H2=>R x y H2) {Q:Value->Shared->Prop}{f:Value->Value->Sem Value}
  (hf:∀ v u s2 x y H2,Inv X pins σ H2 s2->RelV x v->RelV y u->R x y H2->wpAny (model X.prog X.w) X.A (f v u) Q X.xe s2):
  wpAny (model X.prog X.w) X.A (eval a X.env) (fun v s₁=>wpAny (model X.prog X.w) X.A (eval b X.env) (fun u s₂=>wpAny (model X.prog X.w) X.A (f v u) Q X.xe s₂) X.xe s₁) X.xe s:=by
 refine thn (ha pins s σ H _ I h) fun v s1 ⟨x,H1,I1,r1,q1⟩=>?_
 refine thn (hb pins s1 σ H1 _ I1 q1) fun u s2 ⟨y,H2,I2,r2,q2⟩=>?_
 exact hf v u s2 x y H2 I2 r1 r2 q2
theorem y6 {op:Operator}{r:R2}(ho:OpR X (binaryOp op) r)(ha:PE X a ta)(hb:PE X b tb):PE X (.BinOp a op b pos) (tOp r ta tb):=by
 intro pins s σ H Q I h
 exact wpAny_BinOp (binT ha hb I h fun v u s2 x y H2 I2 rx ry q=>ho pins s2 σ H2 x y v u Q I2 rx ry q)
theorem pe_un {op:UnaryOp}{r:V->Hp->VK->Prop}(ho:UnR X (unaryOp op) r)(ha:PE X a ta):PE X (.UnaryOp op a pos) (tUn r ta):=by
 intro pins s σ H Q I h
 exact UnaryOp_ (thn (ha pins s σ H _ I h) fun v s1 ⟨x,H1,I1,r1,q1⟩=>ho pins s1 σ H1 x v Q I1 r1 q1)
theorem opI {f:Value->Value->Sem Value}{C:Int->Int->Prop}{g:Int->Int->Int}
  (rule:∀ (i j:Int) (t u:Tok) (s:Shared) (Q:Value->Shared->Prop) (E:Value->Shared->Prop),C i j->Q (.int (g i j) s.toks) { s with toks:=s.toks+1} ->wpAny (model X.prog X.w) X.A (f (.int i t) (.int j u)) Q E s):
  OpR X f (rI C fun i j=> .int (g i j)):=by
 intro pins s σ H x y v u Q I rx ry h
 obtain⟨i,j,rfl,rfl,hc,q⟩:=h
 obtain⟨t,rfl⟩:=rx
 obtain⟨t',rfl⟩:=ry
 exact rule i j t t' s _ _ hc ⟨.int (g i j),H,I.tok _,⟨_,rfl⟩,q⟩
theorem opI0 {f:Value->Value->Sem Value}{g:Int->Int->Int}
  (rule:∀ (i j:Int) (t u:Tok) (s:Shared) (Q:Value->Shared->Prop) (E:Value->Shared->Prop),Q (.int (g i j) s.toks) { s with toks:=s.toks+1} ->wpAny (model X.prog X.w) X.A (f (.int i t) (.int j u)) Q E s):
  OpR X f (rI0 fun i j=> .int (g i j)):=by
 intro pins s σ H x y v u Q I rx ry h
 obtain⟨i,j,rfl,rfl,q⟩:=h
 obtain⟨t,rfl⟩:=rx
 obtain⟨t',rfl⟩:=ry
 exact rule i j t t' s _ _ ⟨.int (g i j),H,I.tok _,⟨_,rfl⟩,q⟩
theorem opB0 {f:Value->Value->Sem Value}{g:Int->Int->Bool}
  (rule:∀ (i j:Int) (t u:Tok) (s:Shared) (Q:Value->Shared->Prop) (E:Value->Shared->Prop),Q (.bool (g i j)) s->wpAny (model X.prog X.w) X.A (f (.int i t) (.int j u)) Q E s):
  OpR X f (rI0 fun i j=> .bl (g i j)):=by
 intro pins s σ H x y v u Q I rx ry h
 obtain⟨i,j,rfl,rfl,q⟩:=h
 obtain⟨t,rfl⟩:=rx
 obtain⟨t',rfl⟩:=ry
 exact rule i j t t' s _ _ ⟨.bl (g i j),H,I,rfl,q⟩
def CPow (i j:Int):Prop:=0<=j/\j<=1000000/\i.natAbs<2 ^ 64
def CMul (i j:Int):Prop:=(-(2 ^ 64)<i/\i<2 ^ 64)\/(-(2 ^ 64)<j/\j<2 ^ 64)
theorem CMul.ok {i j:Int}(h:CMul i j):IntMulOk i j:=by
 rcases h with ⟨h1,h2⟩ | ⟨h1,h2⟩
 ·exact .of_left (intBits_le_64 h1 h2)
 ·exact .of_right (intBits_le_64 h1 h2)
theorem jHX (k:Nat):(0:Int)<=2 ^ k:=by
 rw[two_pow_cast]
 exact gW _
theorem yG:OpR X (binaryOp .Add) (rI0 fun i j=> .int (i+j)):=opI0 fun _ _ _ _ _ _ _ q=>add_int q
theorem jD0:OpR X (binaryOp .Sub) (rI0 fun i j=> .int (i - j)):=opI0 fun _ _ _ _ _ _ _ q=>sub_int q
theorem jCE:OpR X (binaryOp .Mult) (rI CMul fun i j=> .int (i*j)):=opI fun _ _ _ _ _ _ _ hc q=>mul_int q hc.ok
theorem jFB:OpR X (binaryOp .Mod) (rI (fun _ j=>0<j) fun i j=> .int (i % j)):=opI fun i j _ _ _ _ _ hc q=>by
 have h1:(0:Int)<j:=hc
 exact mod_int' (by omega) (by rw[Int.fmod_eq_emod_of_nonneg i (by omega)]; exact q)
theorem jJI:OpR X (binaryOp .Pow) (rI CPow fun i j=> .int (i ^ j.toNat)):=opI fun _ _ _ _ _ _ _ hc q=>pow_int_small hc.1 hc.2.1 hc.2.2 q
theorem jQX:OpR X (binaryOp .LShift) (rI CPow fun i j=> .int (i*2 ^ j.toNat)):=opI fun _ _ _ _ _ _ _ hc q=>lshift_int_small hc.1 hc.2.1 hc.2.2 q
theorem jQW:OpR X (binaryOp .RShift) (rI (fun _ j=>0<=j) fun i j=> .int (i / 2 ^ j.toNat)):=opI fun i j _ _ _ _ _ hc q=>
 rshift_int hc (by rw[fh i (jHX _)]; exact q)
theorem jQZ:OpR X (binaryOp .BitAnd) (rI0 fun i j=> .int (Builtin.bitAnd i j)):=opI0 fun _ _ _ _ _ _ _ q=>and_int q
theorem unI {f:Value->Sem Value}{g:Int->Int}
  (rule:∀ (i:Int) (t:Tok) (s:Shared) (Q:Value->Shared->Prop) (E:Value->Shared->Prop),Q (.int (g i) s.toks) { s with toks:=s.toks+1} ->wpAny (model X.prog X.w) X.A (f (.int i t)) Q E s):
  UnR X f (rU fun i=> .int (g i)):=by
 intro pins s σ H x v Q I rx h
 obtain⟨i,rfl,q⟩:=h
 obtain⟨t,rfl⟩:=rx
 exact rule i t s _ _ ⟨.int (g i),H,I.tok _,⟨_,rfl⟩,q⟩
theorem jIJ:UnR X (unaryOp .USub) (rU fun i=> .int (-i)):=unI fun _ _ _ _ _ q=>neg_int q
end
noncomputable def scal:V->V->Bool
 | .non, .non=>true | .non, .int _=>true | .int _, .non=>true | .non, .bl _=>true | .bl _, .non=>true | .non, .str _=>true | .str _, .non=>true
 | .int _, .int _=>true | .bl _, .bl _=>true | .str _, .str _=>true | .byt _, .byt _=>true
 | .int _, .str _=>true | .str _, .int _=>true | .bl _, .str _=>true | .str _, .bl _=>true
 | _,_=>false
def rEq:R2:=fun x y H Q=>scal x y=true/\Q (.bl (decide (x=y))) H
def rNe:R2:=fun x y H Q=>scal x y=true/\Q (.bl (!decide (x=y))) H
theorem jL1 {i j:Int} :decide (V.int i=V.int j)=(i==j):=by
 rw[bP]
 simp
theorem jNV {i j:Bool} :decide (V.bl i=V.bl j)=(i==j):=by
 rw[bP]
 simp
theorem jL0 {i j:Str} :decide (V.str i=V.str j)=(i==j):=by
 rw[bP]
 simp
theorem jL2 {i j:Array UInt8} :decide (V.byt i=V.byt j)=(i.toList==j.toList):=by
 rw[bP]
 cases i
 cases j
 simp
section
variable {X:Cx}{a b c:Expr}{ta tb tc:TE}{pos:Pos}
theorem kJ {pins:List (Addr×Obj)}{σ:St}{H:Hp}{s:Shared}{Q:VK}{k k':Bool}(I:Inv X pins σ H s)(q:Q (.bl k) H)(e:k=k'):EP X pins σ Q (.bool k') s:=by
 subst e
 exact⟨.bl k,H,I,rfl,q⟩
theorem yB:OpR X (compareOp .Eq) rEq:=by
 intro pins s σ H x y v u Q I rx ry h
 obtain⟨hs,q⟩:=h
 cases x with
 | non=>
  cases rx
  cases y with
  | non=>cases ry; exact PySem.EqNone.eq_none_none (kJ I q (by simp))
  | bl j=>cases ry; exact PySem.EqNone.eq_none_bool (kJ I q (by simp))
  | int j=>obtain⟨t',rfl⟩:=ry; exact PySem.EqNone.eq_none_int (kJ I q (by simp))
  | str j=>obtain⟨t',rfl⟩:=ry; exact PySem.EqNone.eq_none_str (kJ I q (by simp))
  | _=>exact absurd (show false=true from hs) aw
 | bl i=>
  cases rx
  cases y with
  | non=>cases ry; exact PySem.EqNone.eq_bool_none (kJ I q (by simp))
  | bl j=>cases ry; exact eq_bool (kJ I q jNV)
  | str j=>obtain⟨t',rfl⟩:=ry; exact PySem.EqMixed.eq_bool_str (kJ I q (by simp))
  | _=>exact absurd (show false=true from hs) aw
 | int i=>
  obtain⟨t,rfl⟩:=rx
  cases y with
  | non=>cases ry; exact PySem.EqNone.eq_int_none (kJ I q (by simp))
  | int j=>obtain⟨t',rfl⟩:=ry; exact eq_int (kJ I q jL1)
  | str j=>obtain⟨t',rfl⟩:=ry; exact PySem.EqMixed.eq_int_str (kJ I q (by simp))
  | _=>exact absurd (show false=true from hs) aw
 | str i=>
  obtain⟨t,rfl⟩:=rx
  cases y with
  | non=>cases ry; exact PySem.EqNone.eq_str_none (kJ I q (by simp))
  | bl j=>cases ry; exact PySem.EqMixed.eq_str_bool (kJ I q (by simp))
  | int j=>obtain⟨t',rfl⟩:=ry; exact PySem.EqMixed.eq_str_int (kJ I q (by simp))
  | str j=>obtain⟨t',rfl⟩:=ry; exact eq_str (kJ I q jL0)
  | _=>exact absurd (show false=true from hs) aw
 | byt i=>
  obtain⟨t,rfl⟩:=rx
  cases y with
  | byt j=>obtain⟨t',rfl⟩:=ry; exact PySem.W.eq_bytes (kJ I q jL2)
  | _=>exact absurd (show false=true from hs) aw
 | _=>cases y <;> exact absurd (show false=true from hs) aw
theorem xF:OpR X (compareOp .NotEq) rNe:=by
 intro pins s σ H x y v u Q I rx ry h
 obtain⟨hs,q⟩:=h
 cases x with
 | non=>
  cases rx
  cases y with
  | non=>cases ry; exact PySem.EqNone.ne_none_none (kJ I q (by simp))
  | bl j=>cases ry; exact PySem.EqNone.ne_none_bool (kJ I q (by simp))
  | int j=>obtain⟨t',rfl⟩:=ry; exact PySem.EqNone.ne_none_int (kJ I q (by simp))
  | str j=>obtain⟨t',rfl⟩:=ry; exact PySem.EqNone.ne_none_str (kJ I q (by simp))
  | _=>exact absurd (show false=true from hs) aw
 | bl i=>
  cases rx
  cases y with
  | non=>cases ry; exact PySem.EqNone.ne_bool_none (kJ I q (by simp))
  | bl j=>cases ry; exact ne_bool (kJ I q (bn not jNV))
  | str j=>obtain⟨t',rfl⟩:=ry; exact PySem.EqMixed.ne_bool_str (kJ I q (by simp))
  | _=>exact absurd (show false=true from hs) aw
 | int i=>
  obtain⟨t,rfl⟩:=rx
  cases y with
  | non=>cases ry; exact PySem.EqNone.ne_int_none (kJ I q (by simp))
  | int j=>obtain⟨t',rfl⟩:=ry; exact ne_int (kJ I q (bn not jL1))
  | str j=>obtain⟨t',rfl⟩:=ry; exact PySem.EqMixed.ne_int_str (kJ I q (by simp))
  | _=>exact absurd (show false=true from hs) aw
 | str i=>
  obtain⟨t,rfl⟩:=rx
  cases y with
  | non=>cases ry; exact PySem.EqNone.ne_str_none (kJ I q (by simp))
  | bl j=>cases ry; exact PySem.EqMixed.ne_str_bool (kJ I q (by simp))
  | int j=>obtain⟨t',rfl⟩:=ry; exact PySem.EqMixed.ne_str_int (kJ I q (by simp))
  | str j=>obtain⟨t',rfl⟩:=ry; exact ne_str (kJ I q (bn not jL0))
  | _=>exact absurd (show false=true from hs) aw
 | byt i=>
  obtain⟨t,rfl⟩:=rx
  cases y with
  | byt j=>obtain⟨t',rfl⟩:=ry; exact PySem.W.ne_bytes (kJ I q (bn not jL2))
  | _=>exact absurd (show false=true from hs) aw
 | _=>cases y <;> exact absurd (show false=true from hs) aw
theorem op_lt:OpR X (compareOp .Lt) (rI0 fun i j=> .bl (decide (i<j))):=opB0 fun _ _ _ _ _ _ _ q=>lt_int q
theorem op_le:OpR X (compareOp .LtE) (rI0 fun i j=> .bl (decide (i<=j))):=opB0 fun _ _ _ _ _ _ _ q=>le_int q
theorem op_gt:OpR X (compareOp .Gt) (rI0 fun i j=> .bl (decide (j<i))):=opB0 fun _ _ _ _ _ _ _ q=>gt_int q
theorem op_ge:OpR X (compareOp .GtE) (rI0 fun i j=> .bl (decide (j<=i))):=opB0 fun _ _ _ _ _ _ _ q=>ge_int q
theorem jJJ:OpR X (compareOp .In) (fun x y H Q=>∃ i j,x= .str i/\y= .str j/\Q (.bl (!(Builtin.Str.occurrences j i 0 j.length 1).isEmpty)) H):=by
 intro pins s σ H x y v u Q I rx ry h
 obtain⟨i,j,rfl,rfl,q⟩:=h
 obtain⟨t,rfl⟩:=rx
 obtain⟨t',rfl⟩:=ry
 exact in_str (kJ I q rfl)
theorem jCF:OpR X (compareOp .Is) (fun x y H Q=>y= .non/\Q (.bl (decide (x= .non))) H):=by
 intro pins s σ H x y v u Q I rx ry h
 obtain⟨rfl,q⟩:=h
 cases ry
 refine is_none_gen (kJ I q ?_)
 cases x <;> first
  | (cases rx; rfl)
  | (obtain⟨t,rfl⟩:=rx; rfl)
theorem jOW:OpR X (compareOp .IsNot) (fun x y H Q=>y= .non/\Q (.bl (!decide (x= .non))) H):=by
 intro pins s σ H x y v u Q I rx ry h
 obtain⟨rfl,q⟩:=h
 cases ry
 refine isnot_none_gen (kJ I q ?_)
 cases x <;> first
  | (cases rx; rfl)
  | (obtain⟨t,rfl⟩:=rx; rfl)
theorem jK (b:Expr){op:CmpOp}(h:op≠ .In:=by decide)(h2:op≠ .NotIn:=by decide):behindInMarks op b=false:=by
 have e1:(op==CmpOp.In)=false:=by cases op <;> first | rfl | exact absurd rfl h
 have e2:(op==CmpOp.NotIn)=false:=by cases op <;> first | rfl | exact absurd rfl h2
 cases b <;> simp [behindInMarks,e1,e2]
theorem jOS {op:CmpOp}{r:R2}(ho:OpR X (compareOp op) r)(ha:PE X a ta)(hb:PE X b tb)(hm:behindInMarks op b=false):PE X (.Compare a [op] [b] pos) (tOp r ta tb):=by
 intro pins s σ H Q I h
 exact wpAny_Compare1 (binT ha hb I h fun v u s2 x y H2 I2 rx ry q=>ho pins s2 σ H2 x y v u Q I2 rx ry q) hm
def tTest (t:TE):TT:=fun σ H Q=>t σ H fun x H'=>∃ k,x= .bl k/\Q k H'
theorem jCZ {op:CmpOp}{r:R2}(ho:OpR X (compareOp op) r)(ha:PE X a ta)(hb:PE X b tb)(hm:behindInMarks op b=false):PT X (.Compare a [op] [b] pos) (tTest (tOp r ta tb)):=by
 intro pins s σ H Q I h
 refine wpAny_isTrue_Compare1 (thn (ha pins s σ H _ I h) fun v s1 ⟨x,H1,I1,r1,q1⟩=>thn (hb pins s1 σ H1 _ I1 q1) fun u s2 ⟨y,H2,I2,r2,q2⟩=>
  thn (ho pins s2 σ H2 x y v u _ I2 r1 r2 q2) fun c s3 ⟨z,H3,I3,r3,k,e,q3⟩=>?_) hm
 subst e
 cases r3
 exact bS ⟨H3,I3,q3⟩
def jGU (r r':R2)(ta tb tc:TE):TE:=fun σ H Q=>ta σ H fun x H1=>tb σ H1 fun y H2=>r x y H2 fun z H3=>∃ k,z= .bl k/\
 (if k=true then tc σ H3 fun w' H4=>r' y w' H4 Q else Q (.bl false) H3)
theorem jM6 {op op':CmpOp}{r r':R2}(ho:OpR X (compareOp op) r)(ho':OpR X (compareOp op') r')(ha:PE X a ta)(hb:PE X b tb)(hc:PE X c tc)
  (hm:lastMarks [op,op'] [b,c]=false:=by with_unfolding_all rfl):PE X (.Compare a [op,op'] [b,c] pos) (jGU r r' ta tb tc):=by
 intro pins s σ H Q I h
 refine Compare_chain (thn (ha pins s σ H _ I h) fun v s1 ⟨x,H1,I1,r1,q1⟩=>chain_link (thn (hb pins s1 σ H1 _ I1 q1) fun u s2 ⟨y,H2,I2,r2,q2⟩=>
  thn (ho pins s2 σ H2 x y v u _ I2 r1 r2 q2) fun d s3 ⟨z,H3,I3,r3,k,e,q3⟩=>?_)) hm
 subst e
 cases r3
 refine bS ?_
 cases k with
 | false=>exact ite_ff ⟨.bl false,H3,I3,rfl,q3⟩
 | true=>exact ite_tt (chain_last (thn (hc pins s3 σ H3 _ I3 q3) fun w' s4 ⟨z',H4,I4,r4,q4⟩=>ho' pins s4 σ H4 y z' u w' Q I4 r2 r4 q4))
theorem jM0 {op op':CmpOp}{r r':R2}(ho:OpR X (compareOp op) r)(ho':OpR X (compareOp op') r')(ha:PE X a ta)(hb:PE X b tb)(hc:PE X c tc)
  (hm:lastMarks [op,op'] [b,c]=false:=by with_unfolding_all rfl):PT X (.Compare a [op,op'] [b,c] pos) (tTest (jGU r r' ta tb tc)):=by
 intro pins s σ H Q I h
 refine isTrue_chain (thn (ha pins s σ H _ I h) fun v s1 ⟨x,H1,I1,r1,q1⟩=>test_link (thn (hb pins s1 σ H1 _ I1 q1) fun u s2 ⟨y,H2,I2,r2,q2⟩=>
  thn (ho pins s2 σ H2 x y v u _ I2 r1 r2 q2) fun d s3 ⟨z,H3,I3,r3,k,e,q3⟩=>?_)) hm
 subst e
 cases r3
 refine bS ?_
 cases k with
 | false=>
  obtain⟨k',e',q'⟩:=q3
  cases e'
  exact ite_ff ⟨H3,I3,q'⟩
 | true=>
  refine ite_tt (test_last (thn (hc pins s3 σ H3 _ I3 q3) fun w' s4 ⟨z',H4,I4,r4,q4⟩=>thn (ho' pins s4 σ H4 y z' u w' _ I4 r2 r4 q4) fun d' s5 ⟨z2,H5,I5,r5,k2,e2,q5⟩=>?_))
  subst e2
  cases r5
  exact bS ⟨H5,I5,q5⟩
theorem jD5:(sizeLine:Nat)<2 ^ 63:=by rw[cD]; decide
theorem kS:OpR X (binaryOp .Add) (fun x y H Q=>∃ i j,x= .str i/\y= .str j/\i.length+j.length<=sizeLine/\Q (.str (i++j)) H):=by
 intro pins s σ H x y v u Q I rx ry h
 obtain⟨i,j,rfl,rfl,hz,q⟩:=h
 obtain⟨t,rfl⟩:=rx
 obtain⟨t',rfl⟩:=ry
 exact add_str (fun t' tk=>⟨.str (i++j),H,I.tok _,⟨_,rfl⟩,q⟩) hz
theorem vals1 {x:V}{us:List Value}(r:Vals [x] us):∃ u,us=[u]/\RelV x u:=by
 cases r with
 | cons r1 r2=>cases r2; exact⟨_,rfl,r1⟩
theorem vals2 {x y:V}{us:List Value}(r:Vals [x,y] us):∃ u w',us=[u,w']/\RelV x u/\RelV y w':=by
 cases r with
 | cons r1 r2=>
  cases r2 with
  | cons r3 r4=>cases r4; exact⟨_,_,rfl,r1,r3⟩
theorem jLB (hc:X.calm=true):qC X (.builtin "max") (fun xs H Q=>∃ i j,xs=[.int i, .int j]/\Q (.int (if j>i then j else i)) H):=by
 intro pins s σ H xs us Q I r h
 obtain⟨i,j,rfl,q⟩:=h
 obtain⟨u,w',rfl,⟨t,rfl⟩,⟨t',rfl⟩⟩:=vals2 r
 refine max_two_ints (I.ok.hd hc) fun h' tk k=>⟨_,H,I.kept k,?_,q⟩
 by_cases hj:j>i
 ·rw[aA hj,aA hj]; exact⟨_,rfl⟩
 ·rw[aB hj,aB hj]; exact⟨_,rfl⟩
theorem jLA (hc:X.calm=true):qC X (.builtin "min") (fun xs H Q=>∃ i j,xs=[.int i, .int j]/\Q (.int (if j<i then j else i)) H):=by
 intro pins s σ H xs us Q I r h
 obtain⟨i,j,rfl,q⟩:=h
 obtain⟨u,w',rfl,⟨t,rfl⟩,⟨t',rfl⟩⟩:=vals2 r
 refine min_two_ints (I.ok.hd hc) fun h' tk k=>⟨_,H,I.kept k,?_,q⟩
 by_cases hj:j<i
 ·rw[aA hj,aA hj]; exact⟨_,rfl⟩
 ·rw[aB hj,aB hj]; exact⟨_,rfl⟩
theorem jLC:qC X (.type "int") (fun xs H Q=>(∃ i,xs=[.int i]/\Q (.int i) H)\/∃ k,xs=[.bl k]/\Q (.int (if k then 1 else 0)) H):=by
 intro pins s σ H xs us Q I r h
 rcases h with ⟨i,rfl,q⟩ | ⟨k,rfl,q⟩
 ·obtain⟨u,rfl,t,rfl⟩:=vals1 r
  exact call_int_int ⟨.int i,H,I,⟨_,rfl⟩,q⟩
 ·obtain⟨u,rfl,r1⟩:=vals1 r
  cases r1
  exact call_int_bool ⟨.int (if k then 1 else 0),H,I.tok _,⟨_,rfl⟩,q⟩
theorem jA2:qC X (.type "str") (fun xs H Q=>∃ i,xs=[.int i]/\i.natAbs.log2<1920/\Q (.str (toString i)) H):=by
 intro pins s σ H xs us Q I r h
 obtain⟨i,rfl,hz,q⟩:=h
 obtain⟨u,rfl,t,rfl⟩:=vals1 r
 exact PySem.P.str_of_int hz ⟨.str _,H,I.tok _,⟨_,rfl⟩,q⟩
end
end L2
namespace L2
open PySem PySem.Spec PyProof.Rows
structure ObjM (h:Heap)(x dx C:Addr)(mA:Str->Option Value):Prop where
 obj:h.get? x=some (instObj C dx)
 ns:h.Ns1 dx mA
 ne:dx≠x
theorem jFJ {h:Heap}{dx:Addr}{mA:Str->Option Value}(n:h.Ns1 dx mA):∃ od,h.get? dx=some od/\∀ name,lookIn name od=some (mA name):=by
 obtain⟨o,es,ep,ho,hd,hk,_,hm⟩:=n
 refine⟨o,ho,fun name=>?_⟩
 have e:=hm name
 unfold nsFind findBy at e
 rw[<- Array.find?_toList] at e
 unfold lookIn
 rw[hd]
 dsimp only
 split
 ·rename_i y q
  rw[q] at e
  exact bn some e
 ·rename_i q
  rw[q] at e
  have a:es.toList.any (·.refKey)=false:=by
   rw[List.any_eq_false]
   intro y hy
   obtain⟨z,t,hkey⟩:=hk y (gG.mp hy)
   simp [DictEntry.refKey,hkey]
  have a':¬ es.toList.any (·.refKey)=true:=by rw[a]; exact aw
  rw[aB a']
  exact bn some e
theorem ObjM.look {h:Heap}{x dx C:Addr}{mA:Str->Option Value}(I:ObjM h x dx C mA):∃ od,PySem.W.InstAt h x (instObj C dx) C (some od)/\∀ name,lookIn name od=some (mA name):=
 let ⟨od,ho,hl⟩:=jFJ I.ns
 ⟨od,⟨I.obj,rfl,rfl,ho⟩,hl⟩
section
variable {prog:Program}{w:World}{A:Around}{E:Value->Shared->Prop}{s:Shared}{K:W.Frag}{x dx C f:Addr}{mA:Str->Option Value}{name:Str}{v:Value}
end
theorem RelO.some_of {v:V}{o:Option Value}(r:RelO (some v) o):∃ u,o=some u/\RelV v u:=by
 cases o with
 | none=>exact(show False from r).elim
 | some u=>exact⟨u,rfl,r⟩
theorem jKT {v:V}{u:Value}(r:RelV v u):handedIn u=true:=by
 cases v with
 | non=>cases (show u=Value.none from r); rfl
 | bl b=>cases (show u=Value.bool b from r); rfl
 | int i=>obtain⟨t,e⟩:=(show ∃ t,u=Value.int i t from r); cases e; rfl
 | str x=>obtain⟨t,e⟩:=(show ∃ t,u=Value.str x t from r); cases e; rfl
 | byt b=>obtain⟨t,e⟩:=(show ∃ t,u=Value.bytes b t from r); cases e; rfl
 | flt b=>obtain⟨t,e⟩:=(show ∃ t,u=Value.float b t from r); cases e; rfl
 | ref a=>cases (show u=Value.ref a from r); rfl
 | ty n=>cases (show u=Value.type n from r); rfl
section
variable {P:Program}{w:World}{H H':Hp}{h h':Heap}{a C dx:Addr}{fs fs':List (Str×V)}
theorem jPM (hok:HOk P w H h)(e:H a=some (.ins C dx fs)):∃ mA,ObjM h a dx C mA/\(∀ f,RelO (fs.lookup f) (mA f))/\PySem.Within mA (fs.map (·.1))/\fs.length<=1000/\H dx=some (.own a):=by
 obtain⟨d,z,ne,ob,mA,n,r,q⟩:=(show ObjOk P w H h a (.ins C dx fs) from hok a _ e)
 exact⟨mA,⟨ob,n,ne⟩,r,q,z,d⟩
end
structure Cls (K:W.Frag)(C:Addr):Prop where
 pg:plainGet K C Str.empty=true
 hd:hasDictIn K C=true
 po:PySem.W.plainOver K C=true
 sa:findIn K (.ref C) "__setattr__" =some (some (.builtin "object.__setattr__"))
theorem Cls.get {K:W.Frag}{C:Addr}(c:Cls K C)(f:Str):plainGet K C f=true:=c.pg
structure Meth (K:W.Frag)(C:Addr)(m:Str)(f:Addr):Prop where
 at_:findIn K (.ref C) m=some (some (.ref f))
 fn:isFn K (.ref f)=true
 kp:keepIn K (.ref f)=true
section
variable {X:Cx}{pins:List (Addr×Obj)}{σ:St}{H:Hp}{s:Shared}{a C dx:Addr}{fs:List (Str×V)}{f:Str}{v:V}{A:Around}{E:Value->Shared->Prop}
theorem jPW {prog:Program}{w:World}{env:Env}{e:Expr}{f:Str}{pos:Pos}{s:Shared}{Q:Value->Shared->Prop}(hb:attributeBase e f env (eval e env)=eval e env)
  (h:wpAny (model prog w) A (eval e env) (fun o s₁=>wpAny (model prog w) A (getAttr o f true) Q E s₁) E s):wpAny (model prog w) A (eval (.Attribute e f pos) env) Q E s:=
 Attribute_any_ h (by rw[arm_eval_Attribute,hb])
end
section
variable {X:Cx}{o e value:Expr}{f:Str}{pos pos' tpos:Pos}{ta tv:TE}
end
section
variable {X:Cx}{pins:List (Addr×Obj)}{σ:St}{H:Hp}{s:Shared}{A:Around}{E:Value->Shared->Prop}{Q:Value->Shared->Prop}{c:Value}{b:Bool}
inductive TyOf (K:W.Frag) (H:Hp):V->Value->Prop where
 | non:TyOf K H .non (.type "NoneType")
 | bl (x:Bool):TyOf K H (.bl x) (.type "bool")
 | int (i:Int):TyOf K H (.int i) (.type "int")
 | str (x:Str):TyOf K H (.str x) (.type "str")
 | flt (x:UInt64):TyOf K H (.flt x) (.type "float")
 | lst {a:Addr}{xs:List V}(e:H a=some (.lst xs)):TyOf K H (.ref a) (.type "list")
 | frz {a:Addr}{o:Obj}{xs:List V}(e:H a=some (.frz o (.lst xs))):TyOf K H (.ref a) (.type "list")
 | tup {a:Addr}{xs:List V}(e:H a=some (.tup xs)):TyOf K H (.ref a) (.type "tuple")
 | dK {a:Addr}{kvs:List (Key×V)}(e:H a=some (.dK kvs)):TyOf K H (.ref a) (.type "dict")
 | dT {a:Addr}{kvs:List (List Key×V)}(e:H a=some (.dT kvs)):TyOf K H (.ref a) (.type "dict")
 | ins {a C dx:Addr}{fs:List (Str×V)}(e:H a=some (.ins C dx fs)) (cl:Cls K C) (ha:findIn K (.ref C) "__class__" =some (some (.builtin "object.__class__")))
   (hn:specialIn K (.builtin "object.__class__") "__get__" =some (some (.builtin "getset_descriptor.__get__"))) (htk:takesIn K (.builtin "object.__class__")=some true)
   (hm:mroIn K C (.type "object")=some true):TyOf K H (.ref a) (.ref C)
theorem jKN {x:V}{u t:Value}(I:Inv X pins σ H s)(rx:RelV x u)(ty:TyOf X.K H x t)(e:kitOne X.K t c=some b)(h:∀ tk,Q (.bool b) { s with toks:=tk}):
  wpAny (model X.prog X.w) A (call (.builtin "isinstance") [u,c]) Q E s:=by
 cases ty with
 | non=>cases (show u=Value.none from rx); exact bK PySem.W.kitx_none I.kIn True.intro e (fun z=>nomatch z) h
 | bl y=>cases (show u=Value.bool y from rx); exact bK PySem.W.kitx_bool I.kIn True.intro e (fun z=>nomatch z) h
 | int i=>obtain⟨t,q⟩:=(show ∃ t,u=Value.int i t from rx); cases q; exact bK PySem.W.kitx_int I.kIn True.intro e (fun z=>nomatch z) h
 | str y=>obtain⟨t,q⟩:=(show ∃ t,u=Value.str y t from rx); cases q; exact bK PySem.W.kitx_str I.kIn True.intro e (fun z=>nomatch z) h
 | flt y=>obtain⟨t,q⟩:=(show ∃ t,u=Value.float y t from rx); cases q; exact bK PySem.W.kitx_float I.kIn True.intro e (fun z=>nomatch z) h
 | @lst a xs ea=>
  cases (show u=Value.ref a from rx)
  obtain⟨_,_,n,_,h1⟩:=(show ObjOk X.prog X.w H s.heap a (.lst xs) from I.hok a _ ea)
  exact bK kitx_list I.kIn ⟨_,h1,rfl⟩ e (fun z=>nomatch z) h
 | @frz a ob xs ea=>
  cases (show u=Value.ref a from rx)
  obtain⟨_,_,_,n,_,h1⟩:=(show ObjOk X.prog X.w H s.heap a (.frz ob (.lst xs)) from I.hok a _ ea)
  exact bK kitx_list I.kIn ⟨_,h1,rfl⟩ e (fun z=>nomatch z) h
 | @tup a xs ea=>
  cases (show u=Value.ref a from rx)
  obtain⟨_,_,_,p⟩:=(show ObjOk X.prog X.w H s.heap a (.tup xs) from I.hok a _ ea)
  obtain⟨o,h1,h2,_⟩:=p.isTup
  exact bK PySem.W.kitx_tuple I.kIn ⟨o,h1,h2⟩ e (fun z=>nomatch z) h
 | @dK a kvs ea=>
  cases (show u=Value.ref a from rx)
  obtain⟨_,_,vs,_,p⟩:=(show ObjOk X.prog X.w H s.heap a (.dK kvs) from I.hok a _ ea)
  obtain⟨o,es,ep,h1,h2,_⟩:=p
  exact bK kitx_dict I.kIn ⟨o,h1,h2.1⟩ e (fun z=>nomatch z) h
 | @dT a kvs ea=>
  cases (show u=Value.ref a from rx)
  obtain⟨_,_,xs,_,o,es,ep,h1,h2,_⟩:=(show ObjOk X.prog X.w H s.heap a (.dT kvs) from I.hok a _ ea)
  exact bK kitx_dict I.kIn ⟨o,h1,h2.1⟩ e (fun z=>nomatch z) h
 | @ins a C dx fs ea cl ha hn htk hm=>
  cases (show u=Value.ref a from rx)
  obtain⟨mA,O,_⟩:=jPM I.hok ea
  obtain⟨od,J,_⟩:=O.look
  exact bK (PySem.W.kitx_own (cl.get _) cl.hd ha hn htk hm) I.kIn J e (fun z=>nomatch z) h
end
end L2
namespace L2
open PySem PySem.Spec PyProof.Rows
structure Room (k:Nat)(A:Around):Prop where
 hd:A.handled=none
 dp:A.depth+3*k+5<recursionLimit
 un:A.units+16*k+200<cLine
theorem Room.mono {j k:Nat}{A:Around}(r:Room k A)(h:j<=k):Room j A:=⟨r.hd,by have:=r.dp; omega,by have:=r.un; omega⟩
theorem Room.deeper {k:Nat}{A:Around}(r:Room (k+1) A)(env:Env):Room k (A.deeper env):=
 ⟨r.hd,by have:=r.dp; show A.depth+1+3*k+5<_; omega,by have:=r.un; show A.units+3+16*k+200<_; omega⟩
theorem jI9 {A:Around}{C:Addr}{us:List Value}{kw:List (Str×Value)} :(A.under (.builtin "type.__call__" ⟨.ref C::us,kw⟩)).depth=A.depth+1:=by
 first | rfl | simp [Around.under,Code.weight,Code.isCreation,Code.isGuard,Code.isCaller,Code.frames,Code.isFrame,guardIds]
theorem jI8 {A:Around}{C:Addr}{us:List Value}{kw:List (Str×Value)} :(A.under (.builtin "type.__call__" ⟨.ref C::us,kw⟩)).units=A.units+1:=by
 first | rfl | simp [Around.under,Code.cUnits,Code.frames,Code.isFrame]
theorem Room.make {k:Nat}{A:Around}(r:Room (k+1) A)(C:Addr)(us:List Value)(kw:List (Str×Value)):Room k (A.under (.builtin "type.__call__" ⟨.ref C::us,kw⟩)):=
 ⟨r.hd,by have:=r.dp; rw[jI9]; omega,by have:=r.un; rw[jI8]; omega⟩
theorem Room.depth {k:Nat}{A:Around}(r:Room k A):A.depth<recursionLimit:=by have:=r.dp; omega
theorem Room.units0 {k:Nat}{A:Around}(r:Room k A):A.units<cLine:=by have:=r.un; omega
def tNil:TA:=fun _ H Q=>Q [] H
def tCons (ta:TE)(tr:TA):TA:=fun σ H Q=>ta σ H fun x H1=>tr σ H1 fun xs H2=>Q (x::xs) H2
section
variable {X:Cx}{e:Expr}{es:List Expr}{te:TE}{t:TA}{pos:Pos}
theorem yT:PA X [] tNil:=fun _ _ _ _ H Q I h=>Calls.spliced_nil ⟨[],H,I, .nil,h⟩
theorem kR (ha:PE X e te)(hr:PA X es t)(hs:starEach (e::es) X.env=(false,eval e X.env)::starEach es X.env:=by rfl):PA X (e::es) (tCons te t):=by
 intro pos pins s σ H Q I h
 rw[hs]
 show wpAny _ _ (spliced ((false,eval e X.env)::backTo pos (starEach es X.env))) _ _ s
 refine Calls.spliced_cons (thn (ha pins s σ H _ I h) fun u s1 ⟨x,H1,I1,r1,q1⟩=>?_)
 exact thn (hr pos pins s1 σ H1 _ I1 q1) fun us s2 ⟨xs,H2,I2,r2,q2⟩=>⟨x::xs,H2,I2, .cons r1 r2,q2⟩
def tTup (t:TA):TE:=fun σ H Q=>t σ H fun xs H1=>xs.length<=sizeLine/\∀ p,H1 p=none->Q (.ref p) (upd H1 p (.tup xs))
def tLst (t:TA):TE:=fun σ H Q=>t σ H fun xs H1=>xs.length<=sizeLine/\∀ p,H1 p=none->Q (.ref p) (upd H1 p (.lst xs))
theorem jQP {x1}(h:PA X es t):PE X (.Tuple es x1 pos) (tTup t):=by
 intro pins s σ H Q I hq
 refine wpAny_Tuple_spliced (thn (h pos pins s σ H _ I hq) fun us s1 ⟨xs,H1,I1,r,z,q⟩=>⟨by rw[<- r.length]; exact z,?_⟩)
 have hf:H1 s1.heap.objs.size=none:=I1.hok.fresh (ao _)
 refine⟨.ref s1.heap.objs.size,upd H1 s1.heap.objs.size (.tup xs),I1.laid (t':=s1.toks) (fun b u e=>ae _ e) (ao _) ?_,rfl,q _ hf⟩
 exact⟨z,us,r,TupO.new _ _⟩
theorem jH3 (h:PA X es t):PE X (.List es pos) (tLst t):=by
 intro pins s σ H Q I hq
 refine wpAny_List_spliced (thn (h pos pins s σ H _ I hq) fun us s1 ⟨xs,H1,I1,r,z,q⟩=>⟨by rw[<- r.length]; exact z,?_⟩)
 have hf:H1 s1.heap.objs.size=none:=I1.hok.fresh (ao _)
 refine⟨.ref s1.heap.objs.size,upd H1 s1.heap.objs.size (.lst xs),I1.laid (t':=s1.toks) (fun b u e=>ae _ e) (ao _) ?_,rfl,q _ hf⟩
 exact⟨z,us,0,r,ay _ rfl⟩
end
abbrev Sp:=List V->Hp->VK->XK->Prop
abbrev CXT:=List Env->Hp->Shared->XK->Value->Shared->Prop
structure Env0 (P:Program)(w:World)(K:W.Frag)(mg:Str->Option Value)(base:Heap)(A:Around)(outer:List Env)(s:Shared)(H:Hp):Prop where
 frames:A.frames=some outer
 mod:Mod K mg base
 bs:∀ b o,base.get? b=some o->s.heap.get? b=some o/\H b=none
 bsz:base.objs.size<=s.heap.objs.size
 funs:s.heap.FunFrames base outer
 frf:∀ b∈frs outer,H b=none
 hok:HOk P w H s.heap
 bare:AllBare s.gens
def CE (outer:List Env)(P:Program)(w:World)(H:Hp)(s:Shared)(Q:VK)(u:Value)(s':Shared):Prop:=
 ∃ v H',s'.os=s.os/\AllBare s'.gens/\Un (frs outer) [] H H' s.heap s'.heap/\HOk P w H' s'.heap/\RelV v u/\Q v H'
def CR (CX:CXT)(outer:List Env)(P:Program)(w:World)(H:Hp)(s:Shared)(Q:VK)(E:XK)(r:Result)(s':Shared):Prop:=
 match r with
 | .ok (.ret u)=>CE outer P w H s Q u s'
 | .ok _=>False
 | .error e=>CX outer H s E e s'
structure FnOk (P:Program)(w:World)(K:W.Frag)(mg:Str->Option Value)(base:Heap)(CX:CXT)(k:Nat)(f:Addr)(fd:FuncData)(ps:List Str)(sp:Sp):Prop where
 len:∀ vs H Q E,sp vs H Q E->vs.length=ps.length
 run:∀ (A:Around) (outer:List Env) (s:Shared) (H:Hp) (args:Args) (us:List Value) (vs:List V) (Q:VK) (E:XK),Room k A->Env0 P w K mg base A outer s H->BindsTo s fd args (ps.zip us)->Vals vs us->sp vs H Q E->
  codeAny (model P w) A (.call (.ref f) args) (CR CX outer P w H s Q E) s
theorem FnOk.imp {P:Program}{w:World}{K:W.Frag}{mg:Str->Option Value}{base:Heap}{CX:CXT}{k:Nat}{f:Addr}{fd:FuncData}{ps:List Str}{sp sp':Sp}(F:FnOk P w K mg base CX k f fd ps sp)
  (h:∀ vs H Q E,sp' vs H Q E->sp vs H Q E):FnOk P w K mg base CX k f fd ps sp':=
 ⟨fun vs H Q E q=>F.len vs H Q E (h _ _ _ _ q),fun A outer s H args us vs Q E hr he hb hv hs=>F.run A outer s H args us vs Q E hr he hb hv (h _ _ _ _ hs)⟩
theorem Env0.make {P:Program}{w:World}{K:W.Frag}{mg:Str->Option Value}{base:Heap}{A:Around}{outer:List Env}{s:Shared}{H:Hp}(e:Env0 P w K mg base A outer s H)(C:Addr)(us:List Value)(kw:List (Str×Value)):
  Env0 P w K mg base (A.under (.builtin "type.__call__" ⟨.ref C::us,kw⟩)) outer s H:=⟨by first | exact e.frames | (simpa [Around.under,Code.envs,Code.isFrame,pushEnvs] using e.frames),e.mod,e.bs,e.bsz,e.funs,e.frf,e.hok,e.bare⟩
section
variable {X:Cx}{pins:List (Addr×Obj)}{σ:St}{H:Hp}{s s':Shared}
theorem Inv.env0 (I:Inv X pins σ H s):Env0 X.prog X.w X.K X.mg X.base X.A X.stack s H:=
 ⟨I.ok.frames,I.ok.mod,I.bs,aO I.ok.bsz I.sz,I.stack,I.stkFree,I.hok,I.bare⟩
theorem Inv.after {Q:VK}{u:Value}(I:Inv X pins σ H s)(h:CE X.stack X.prog X.w H s Q u s'):EP X pins σ Q u s':=by
 obtain⟨v,H',os,bare,un,hok,r,q⟩:=h
 obtain⟨hh,g,d,t,os'⟩:=s'
 obtain rfl:os'=s.os:=os
 exact⟨v,H',I.call (h':=hh) (g':=g) (d':=d) (t':=t) (ch:=[]) un hok bare (fun b z=>absurd z (by simp)),r,q⟩
end
def tCall (sp:Sp)(dvs:List V)(E:XK)(t:TA):TE:=fun σ H Q=>t σ H fun vs H1=>sp (vs++dvs) H1 Q E
def Binds (K:W.Frag)(fd:FuncData)(ps:List Str)(ds:List Value):Prop:=
 ∀ (s:Shared) (us:List Value),K.In s.heap->(us++ds).length=ps.length->BindsTo s fd ⟨us,[]⟩ (ps.zip (us++ds))
theorem Binds.all {K:W.Frag}{fd:FuncData}{ps:List Str}(h:∀ us:List Value,us.length=ps.length->bindArgs fd ⟨us,[]⟩=pure (ps.zip us)):Binds K fd ps []:=fun s us _ hl=>by
 rw[bL] at hl ⊢
 exact .of_eq (h us hl)
def jLQ (CX:CXT)(X:Cx)(E:XK):Prop:=∀ (pins:List (Addr×Obj)) (σ:St) (H:Hp) (s:Shared) (e:Value) (s':Shared),Inv X pins σ H s->CX X.stack H s E e s'->X.xe e s'
section
variable {X:Cx}{CX:CXT}{k:Nat}{f C:Addr}{fd:FuncData}{ps:List Str}{sp:Sp}{dvs:List V}{ds:List Value}{E:XK}{x m:Str}{p pos apos:Pos}{e o:Expr}{es:List Expr}{ta:TE}{t:TA}
theorem jQC {pins:List (Addr×Obj)}{σ:St}{H:Hp}{s:Shared}{Q:VK}{us:List Value}{vs:List V}(F:FnOk X.prog X.w X.K X.mg X.base CX k f fd ps sp)(hr:Room k X.A)(hb:Binds X.K fd ps ds)(hd:Vals dvs ds)(hx:jLQ CX X E)
  (I:Inv X pins σ H s) (r:Vals vs us) (h:sp (vs++dvs) H Q E):wpAny (model X.prog X.w) X.A (call (.ref f) us) (EP X pins σ Q) X.xe s:=by
 have r2:Vals (vs++dvs) (us++ds):=r.append hd
 have hl:(us++ds).length=ps.length:=by rw[<- r2.length]; exact F.len _ _ _ _ h
 refine cF (cG (F.run X.A X.stack s H ⟨us,[]⟩ (us++ds) (vs++dvs) Q E hr I.env0 (hb s us I.kIn hl) r2 h) fun r s' hq=>?_)
 cases r with
 | error e=>exact hx pins σ H s e s' I hq
 | ok fl=>
  cases fl with
  | ret u=>exact I.after hq
  | next=>exact False.elim hq
  | brk=>exact False.elim hq
  | cont=>exact False.elim hq
theorem jOT (F:FnOk X.prog X.w X.K X.mg X.base CX k f fd ps sp)(hr:Room k X.A)(hg:Gl X x)(hm:X.mg x=some (.ref f))(hk:keepIn X.K (.ref f)=true)(hb:Binds X.K fd ps ds)(hd:Vals dvs ds)(hx:jLQ CX X E)
  (ha:PA X (e::es) t) (hdb:(x==("__debug__" :Str))=false:=by decide) (he:starEach (e::es) X.env=(false,eval e X.env)::starEach es X.env:=by rfl) (hpl:(backTo pos (starEach es X.env)).any (·.1)=false:=by rfl):
  PE X (.Call (.Name x p) (e::es) [] pos) (tCall sp dvs E t):=by
 intro pins s σ H Q I h
 refine cH (jBE I hg hm ?_ hdb)
 refine fi (h₀:=X.base) I.ok.mod.kin hk (thn (ha pos pins s σ H _ I h) fun us s1 ⟨vs,H1,I1,r,q⟩=>⟨I1.kIn,?_⟩) he hpl
 exact jQC F hr hb hd hx I1 r q
end
section
variable {X:Cx}{CX:CXT}{k:Nat}{f C:Addr}{fd:FuncData}{ps ks:List Str}{sp:Sp}{E:XK}{x m:Str}{p pos apos kpos:Pos}{e o:Expr}{es:List Expr}{kws:List Keyword}{te ta:TE}{t tk:TA}{nm:Option Str}
variable {g:List Value->List Value->List Value}{gV:List V->List V->List V}
end
structure FnScope (N P:List Str)(sc:Scope):Prop where
 kind:sc.kind= .function
 co:sc.isCoroutine=false
 gen:sc.isGenerator=false
 nd:N.Nodup
 pre:N.take P.length=P
 par:∀ x∈P,sc.names.lookup x=some .local\/sc.names.lookup x=some .cell
 nofree:∀ y∈sc.names,y.2≠ .free
theorem jFY {kindOf:Str->Option NameKind}{x:Str} :∀ {binds:List (Str×Value)}{m:Str->Option Value},(∀ v,(x,v)∉binds)->bindL kindOf binds m x=m x
 | [],_,_=>rfl
 | (n,v)::r,m,h=>by
  unfold bindL
  rw[jFY fun w hw=>h w (ar _ hw)]
  split
  ·have:x≠n:=by rintro rfl; exact h v am
   simp [this]
  ·rfl
theorem jG0 {kindOf:Str->Option NameKind}{x:Str} :∀ {binds:List (Str×Value)}{m:Str->Option Value},(∀ v,(x,v)∉binds)->bindC kindOf binds m x=m x
 | [],_,_=>rfl
 | (n,v)::r,m,h=>by
  unfold bindC
  rw[jG0 fun w hw=>h w (ar _ hw)]
  split
  ·rfl
  ·have:x≠n:=by rintro rfl; exact h v am
   simp [this]
theorem jFZ {kindOf:Str->Option NameKind}{x:Str}{v:Value} :∀ {P:List Str}{vs:List Value}{i:Nat}{m:Str->Option Value},P.Nodup->P[i]?=some x->vs[i]?=some v->kindOf x=some .local->
  bindL kindOf (P.zip vs) m x=some v
 | [],_,_,_,_,h,_,_=>by simp at h
 | _::_,[],_,_,_,_,h,_=>by simp at h
 | p::P,w::vs,0,m,nd,h1,h2,hk=>by
  simp at h1 h2; subst h1; subst h2
  show bindL kindOf ((p,w)::P.zip vs) m p=_
  unfold bindL
  rw[jFY fun v hv=>(dw.mp nd).1 (eM hv).1,aA hk]
  simp
 | p::P,w::vs,i+1,m,nd,h1,h2,hk=>by
  show bindL kindOf ((p,w)::P.zip vs) m x=_
  unfold bindL
  exact jFZ (i:=i) (dw.mp nd).2 (by simpa using h1) (by simpa using h2) hk
theorem jG1 {kindOf:Str->Option NameKind}{x:Str}{v:Value} :∀ {P:List Str}{vs:List Value}{i:Nat}{m:Str->Option Value},P.Nodup->P[i]?=some x->vs[i]?=some v->kindOf x≠some .local->
  bindC kindOf (P.zip vs) m x=some v
 | [],_,_,_,_,h,_,_=>by simp at h
 | _::_,[],_,_,_,_,h,_=>by simp at h
 | p::P,w::vs,0,m,nd,h1,h2,hk=>by
  simp at h1 h2; subst h1; subst h2
  show bindC kindOf ((p,w)::P.zip vs) m p=_
  unfold bindC
  rw[jG0 fun v hv=>(dw.mp nd).1 (eM hv).1,aB hk]
  simp
 | p::P,w::vs,i+1,m,nd,h1,h2,hk=>by
  show bindC kindOf ((p,w)::P.zip vs) m x=_
  unfold bindC
  exact jG1 (i:=i) (dw.mp nd).2 (by simpa using h1) (by simpa using h2) hk
def start (N:List Str)(vs:List V):St:=vs.map some++replicate (N.length - vs.length) none
def cxOf (CX:CXT)(P:Program)(w:World)(K:W.Frag)(mg:Str->Option Value)(base:Heap)(N:List Str)(qual:Str)(scope:Scope)(f:Addr)(cd:Value)(A:Around)(outer:List Env)(s:Shared)(H:Hp)(E:XK):Cx where
 prog:=P
 w:=w
 K:=K
 mg:=mg
 base:=base
 A:=A.deeper (envOfC qual scope s.heap.objs.size f cd)
 N:=N
 s₀:=s
 H₀:=H
 env:=envOfC qual scope s.heap.objs.size f cd
 outer:=outer
 stack:=envOfC qual scope s.heap.objs.size f cd::outer
 ex:=[]
 calm:=true
 fn:=fun _=>true
 pn:=[]
 xe:=fun e s'=>wpAny (model P w) (A.deeper (envOfC qual scope s.heap.objs.size f cd)) (leaving (envOfC qual scope s.heap.objs.size f cd) e) (fun _ s''=>CX outer H s E e s'') (fun e' s''=>CX outer H s E e' s'') s'
theorem jHQ {sc:Scope}{n:Nat}{x:Str}(h:sc.names.lookup x=some .cell):∃ c,(cellsFrom n sc.names []).lookup x=some c:=by
 have q:=dG sc.names n [] (.inl h)
 exact cx.mp q
theorem jFO {CX:CXT}{P:Program}{w:World}{K:W.Frag}{mg:Str->Option Value}{base:Heap}{N ps:List Str}{qual:Str}{scope:Scope}{f:Addr}{cd:Value}{A:Around}{outer:List Env}{s s1:Shared}{H:Hp}{E:XK}{us:List Value}{vs:List V}
  (S:FnScope N ps scope) (hd:A.handled=none) (e0:Env0 P w K mg base A outer s H) (hl:vs.length=ps.length) (r:Vals vs us)
  (x:InCallC s s.heap.objs.size (bindL (envOfC qual scope s.heap.objs.size f cd).kindOf (ps.zip us) fun _=>none) (cellsFrom (s.heap.objs.size+1) scope.names []) (bindC (envOfC qual scope s.heap.objs.size f cd).kindOf (ps.zip us) fun _=>none) s1):
  Inv (cxOf CX P w K mg base N qual scope f cd A outer s H E) [] (start N vs) H s1:=by
 have hpl:ps.length<=N.length:=by have:=bn List.length S.pre; rw[bb] at this; omega
 obtain⟨h1,tk,rfl,hk⟩:=x.done
 have noA:∀ b:Addr,b∉(cxOf CX P w K mg base N qual scope f cd A outer s H E).ex:=fun b z=>absurd (show b∈([]:List Addr) from z) (by simp)
 refine⟨⟨e0.mod,S.kind,rfl,rfl,ao _,fun y z c h1 h2=>?_,fun y hy=>?_,fun y c _ h=>?_,fun _=>hd,Around.frames_deeper e0.frames, .inr ⟨rfl,rfl⟩,fun b z=>absurd z (noA b),e0.bs,e0.bsz,fun b _ _=>noA b,fun b z=>absurd z (noA b),e0.funs,e0.frf⟩,
  rfl,e0.bare,Un.kept hk,⟨_,x.toInCall.ns,fun i y v h1 h2 h3=>?_⟩,fun y c h=>⟨_,x.cell y c h⟩,e0.hok.fresh (ao _),fun y c h=>?_,fun p hp=>absurd (show p∈([]:List (Addr×Obj)) from hp) (by simp),e0.hok.kept hk,?_⟩
 ·exact name_of_addr x.apart (cz h1) (cz h2)
 ·have hy:scope.names.lookup y=some .cell\/scope.names.lookup y=some .free:=hy
  rcases hy with hy | hy
  ·exact jHQ hy
  ·exact absurd rfl (S.nofree _ (cz hy))
 ·exact dD (x.above y c (cz h))
 ·have hi:i<vs.length:=by
   unfold start at h2
   by_cases hi:i<vs.length
   ·exact hi
   ·rw[List.getElem?_append_right (by simpa using hi)] at h2
    rw[List.getElem?_replicate] at h2
    split at h2 <;> cases h2
  have ha:vs[i]?=some v:=by
   unfold start at h2
   rw[List.getElem?_append_left (by simpa using hi),aY] at h2
   cases e:vs[i]? with
   | none=>rw[e] at h2; cases h2
   | some a=>rw[e] at h2; cases h2; rfl
  obtain⟨u,hu,rv⟩:=r.get ha
  have hp:ps[i]?=some y:=by
   rw[<- S.pre,List.getElem?_take_of_lt (by omega)]; exact h1
  have ndP:ps.Nodup:=by rw[<- S.pre]; exact S.nd.sublist (fq _ _)
  refine⟨u,rv,?_⟩
  rcases S.par y (bq hp) with k | k
  ·exact .inl ⟨k,jFZ ndP hp hu k⟩
  ·obtain⟨c,e⟩:=jHQ (n:=s.heap.objs.size+1) k
   refine .inr ⟨.inl k,c,e,?_⟩
   have q:=x.cell y c e
   rw[jG1 ndP hp hu (by show scope.names.lookup y≠_; rw[k]; decide)] at q
   exact q
 ·exact e0.hok.fresh (dD (x.above y c (cz h)))
 ·unfold start
  show _=N.length
  rw[aI,af,gB]
  omega
theorem fn_of {CX:CXT}{P:Program}{w:World}{K:W.Frag}{mg:Str->Option Value}{base:Heap}{k:Nat}{f:Addr}{name qual:Str}{params:Arguments}{body:List Stmt}{scope:Scope}{dV kV doc pm cdv ct oc:Value}{an od:Option Addr}
  {osl:Array (Option Value)}{N ps:List Str}{sp:Sp}(lk:K.lookup f=some ⟨oc,od, .func (PySem.W.fnOf name qual params body scope dV kV doc pm an cdv ct),osl⟩) (hcd:PySem.W.codeIn K cdv qual=true) (S:FnScope N ps scope)
  (len:∀ vs H Q E,sp vs H Q E->vs.length=ps.length)
  (hbody:∀ (A:Around) (outer:List Env) (s:Shared) (H:Hp) (vs:List V) (Q:VK) (E:XK),Room k (A.deeper (envOfC qual scope s.heap.objs.size f cdv))->sp vs H Q E->
   ∃ t,PSs (cxOf CX P w K mg base N qual scope f cdv A outer s H E) body t/\t { nx:=fun _ H'=>Q .non H',rt:=Q} (start N vs) H):
  FnOk P w K mg base CX (k+1) f (PySem.W.fnOf name qual params body scope dV kV doc pm an cdv ct) ps sp:=by
 refine⟨len,fun A outer s H args us vs Q E hr e0 hb r hsp=>?_⟩
 have hl:=len _ _ _ _ hsp
 have KX:K.In s.heap:=e0.mod.kin.keeps fun b o e=>(e0.bs b o e).1
 have lim:s.heap.NoLimit:=e0.mod.nolimit.keeps fun b o e=>(e0.bs b o e).1
 have hkind:∀ y∈ps.zip us,scope.names.lookup y.1=some .local\/(scope.names.lookup y.1=some .cell/\((cellsFrom (s.heap.objs.size+1) scope.names []).lookup y.1).isSome=true):=fun ⟨n,v⟩ hy=>by
  rcases S.par n (eM hy).1 with q | q
  ·exact .inl q
  ·exact .inr ⟨q,dG _ _ _ (.inl q)⟩
 refine codeAny_call_function hr.depth (KX _ _ lk) rfl S.co S.gen rfl (gX KX hcd) (hb _ _ _ _ ?_)
 refine fj S.kind hkind fun env he s1 x=>?_
 subst he
 refine⟨lim.keeps x.toInCall.keep,codeAny_func ?_⟩
 obtain⟨t,ht,hq⟩:=hbody A outer s H vs Q E (hr.deeper _) hsp
 have I:Inv (cxOf CX P w K mg base N qual scope f cdv A outer s H E) [] (start N vs) H s1:=jFO S hr.hd e0 hl r x
 refine aZ (ht [] s1 (start N vs) H _ I hq) (fun fl s' hs=>?_) fun e s' hs=>hs
 have fin:∀ {σ':St}{H':Hp}{v:V}{u:Value},Inv (cxOf CX P w K mg base N qual scope f cdv A outer s H E) [] σ' H' s'->RelV v u->Q v H'->CE outer P w H s Q u s':=
  fun {σ' H' v u} J rv q=>⟨v,H',J.os,J.bare,J.base,J.hok,rv,q⟩
 cases fl with
 | ret u=>
  obtain⟨v,σ',H',J,rv,q⟩:=hs
  exact fin J rv q
 | next=>
  obtain⟨σ',H',J,q⟩:=hs
  exact fin (v:=V.non) (u:=Value.none) J rfl q
 | brk=>
  obtain⟨_,_,_,q⟩:=hs
  exact False.elim q
 | cont=>
  obtain⟨_,_,_,q⟩:=hs
  exact False.elim q
end L2
namespace L2
open PySem PySem.Spec PyProof.Rows
section
variable {X:Cx}{x:Str}{p pos:Pos}{e:Expr}{es:List Expr}{t:TA}{id T:String}{r:List V->Hp->VK->Prop}
def tCB (r:List V->Hp->VK->Prop)(t:TA):TE:=fun σ H Q=>t σ H fun vs H1=>r vs H1 Q
theorem jE6 (hc:qC X (.builtin id) r)(hg:Gl X x)(hm:X.mg x=none)(hv:bootBuiltins x=some (.builtin id))(ha:PA X (e::es) t)(hn:x≠ "__name__" :=by decide)(hdb:(x==("__debug__" :Str))=false:=by decide)
  (he:starEach (e::es) X.env=(false,eval e X.env)::starEach es X.env:=by rfl) (hpl:(backTo pos (starEach es X.env)).any (·.1)=false:=by rfl):PE X (.Call (.Name x p) (e::es) [] pos) (tCB r t):=by
 intro pins s σ H Q I h
 refine cH (jDS I hg hm hv ?_ hn hdb)
 exact PyProof.Rows.callWith_builtin1 (thn (ha pos pins s σ H _ I h) fun us s1 ⟨vs,H1,I1,r1,q1⟩=>hc pins s1 σ H1 vs us Q I1 r1 q1) he hpl
theorem jBQ (hc:qC X (.type T) r)(hg:Gl X x)(hm:X.mg x=none)(hv:bootBuiltins x=some (.type T))(ha:PA X (e::es) t)(hn:x≠ "__name__" :=by decide)(hdb:(x==("__debug__" :Str))=false:=by decide)
  (he:starEach (e::es) X.env=(false,eval e X.env)::starEach es X.env:=by rfl) (hpl:(backTo pos (starEach es X.env)).any (·.1)=false:=by rfl):PE X (.Call (.Name x p) (e::es) [] pos) (tCB r t):=by
 intro pins s σ H Q I h
 refine cH (jDS I hg hm hv ?_ hn hdb)
 exact cf (thn (ha pos pins s σ H _ I h) fun us s1 ⟨vs,H1,I1,r1,q1⟩=>hc pins s1 σ H1 vs us Q I1 r1 q1) he hpl
end
end L2
namespace HT
open PySem PyProof.Rows
section
open PySem.SeqAt
open PySem.AutoSeq1 (wpAny_loadPart')
open PySem.MeetsSeq PySem.MeetsSeq2 PySem.MeetsSeq3
end
section
variable {prog:Program}{w:World}{A:Around}{E:Value->Shared->Prop}{s:Shared}
theorem cat_tup {t b:Addr}{vs ws:List Value}{Q:Value->Shared->Prop}(ht:IsTup s.heap t vs.toArray)(hb:IsTup s.heap b ws.toArray)(hv:vs≠ [])
  (h1:ws=[]->Q (.ref t) s) (h2:ws≠ []->Q (.ref s.heap.objs.size) { s with heap:=s.heap.push { cls:= .type "tuple",data:= .seq (vs++ws).toArray}})
  (hsz:vs.length+ws.length<=sizeLine):wpAny (model prog w) A (binaryOp .Add (.ref t) (.ref b)) Q E s:=by
 obtain⟨⟨cls,dd,data,sl⟩,ho,hc,n,hd⟩:=id ht
 obtain⟨⟨cls2,dd2,data2,sl2⟩,ho2,hc2,n2,hd2⟩:=id hb
 simp only at hc hd hc2 hd2
 subst hc hd hc2 hd2
 have e:vs.toArray++ws.toArray=(vs++ws).toArray:=by simp
 by_cases hw:ws=[]
 ·exact concat_meets ⟨_,ho,rfl⟩ ⟨_,ho2,rfl⟩ fZ seq_tuple_add dH dz (dj _ _)
   (tuple_addW1 t b vs.toArray ws.toArray n n2 dd dd2 sl sl2 (by simpa using hv) (by simp [hw])) ⟨ho,ho2,h1 hw⟩
 ·refine concat_meets ⟨_,ho,rfl⟩ ⟨_,ho2,rfl⟩ fZ seq_tuple_add dH dz (dj _ _)
   (tuple_addW2 t b vs.toArray ws.toArray n n2 dd dd2 sl sl2 (by simpa using hv) (by simpa using hw) (by rw[ak,ak]; exact hsz)) ⟨ho,ho2,?_⟩
  rw[e]
  exact h2 hw
noncomputable def sIx (n d:Nat):Option Int->Nat
 | none=>d
 | some v=>if v<0 then (v+(n:Int)).toNat else min v.toNat n
theorem sIx_none (n d:Nat):sIx n d none=d:=rfl
theorem sIx_nat (n d k:Nat):sIx n d (some (k:Int))=min k n:=by
 show (if (k:Int)<0 then ((k:Int)+(n:Int)).toNat else min (k:Int).toNat n)=min k n
 rw[aB (by omega),cq]
theorem jQB (n d:Nat)(hd:d<=n)(o:Option Int):sIx n d o<=n:=by
 cases o with
 | none=>exact hd
 | some v=>
  show (if v<0 then (v+(n:Int)).toNat else min v.toNat n)<=n
  by_cases hv:v<0
  ·rw[aA hv]; omega
  ·rw[aB hv]; exact Nat.min_le_right _ _
theorem jL5 (v:Int)(n d:Nat):(if v<0 then max (v+(n:Int)) 0 else min v (n:Int))=((sIx n d (some v):Nat):Int):=by
 show (if v<0 then max (v+(n:Int)) 0 else min v (n:Int))=(((if v<0 then (v+(n:Int)).toNat else min v.toNat n):Nat):Int)
 by_cases hv:v<0
 ·simp only [aA hv]; omega
 ·simp only [aB hv]; omega
theorem jIG (lo hi:Option Int)(n:Nat):Builtin.Slice.sliceAdjust lo hi 1 (n:Int)=(((sIx n 0 lo:Nat):Int),((sIx n n hi:Nat):Int)):=by
 have h1:¬ ((1:Int)<0):=by omega
 unfold Builtin.Slice.sliceAdjust
 simp only [h1,if_false]
 refine Prod.ext ?_ ?_
 ·cases lo with
  | none=>rfl
  | some v=>exact jL5 v n 0
 ·cases hi with
  | none=>rfl
  | some v=>exact jL5 v n n
theorem jI2 (i j:Nat):Builtin.Slice.slicePlaces (i:Int) (j:Int) 1=j - i:=by
 unfold Builtin.Slice.slicePlaces
 have h1:(1:Int)>0:=by omega
 simp only [h1,ef,g7]
 split <;> omega
theorem jDP {v:Value}{o:Option Int}{Q:Option Int->Shared->Prop}(p:IsPart v o)(h:Q o s):wpAny (model prog w) A (Builtin.Slice.slicePartIndex v) Q E s:=by
 cases p with
 | none=>exact slicePart_none h
 | int i t=>exact slicePart_int h
theorem sliceApplied_gen {sl:Addr}{vl vu:Value}{lo hi:Option Int}{n:Nat}{Q:Int×Int×Nat->Shared->Prop}(hs:s.heap.IsSliceOf sl vl vu .none)(pl:IsPart vl lo)(pu:IsPart vu hi)
  (h:Q (((sIx n 0 lo:Nat):Int),1,sIx n n hi - sIx n 0 lo) s):wpAny (model prog w) A (Builtin.Slice.sliceApplied (.ref sl) (pure (n:Int))) Q E s:=by
 obtain⟨os,hos,hcs,hds⟩:=id hs
 unfold Builtin.Slice.sliceApplied Builtin.Slice.sliceFields
 refine aa (aa (bu hos hds (x:=vl) rfl (aa (bu hos hds (x:=vu) rfl (aa (bu hos hds (x:= .none) rfl (ag ?_)))))))
 refine aa (slicePart_none ?_)
 show wpAny _ _ (if ((1:Int)==0)=true then _ else _) _ _ s
 rw[aB (by decide)]
 refine aa (jDP pl (aa (jDP pu (aa (ag ?_)))))
 show wpAny _ _ (match Builtin.Slice.sliceAdjust lo hi 1 (n:Int) with | (lo,hi)=>pure (lo,(1:Int),Builtin.Slice.slicePlaces lo hi 1)) _ _ s
 rw[jIG lo hi n]
 show wpAny _ _ (pure (((sIx n 0 lo:Nat):Int),(1:Int),Builtin.Slice.slicePlaces ((sIx n 0 lo:Nat):Int) ((sIx n n hi:Nat):Int) 1)) _ _ s
 rw[jI2]
 exact ag h
theorem jM2 (xs:Array Value)(i k:Nat):((List.range k).filterMap fun (m:Nat)=>xs[((i:Int)+(m:Int)*1).toNat]?).toArray=((xs.toList.drop i).take k).toArray:=by
 have e:(fun (m:Nat)=>xs[((i:Int)+(m:Int)*1).toNat]?)=fun m=>xs[i+m]?:=by
  funext m
  have:((i:Int)+(m:Int)*1).toNat=i+m:=by omega
  rw[this]
 rw[e]
 have:=pick_run xs i k
 rw[List.filterMap_map] at this
 have e2:((fun x=>xs[x]?) ∘ fun x=>i+x)=fun m=>xs[i+m]?:=rfl
 rw[e2] at this
 rw[this]
theorem getItem_tuple_cut {t sl:Addr}{items:Array Value}{vl vu:Value}{lo hi:Option Int}{Q:Value->Shared->Prop}(ht:IsTup s.heap t items)(hs:s.heap.IsSliceOf sl vl vu .none)(pl:IsPart vl lo)(pu:IsPart vu hi)
  (hw:¬ (sIx items.size 0 lo=0/\sIx items.size items.size hi=items.size))
  (h:Q (.ref s.heap.objs.size) { s with heap:=s.heap.push { cls:= .type "tuple",data:= .seq ((items.toList.drop (sIx items.size 0 lo)).take (sIx items.size items.size hi - sIx items.size 0 lo)).toArray}})
  (hsz:items.size<=sizeLine):wpAny (model prog w) A (getItem (.ref t) (.ref sl)) Q E s:=by
 have htake:sizeOk (.seq ((items.toList.drop (sIx items.size 0 lo)).take (sIx items.size items.size hi - sIx items.size 0 lo)).toArray):=by
  show ((items.toList.drop (sIx items.size 0 lo)).take (sIx items.size items.size hi - sIx items.size 0 lo)).toArray.size<=sizeLine
  rw[ak,bb,bW,bh]
  omega
 have hj:sIx items.size items.size hi<=items.size:=jQB _ _ (ao _) hi
 obtain⟨os,hos,hcs,hds⟩:=id hs
 have hTs:s.TypeIs (.ref sl) "slice" :=⟨os,hos,hcs⟩
 unfold getItem
 try with_reducible refine be ?_
 first | refine aa (ag ?_) | skip
 refine aa (wpAny_sequenceKey ht.typeIs (by decide) ?_)
 refine aa (bF (name:=Str.ofString "__getitem__") ht.typeIs bE
  (bG bE ht.typeIs entry_tuple_getitem ?_ (args_tuple_getitem _ _)))
 show wpAny _ _ (Builtin.Tuple.tupleItemsOf (.ref t) >>= _) _ _ s
 refine aa (tupleItemsOf_ ht ?_)
 refine aa (dJ hTs ?_)
 rw[aA (by decide)]
 refine aa (sliceApplied_gen hs pl pu ?_)
 have hno:¬ ((((sIx items.size 0 lo:Nat):Int)==0&&(1:Int)==1&&(sIx items.size items.size hi - sIx items.size 0 lo)==items.size)=true):=by
  intro q
  rw[aL,aL] at q
  have q1:((sIx items.size 0 lo:Nat):Int)=0:=eq_of_beq q.1.1
  have q2:sIx items.size items.size hi - sIx items.size 0 lo=items.size:=eq_of_beq q.2
  exact hw ⟨by omega,by omega⟩
 show wpAny _ _ (if (((sIx items.size 0 lo:Nat):Int)==0&&(1:Int)==1&&(sIx items.size items.size hi - sIx items.size 0 lo)==items.size)=true then _ else _) _ _ s
 rw[aB hno,jM2]
 first
  | exact aa (m:=Builtin.Tuple.tupleExact _) (bv (ag ⟨_,rfl,ag h⟩) htake)
  | exact aa (m:=Builtin.Tuple.tupleExact _) (bv (aa (ag (ag ⟨_,rfl,ag h⟩))) htake)
  | exact aa (aa (m:=Builtin.Tuple.tupleExact _) (bv (ag (ag ⟨_,rfl,ag h⟩)) htake))
  | exact aa (aa (m:=Builtin.Tuple.tupleExact _) (bv (ag ⟨_,rfl,ag h⟩) htake))
end
end HT
namespace L2
open PySem PySem.Spec PyProof.Rows
abbrev TO:=St->Hp->(Option Int->Hp->Prop)->Prop
def PO (X:Cx)(e:Option Expr)(t:TO):Prop:=
 ∀ (pins:List (Addr×Obj)) (s:Shared) (σ:St) (H:Hp) (Q:Option Int->Hp->Prop),Inv X pins σ H s->t σ H Q->
  wpAny (model X.prog X.w) X.A (evalPart e X.env) (fun u s'=>∃ o H',Inv X pins σ H' s'/\IsPart u o/\Q o H') X.xe s
def jAD:TO:=fun _ H Q=>Q none H
def tPart (t:TE):TO:=fun σ H Q=>t σ H fun x H1=>∃ i,x= .int i/\Q (some i) H1
section
variable {X:Cx}{e:Expr}{te:TE}{lo hi:Option Expr}{tl th:TO}{pos p2:Pos}
theorem jOL:PO X none jAD:=by
 intro pins s σ H Q I h
 rw[evalPart_none]
 exact ag ⟨none,H,I, .none,h⟩
theorem jOK (h:PE X e te):PO X (some e) (tPart te):=by
 intro pins s σ H Q I hw
 rw[evalPart_some]
 refine thn (h pins s σ H _ I hw) fun u s1 ⟨x,H1,I1,r1,q1⟩=>?_
 obtain⟨i,rfl,q⟩:=q1
 obtain⟨t,rfl⟩:=r1
 exact⟨some i,H1,I1, .int i t,q⟩
def SlR (X:Cx)(r:V->Option Int->Option Int->Hp->VK->Prop):Prop:=
 ∀ (pins:List (Addr×Obj)) (s:Shared) (σ:St) (H:Hp) (x:V) (v vl vu:Value) (lo hi:Option Int) (sl:Addr) (Q:VK),Inv X pins σ H s->RelV x v->s.heap.IsSliceOf sl vl vu .none->IsPart vl lo->IsPart vu hi->r x lo hi H Q->
  ∃ T id,typeLookup (.type T) "__getitem__" =pure (some (.builtin id))/\s.TypeIs v T/\wpAny (model X.prog X.w) X.A (getItem v (.ref sl)) (EP X pins σ Q) X.xe s
def tSl (r:V->Option Int->Option Int->Hp->VK->Prop)(te:TE)(tl th:TO):TE:=fun σ H Q=>te σ H fun x H1=>tl σ H1 fun l H2=>th σ H2 fun u H3=>r x l u H3 Q
theorem jM4 {r:V->Option Int->Option Int->Hp->VK->Prop}(hr:SlR X r)(he:PE X e te)(hl:PO X lo tl)(hu:PO X hi th):PE X (.Subscript e (.Slice lo hi none p2) pos) (tSl r te tl th):=by
 intro pins s σ H Q I h
 refine Subscript_ (thn (he pins s σ H _ I h) fun v s1 ⟨x,H1,I1,r1,q1⟩=>?_)
 refine wpAny_Slice (thn (hl pins s1 σ H1 _ I1 q1) fun vl s2 ⟨l,H2,I2,pl,q2⟩=>thn (hu pins s2 σ H2 _ I2 q2) fun vu s3 ⟨u,H3,I3,pu,q3⟩=>?_)
 rw[evalPart_none]
 refine ag ?_
 have I4:Inv X pins σ H3 { s3 with heap:=s3.heap.push { cls:= .type "slice",data:= .fields #[vl,vu, .none]}} :=I3.kept (t':=s3.toks) fun b ob q=>ae _ q
 obtain⟨T,id,hT,ht,hg⟩:=hr pins { s3 with heap:=s3.heap.push { cls:= .type "slice",data:= .fields #[vl,vu, .none]}} σ H3 x v vl vu l u s3.heap.objs.size Q I4 r1 (Heap.IsSliceOf.new ..) pl pu q3
 show wpAny (model X.prog X.w) X.A (subscriptTail e (.Slice lo hi none p2) v (.ref s3.heap.objs.size)) (EP X pins σ Q) X.xe { s3 with heap:=s3.heap.push { cls:= .type "slice",data:= .fields #[vl,vu, .none]}}
 exact tail_any (ops:=[.ref s3.heap.objs.size,v]) ht hT hg (by with_unfolding_all rfl)
def cutV (xs:List V)(lo hi:Option Int):List V:=(xs.drop (HT.sIx xs.length 0 lo)).take (HT.sIx xs.length xs.length hi - HT.sIx xs.length 0 lo)
theorem jDF (xs:List V)(lo hi:Option Int):(cutV xs lo hi).length<=xs.length:=by
 unfold cutV
 rw[bb,bW]
 omega
def rSlT (K:W.Frag):V->Option Int->Option Int->Hp->VK->Prop:=fun x lo hi H Q=>∃ a xs,x= .ref a/\SqT K H a xs/\
 ¬ (HT.sIx xs.length 0 lo=0/\HT.sIx xs.length xs.length hi=xs.length)/\∀ p,H p=none->Q (.ref p) (upd H p (.tup (cutV xs lo hi)))
theorem jQ9:SlR X (rSlT X.K):=by
 intro pins s σ H x v vl vu lo hi sl Q I rx hs pl pu h
 obtain⟨a,xs,rfl,hx,hw,q⟩:=h
 cases rx
 obtain⟨its,r,ht,hz⟩:=I.tuple hx
 have hlen:its.toArray.size=xs.length:=by rw[ak]; exact r.length.symm
 refine⟨"tuple",_,bE.lookup,ht.typeIs,?_⟩
 refine HT.getItem_tuple_cut ht hs pl pu (by rw[hlen]; exact hw) ?_ (by rw[hlen]; exact hz)
 rw[hlen]
 refine⟨.ref s.heap.objs.size,_,I.laid (t':=s.toks) (o:= .tup (cutV xs lo hi)) (fun b ob q=>ae _ q) (ao _) ?_,rfl,q _ (I.hok.fresh (ao _))⟩
 exact⟨aO (jDF xs lo hi) hz,_,(r.drop (HT.sIx xs.length 0 lo)).take (HT.sIx xs.length xs.length hi - HT.sIx xs.length 0 lo),TupO.new _ _⟩
def rCatT (K:W.Frag):R2:=fun x y H Q=>∃ a b xs ys,x= .ref a/\y= .ref b/\SqT K H a xs/\SqT K H b ys/\xs≠ []/\xs.length+ys.length<=sizeLine/\
 (ys=[]->Q (.ref a) H)/\(ys≠ []->∀ p,H p=none->Q (.ref p) (upd H p (.tup (xs++ys))))
theorem Vals.nil_iff {xs:List V}{us:List Value}(r:Vals xs us):us=[]↔xs=[]:=by
 cases r with
 | nil=>simp
 | cons _ _=>simp
theorem jOZ:OpR X (binaryOp .Add) (rCatT X.K):=by
 intro pins s σ H x y v u Q I rx ry h
 obtain⟨a,b,xs,ys,rfl,rfl,ha,hb,hx,hz,q1,q2⟩:=h
 cases rx
 cases ry
 obtain⟨its,r1,p1,_⟩:=I.tuple ha
 obtain⟨its2,r2,p2,_⟩:=I.tuple hb
 refine HT.cat_tup p1 p2 (fun z=>hx (r1.nil_iff.mp z)) (fun z=>⟨.ref a,H,I,rfl,q1 (r2.nil_iff.mp z)⟩) (fun z=>?_) (by rw[<- r1.length,<- r2.length]; exact hz)
 refine⟨.ref s.heap.objs.size,_,I.laid (t':=s.toks) (o:= .tup (xs++ys)) (fun b ob q=>ae _ q) (ao _) ?_,rfl,q2 (fun w=>z (r2.nil_iff.mpr w)) _ (I.hok.fresh (ao _))⟩
 exact⟨by rw[aI]; exact hz,_,r1.append r2,TupO.new _ _⟩
end
end L2
namespace L2
open PySem PySem.Spec PyProof.Rows
noncomputable def ixN (n:Nat)(i:Int):Option Nat:=if 0<=i then (if i<n then some i.toNat else none) else if -(n:Int)<=i then some (i+n).toNat else none
def atI {α:Type}(xs:List α)(i:Int):Option α:=(ixN xs.length i).bind fun j=>xs[j]?
theorem jKM {n:Nat}{i:Int}{j:Nat}(h:ixN n i=some j):seqIndex? i n=some j/\j<n/\ -(n:Int)<=i/\i<n:=by
 unfold ixN at h
 by_cases h0:0<=i
 ·rw[aA h0] at h
  by_cases h1:i<n
  ·rw[aA h1] at h
   have e:i.toNat=j:=aF h
   exact⟨by rw[seqIndex_of h0 h1,e],by omega,by omega,h1⟩
  ·rw[aB h1] at h; cases h
 ·rw[aB h0] at h
  by_cases h1: -(n:Int)<=i
  ·rw[aA h1] at h
   have e:(i+n).toNat=j:=aF h
   exact⟨by rw[seqIndex_neg (by omega) h1,e],by omega,h1,by omega⟩
  ·rw[aB h1] at h; cases h
theorem jGR {α:Type}{xs:List α}{i:Int}{v:α}(h:atI xs i=some v):∃ j,seqIndex? i xs.length=some j/\xs[j]?=some v/\j<xs.length/\ -(xs.length:Int)<=i/\i<xs.length:=by
 unfold atI at h
 cases e:ixN xs.length i with
 | none=>rw[e] at h; cases h
 | some j=>
  rw[e] at h
  obtain⟨h1,h2,h3,h4⟩:=jKM e
  exact⟨j,h1,h,h2,h3,h4⟩
theorem jT {α:Type}{xs:List α}{j:Nat}{v:α}(h:xs[j]?=some v):atI xs (j:Int)=some v:=by
 have hj:j<xs.length:=(aV.mp h).1
 have e:ixN xs.length (j:Int)=some j:=by
  unfold ixN
  rw[aA (by omega),aA (by omega)]; simp
 unfold atI; rw[e]; exact h
def jBK (b:Expr):Prop:=∀ o i,subscripted b false o i=operate [o,i] (getItem o i)
def IxR (X:Cx)(r:R2):Prop:=
 ∀ (value slice:Expr) (pins:List (Addr×Obj)) (s:Shared) (σ:St) (H:Hp) (x y:V) (v u:Value) (Q:VK),Inv X pins σ H s->RelV x v->RelV y u->r x y H Q->
  subscripted slice false v u=operate [v,u] (getItem v u)->wpAny (model X.prog X.w) X.A (subscriptTail value slice v u) (EP X pins σ Q) X.xe s
def MtR (X:Cx)(id:String)(r:V->List V->Hp->VK->Prop):Prop:=
 ∀ (pins:List (Addr×Obj)) (s:Shared) (σ:St) (H:Hp) (x:V) (xs:List V) (v:Value) (us:List Value) (Q:VK),Inv X pins σ H s->RelV x v->Vals xs us->r x xs H Q->
  wpAny (model X.prog X.w) X.A (call (.builtin id) (v::us)) (EP X pins σ Q) X.xe s
section
variable {X:Cx}{a b:Expr}{ta tb:TE}{pos:Pos}
theorem pe_ix {r:R2}(hr:IxR X r)(ha:PE X a ta)(hb:PE X b tb)(hs:jBK b):PE X (.Subscript a b pos) (tOp r ta tb):=by
 intro pins s σ H Q I h
 exact Subscript_ (binT ha hb I h fun v u s2 x y H2 I2 rx ry q=>hr a b pins s2 σ H2 x y v u Q I2 rx ry q (hs _ _))
def rIxL (K:W.Frag):R2:=fun x y H Q=>∃ p xs i v,x= .ref p/\y= .int i/\SqL K H p xs/\atI xs i=some v/\Q v H
def rIxT (K:W.Frag):R2:=fun x y H Q=>∃ p xs i v,x= .ref p/\y= .int i/\SqT K H p xs/\atI xs i=some v/\Q v H
def rIxS:R2:=fun x y H Q=>∃ z i c,x= .str z/\y= .int i/\z.length<=sizeLine/\atI z.cps.toList i=some c/\Q (.str ⟨#[c]⟩) H
theorem jX:IxR X (rIxL X.K):=by
 intro value slice pins s σ H x y v u Q I rx ry h hs
 obtain⟨p,xs,i,z,rfl,rfl,hq,he,q⟩:=h
 cases rx
 obtain⟨t,rfl⟩:=ry
 obtain⟨its,r,pl,hz⟩:=I.list hq
 obtain⟨j,h1,h2,h3,h4,h5⟩:=jGR he
 obtain⟨w,ew,rw'⟩:=r.get h2
 have hl:=r.length
 have hn:=jD5
 have fin:EP X pins σ Q w s:=⟨z,H,I,rw',q⟩
 by_cases h0:0<=i
 ·have hj:i.toNat=j:=by
   rw[seqIndex_of h0 h5] at h1
   exact aF h1
  exact item_listR pl.isList h0 (by omega) (by rw[hj]; simpa using ew) fin hs
 ·have hj:(i+(its.toArray.size:Int)).toNat=j:=by
   rw[seqIndex_neg (by omega) h4] at h1
   rw[ak,<- hl]
   exact aF h1
  exact subscriptTail_builtinR (x:=w) pl.isList.typeIs slot_list_getitem.lookup
   (wpAny_getItem_list_neg (Q:=fun r s'=>r=w/\EP X pins σ Q r s') pl.isList (by omega) (by rw[ak] <;> omega) (by omega) (by rw[hj]; simpa using ew) ⟨rfl,fin⟩) hs
theorem kY:IxR X (rIxT X.K):=by
 intro value slice pins s σ H x y v u Q I rx ry h hs
 obtain⟨p,xs,i,z,rfl,rfl,hq,he,q⟩:=h
 cases rx
 obtain⟨t,rfl⟩:=ry
 obtain⟨its,r,pl,hz⟩:=I.tuple hq
 obtain⟨j,h1,h2,h3,h4,h5⟩:=jGR he
 obtain⟨w,ew,rw'⟩:=r.get h2
 have hl:=r.length
 have hn:=jD5
 have fin:EP X pins σ Q w s:=⟨z,H,I,rw',q⟩
 exact subscriptTail_builtinR (x:=w) pl.typeIs slot_tuple_getitem.lookup
  (getItem_tuple (j:=j) (Q:=fun r s'=>r=w/\EP X pins σ Q r s') pl (by omega) (by omega) (by rw[ak,<- hl]; exact h1) (by simpa using ew) ⟨rfl,fin⟩) hs
theorem jNQ:IxR X rIxS:=by
 intro value slice pins s σ H x y v u Q I rx ry h hs
 obtain⟨z,i,c,rfl,rfl,hz,he,q⟩:=h
 obtain⟨t,rfl⟩:=rx
 obtain⟨t',rfl⟩:=ry
 obtain⟨j,h1,h2,h3,h4,h5⟩:=jGR he
 have hl:z.cps.toList.length=z.length:=by simp [Str.length]
 rw[hl] at h1 h4 h5
 have hn:=jD5
 exact tail_any (cy s z t) slot_str_getitem.lookup (getItem_str (c:=c) (by
  have e1:decide (i< -(2 ^ 63:Int))=false:=aq (by omega)
  have e2:decide (i ≥ 2 ^ 63)=false:=aq (by omega)
  rw[e1,e2,Bool.or_false]) (by rw[h1]; simpa using h2) ⟨.str ⟨#[c]⟩,H,I.tok _,⟨_,rfl⟩,q⟩) hs
theorem jI7 (its:List Value)(n j:Nat)(u:Value):Obj.mapSeq (·.setIfInBounds j u) { cls:= .type "list",data:= .seq its.toArray n} = { cls:= .type "list",data:= .seq (its.set j u).toArray n} :=by
 simp [Obj.mapSeq]
theorem Inv.lst {pins:List (Addr×Obj)}{σ:St}{H:Hp}{s:Shared}{p:Addr}{xs:List V}(I:Inv X pins σ H s)(h:H p=some (.lst xs)):
  ∃ (its:List Value) (n:Nat),Vals xs its/\s.heap.get? p=some { cls:= .type "list",data:= .seq its.toArray n} /\xs.length<=sizeLine:=by
 obtain⟨z,its,n,r,e⟩:=I.hok p _ h
 exact⟨its,n,r,e,z⟩
theorem Inv.lstUpd {pins:List (Addr×Obj)}{σ:St}{H:Hp}{s:Shared}{p:Addr}{xs ys:List V}{its its':List Value}{n n':Nat}{f:Obj->Obj}(I:Inv X pins σ H s)(h:H p=some (.lst xs))
  (ho:s.heap.get? p=some { cls:= .type "list",data:= .seq its.toArray n}) (hf:f { cls:= .type "list",data:= .seq its.toArray n} = { cls:= .type "list",data:= .seq its'.toArray n'}) (r:Vals ys its') (hz:ys.length<=sizeLine) (t:Nat):
  Inv X pins σ (upd H p (.lst ys)) { s with heap:=s.heap.update p f,toks:=t} :=by
 have e:(s.heap.update p f).get? p=some { cls:= .type "list",data:= .seq its'.toArray n'} :=by
  rw[bo f ho (by rw[hf] <;> rfl),hf]
 refine I.write (x:=p) (e:=p) (by rw[h]; trivial) (.inl rfl) (fun b u hb q=>(bx _ _ (bY hb)).trans q) ⟨_,e⟩ ?_
 exact⟨hz,its',n',r,e⟩
def rSetL:V->V->V->Hp->(Hp->Prop)->Prop:=fun o i v H Q=>∃ p xs k j,o= .ref p/\i= .int k/\H p=some (.lst xs)/\ixN xs.length k=some j/\Q (upd H p (.lst (xs.set j v)))
theorem jLY:PSet X rSetL:=by
 intro pins s σ H o i v ov iv u Q I ro ri rv h
 obtain⟨p,xs,k,j,rfl,rfl,hp,hj,q⟩:=h
 cases ro
 obtain⟨t,rfl⟩:=ri
 obtain⟨its,n,r,ho,hz⟩:=I.lst hp
 obtain⟨h1,h2,h3,h4⟩:=jKM hj
 have hl:=r.length
 have hn:=jD5
 have I':Inv X pins σ (upd H p (.lst (xs.set j v))) { s with heap:=s.heap.update p (Obj.mapSeq (·.setIfInBounds j u))} :=
  I.lstUpd hp ho (jI7 its n j u) (r.set rv j) (by rw[gq]; exact hz) s.toks
 by_cases h0:0<=k
 ·have hk:k.toNat=j:=by
   rw[seqIndex_of h0 h4] at h1
   exact aF h1
  exact PySem.W.ki_setAt ho h0 (by omega) (by rw[ak,<- hl]; exact h4) (by rw[hk]; exact⟨_,I',q⟩)
 ·have hk:(k+(its.toArray.size:Int)).toNat=j:=by
   rw[seqIndex_neg (by omega) h3] at h1
   rw[ak,<- hl]
   exact aF h1
  exact PySem.W.ki_setBack ho (by omega) (by rw[ak,<- hl]; exact h3) (by omega) (by rw[hk]; exact⟨_,I',q⟩)
theorem jF3 (lo hi:Option Int)(n:Nat):(sliceBounds lo hi none n).1=((HT.sIx n 0 lo:Nat):Int)/\(sliceBounds lo hi none n).2.1=((HT.sIx n n hi:Nat):Int)/\(sliceBounds lo hi none n).2.2=1:=by
 refine⟨?_,?_,rfl⟩
 ·cases lo with
  | none=>simp [sliceBounds,HT.sIx]
  | some i=>
   simp only [sliceBounds,HT.sIx,getD_none,show (1:Int)>0 by decide,ef]
   by_cases h:i<0
   ·simp only [h,ef] <;> omega
   ·simp only [h,if_false] <;> omega
 ·cases hi with
  | none=>simp [sliceBounds,HT.sIx]
  | some i=>
   simp only [sliceBounds,HT.sIx,getD_none,show (1:Int)>0 by decide,ef]
   by_cases h:i<0
   ·simp only [h,ef] <;> omega
   ·simp only [h,if_false] <;> omega
theorem jE0 (its:List Value)(lo hi:Option Int):slicePick its.toArray lo hi none=((its.drop (HT.sIx its.length 0 lo)).take (HT.sIx its.length its.length hi - HT.sIx its.length 0 lo)).toArray:=by
 obtain⟨h1,h2,h3⟩:=jF3 lo hi its.toArray.size
 unfold slicePick
 rw[h1,h2,h3]
 simp only [sliceRange_one,pick_run,ak] <;> rfl
def rSlL (K:W.Frag):V->Option Int->Option Int->Hp->VK->Prop:=fun x lo hi H Q=>∃ a xs,x= .ref a/\SqL K H a xs/\∀ p,H p=none->Q (.ref p) (upd H p (.lst (cutV xs lo hi)))
theorem yX:SlR X (rSlL X.K):=by
 intro pins s σ H x v vl vu lo hi sl Q I rx hs pl pu h
 obtain⟨a,xs,rfl,hx,q⟩:=h
 cases rx
 obtain⟨its,r,ht,hz⟩:=I.list hx
 have hlen:=r.length
 refine⟨"list",_,slot_list_getitem.lookup,ht.isList.typeIs,?_⟩
 refine wpAny_getItem_list_slice ht.isList hs pl pu .none (by simp) ?_ (by rw[ak] <;> omega)
 rw[jE0,<- hlen]
 refine⟨.ref s.heap.objs.size,_,I.laid (t':=s.toks) (o:= .lst (cutV xs lo hi)) (fun b ob q=>ae _ q) (ao _) ?_,rfl,q _ (I.hok.fresh (ao _))⟩
 exact⟨aO (jDF xs lo hi) hz,_,0,(r.drop (HT.sIx xs.length 0 lo)).take (HT.sIx xs.length xs.length hi - HT.sIx xs.length 0 lo),ay _ rfl⟩
def flatV:V->Bool
 | .non=>true
 | .bl _=>true
 | .int _=>true
 | .str _=>true
 | _=>false
noncomputable def eqV:V->V->Bool
 | .non, .non=>true
 | .bl a, .bl b=>a==b
 | .bl a, .int b=>(if a then 1 else 0)==b
 | .int a, .bl b=>a==(if b then 1 else 0)
 | .int a, .int b=>a==b
 | .str a, .str b=>a==b
 | _,_=>false
theorem jNU {A:Around}{s:Shared}{y x:V}{u v:Value}(ry:RelV y u)(rx:RelV x v)(fy:flatV y=true)(fx:flatV x=true):SeqAt.EqAt A s u v (eqV y x):=by
 cases y with
 | non=>
  cases ry
  cases x with
  | non=>cases rx; exact SeqAt.EqAt.same _
  | bl b=>cases rx; exact SeqAt.EqAt.none_bool b
  | int b=>obtain⟨t,rfl⟩:=rx; exact SeqAt.EqAt.none_int b t
  | str b=>obtain⟨t,rfl⟩:=rx; exact SeqAt.EqAt.none_str b t
  | _=>exact absurd (show false=true from fx) aw
 | bl a=>
  cases ry
  cases x with
  | non=>cases rx; exact SeqAt.EqAt.bool_none a
  | bl b=>cases rx; exact SeqAt.EqAt.bool_bool a b
  | int b=>obtain⟨t,rfl⟩:=rx; exact SeqAt.EqAt.bool_int a b t
  | str b=>obtain⟨t,rfl⟩:=rx; exact SeqAt.EqAt.bool_str a b t
  | _=>exact absurd (show false=true from fx) aw
 | int a=>
  obtain⟨t',rfl⟩:=ry
  cases x with
  | non=>cases rx; exact SeqAt.EqAt.int_none a t'
  | bl b=>cases rx; exact SeqAt.EqAt.int_bool a t' b
  | int b=>obtain⟨t,rfl⟩:=rx; exact SeqAt.EqAt.int_int a t' b t
  | str b=>obtain⟨t,rfl⟩:=rx; exact SeqAt.EqAt.int_str a t' b t
  | _=>exact absurd (show false=true from fx) aw
 | str a=>
  obtain⟨t',rfl⟩:=ry
  cases x with
  | non=>cases rx; exact SeqAt.EqAt.str_none a t'
  | bl b=>cases rx; exact SeqAt.EqAt.str_bool a t' b
  | int b=>obtain⟨t,rfl⟩:=rx; exact SeqAt.EqAt.str_int a t' b t
  | str b=>obtain⟨t,rfl⟩:=rx; exact SeqAt.EqAt.str_str a t' b t
  | _=>exact absurd (show false=true from fx) aw
 | _=>exact absurd (show false=true from fy) aw
noncomputable def eqU (x:V)(u:Value):Bool:=match u with
 | .none=>eqV .non x
 | .bool b=>eqV (.bl b) x
 | .int i _=>eqV (.int i) x
 | .str z _=>eqV (.str z) x
 | _=>false
theorem jNT {x y:V}{u:Value}(r:RelV y u)(f:flatV y=true):eqU x u=eqV y x:=by
 cases y with
 | non=>cases r; rfl
 | bl b=>cases r; rfl
 | int i=>obtain⟨t,rfl⟩:=r; rfl
 | str z=>obtain⟨t,rfl⟩:=r; rfl
 | _=>exact absurd (show false=true from f) aw
theorem jDK {x:V} :∀ {xs:List V}{us:List Value},Vals xs us->xs.all flatV=true->us.any (eqU x)=xs.any fun y=>eqV y x
 | _,_, .nil,_=>rfl
 | y::xs,u::us, .cons r t,f=>by
  rw[dn,aL] at f
  rw[List.any_cons,List.any_cons,jNT r f.1,jDK t f.2]
theorem jBV {A:Around}{s:Shared}{x:V}{v:Value}(rx:RelV x v)(fx:flatV x=true):∀ {xs:List V}{us:List Value},Vals xs us->xs.all flatV=true->∀ u∈us,SeqAt.EqAt A s u v (eqU x u)
 | _,_, .nil,_=>fun u hu=>by cases hu
 | y::xs,u::us, .cons r t,f=>fun u' hu=>by
  rw[dn,aL] at f
  rcases av.mp hu with rfl | hu
  ·rw[jNT r f.1]; exact jNU r rx f.1 fx
  ·exact jBV rx fx t f.2 u' hu
def inV (x:V)(xs:List V):Bool:=xs.any fun y=>eqV y x
def rIn (K:W.Frag)(neg:Bool):R2:=fun x y H Q=>∃ p xs,y= .ref p/\(SqL K H p xs\/SqT K H p xs)/\flatV x=true/\xs.all flatV=true/\Q (.bl (if neg then !inV x xs else inV x xs)) H
theorem jJK:OpR X (compareOp .In) (rIn X.K false):=by
 intro pins s σ H x y v u Q I rx ry h
 obtain⟨p,xs,rfl,hq,fx,fs,q⟩:=h
 cases ry
 rcases hq with hq | hq
 ·obtain⟨its,r,pl,hz⟩:=I.list hq
  refine SeqAt.in_listAt (eqU x) pl.isList (fun w hw=>jBV rx fx r fs w (by simpa using hw)) ⟨.bl _,H,I,rfl,?_⟩
  rw[show its.toArray.any (eqU x)=its.any (eqU x) by simp,jDK r fs]
  exact q
 ·obtain⟨its,r,pl,hz⟩:=I.tuple hq
  refine SeqAt.in_tupleAt (eqU x) pl (fun w hw=>jBV rx fx r fs w (by simpa using hw)) ⟨.bl _,H,I,rfl,?_⟩
  rw[show its.toArray.any (eqU x)=its.any (eqU x) by simp,jDK r fs]
  exact q
theorem jFA:OpR X (compareOp .NotIn) (rIn X.K true):=by
 intro pins s σ H x y v u Q I rx ry h
 obtain⟨p,xs,rfl,hq,fx,fs,q⟩:=h
 cases ry
 rcases hq with hq | hq
 ·obtain⟨its,r,pl,hz⟩:=I.list hq
  refine SeqAt.notIn_listAt (eqU x) pl.isList (fun w hw=>jBV rx fx r fs w (by simpa using hw)) ⟨.bl _,H,I,rfl,?_⟩
  rw[show its.toArray.any (eqU x)=its.any (eqU x) by simp,jDK r fs]
  exact q
 ·obtain⟨its,r,pl,hz⟩:=I.tuple hq
  refine SeqAt.notIn_tupleAt (eqU x) pl (fun w hw=>jBV rx fx r fs w (by simpa using hw)) ⟨.bl _,H,I,rfl,?_⟩
  rw[show its.toArray.any (eqU x)=its.any (eqU x) by simp,jDK r fs]
  exact q
theorem jP:qC X (.builtin "len") (fun xs H Q=>∃ p ys,xs=[.ref p]/\(SqL X.K H p ys\/SqT X.K H p ys)/\Q (.int ys.length) H):=by
 intro pins s σ H xs us Q I r h
 obtain⟨p,ys,rfl,hq,q⟩:=h
 obtain⟨u,rfl,rx⟩:=vals1 r
 cases rx
 have hn:=jD5
 rcases hq with hq | hq
 ·obtain⟨its,r',pl,hz⟩:=I.list hq
  have hlen:=r'.length
  exact Calls.call_len_list pl.isList (by simp only [ak] <;> omega) ⟨.int ys.length,H,I.tok _,⟨s.toks+1,by rw[ak,hlen]⟩,q⟩
 ·obtain⟨its,r',pl,hz⟩:=I.tuple hq
  have hlen:=r'.length
  exact len_tuple pl (by simp only [ak] <;> omega) ⟨.int ys.length,H,I.tok _,⟨s.toks+1,by rw[ak,hlen]⟩,q⟩
theorem jAB:qC X (.builtin "len") (fun xs H Q=>∃ z,xs=[.str z]/\z.length<=sizeLine/\Q (.int z.length) H):=by
 intro pins s σ H xs us Q I r h
 obtain⟨z,rfl,hz,q⟩:=h
 obtain⟨u,rfl,t,rfl⟩:=vals1 r
 have hn:=jD5
 exact len_str (by omega) ⟨.int z.length,H,I.tok _,⟨_,rfl⟩,q⟩
theorem jA0:qC X (.type "tuple") (fun xs H Q=>∃ p ys,xs=[.ref p]/\((SqL X.K H p ys/\∀ l,H l=none->Q (.ref l) (upd H l (.tup ys)))\/(SqT X.K H p ys/\Q (.ref p) H))):=by
 intro pins s σ H xs us Q I r h
 obtain⟨p,ys,rfl,h⟩:=h
 obtain⟨u,rfl,rx⟩:=vals1 r
 cases rx
 rcases h with ⟨hq,q⟩ | ⟨hq,q⟩
 ·obtain⟨its,r',pl,hz⟩:=I.list hq
  have hlen:=r'.length
  refine call_tuple_list pl.isList (fun h' kp=>?_) (by simp only [ak] <;> omega)
  have I1:Inv X pins σ H { s with heap:=h'} :=I.kept (t':=s.toks) kp
  have I2:Inv X pins σ (upd H h'.objs.size (.tup ys)) { s with heap:=h'.push { cls:= .type "tuple",data:= .seq its.toArray}} :=
   I1.laid (t':=s.toks) (fun b o e=>ae _ e) (ao _) (show ObjOk X.prog X.w _ _ _ (.tup ys) from ⟨hz,its,r',TupO.new _ _⟩)
  exact⟨.ref h'.objs.size,_,I2,rfl,q _ (I1.hok.fresh (ao _))⟩
 ·obtain⟨its,r',pl,hz⟩:=I.tuple hq
  exact call_tuple_same pl ⟨.ref p,H,I,rfl,q⟩
def tyV (K:W.Frag)(T:String)(x:V)(H:Hp):Prop:=match x with
 | .str _=>T= "str"
 | .int _=>T= "int"
 | .ref p=>(T= "list" /\∃ xs,SqL K H p xs)\/(T= "tuple" /\∃ o,K.lookup p=some o/\o.cls= .type "tuple" /\o.dict=none)\/
   (T= "dict" /\((∃ kvs,H p=some (.dK kvs))\/∃ kvs,H p=some (.dT kvs)))\/(T= "set" /\∃ S n,H p=some (.set S n))
 | _=>False
theorem jQ3 {pins:List (Addr×Obj)}{σ:St}{H:Hp}{s:Shared}{T:String}{x:V}{v:Value}(I:Inv X pins σ H s)(r:RelV x v)(ty:tyV X.K T x H):
  s.TypeIs v T/\∀ a,v= .ref a->∃ ob,s.heap.get? a=some ob/\ob.dict=none:=by
 cases x with
 | str z=>
  obtain⟨t,rfl⟩:=r
  cases (show T= "str" from ty)
  exact⟨cy s z t,fun _ e=>nomatch e⟩
 | int i=>
  obtain⟨t,rfl⟩:=r
  cases (show T= "int" from ty)
  exact⟨typeIs_int s i t,fun _ e=>nomatch e⟩
 | ref p=>
  cases r
  rcases ty with ⟨rfl,xs,hq⟩ | ⟨rfl,o,hk,hc,hd⟩ | ⟨rfl,hk⟩ | ⟨rfl,S,n,hk⟩
  ·obtain⟨its,_,pl,_⟩:=I.list hq
   refine⟨pl.isList.typeIs,fun a e=>?_⟩
   cases e
   obtain⟨o,n,e,c,hd,_⟩:=pl
   exact⟨o,e,hd⟩
  ·refine⟨⟨o,I.kIn p o hk,hc⟩,fun a e=>?_⟩
   cases e
   exact⟨o,I.kIn _ o hk,hd⟩
  ·have z:∃ o,s.heap.get? p=some o/\o.ExactDict:=by
    rcases hk with ⟨kvs,hk⟩ | ⟨kvs,hk⟩
    ·obtain⟨_,_,_,_,o,_,_,e,ex,_⟩:=I.hok p _ hk
     exact⟨o,e,ex⟩
    ·obtain⟨_,_,_,_,o,_,_,e,ex,_⟩:=I.hok p _ hk
     exact⟨o,e,ex⟩
   obtain⟨o,e,ex⟩:=z
   refine⟨⟨o,e,ex.1⟩,fun a e2=>?_⟩
   cases e2
   exact⟨o,e,ex.2.1⟩
  ·obtain⟨o,_,_,_,e,ex,_⟩:=I.hok p _ hk
   refine⟨⟨o,e,ex.1⟩,fun a e2=>?_⟩
   cases e2
   exact⟨o,e,ex.2.1⟩
 | _=>exact False.elim ty
def tBM (K:W.Frag)(T:String)(r:V->List V->Hp->VK->Prop)(to:TE)(t:TA):TE:=fun σ H Q=>to σ H fun x H1=>tyV K T x H1/\t σ H1 fun xs H2=>r x xs H2 Q
variable {o e:Expr}{es:List Expr}{to:TE}{t:TA}{name:Str}{apos cpos:Pos}{T id:String}{r:V->List V->Hp->VK->Prop}
theorem pe_bm (pa:PlainAttrs T)(slot:Slot T name id)(hty:typeOf (.builtin id)=pure (.type "method_descriptor"))(hm:MtR X id r)(ho:PE X o to)(ha:PA X (e::es) t)
  (hbase:attributeBase o name X.env (eval o X.env)=eval o X.env:=by rfl)
  (hfew:((backTo cpos (starEach (e::es) X.env)).all (fun x=>!x.1)&&(backToKw cpos (keywordEach [] X.env)).all (fun x=>x.1.isSome)
   &&decide ((e::es).length+([]:List Keyword).length+(if ([]:List Keyword).isEmpty then 0 else 1)<30))=true:=by rfl)
  (hline:(apos.endLine==cpos.line)=true:=by rfl) (hs:starEach (e::es) X.env=(false,eval e X.env)::starEach es X.env:=by rfl) (hplain:(backTo cpos (starEach es X.env)).any (·.1)=false:=by rfl):
  PE X (.Call (.Attribute o name apos) (e::es) [] cpos) (tBM X.K T r to t):=by
 intro pins s σ H Q I h
 refine wpAny_Call_method_late hbase hfew hline rfl (thn (ho pins s σ H _ I h) fun v s1 ⟨x,H1,I1,r1,ty,q1⟩=>?_)
 obtain⟨h1,h2⟩:=jQ3 I1 r1 ty
 refine⟨T,id,pa,slot,hty,h1,h2,?_⟩
 have hA:=ha cpos pins s1 σ H1 _ I1 q1
 rw[hs] at hA ⊢
 refine Calls.callWith_builtin (by show (false || (backTo cpos (starEach es X.env)).any (·.1))=false; rw[hplain] <;> rfl) (eE ?_)
 exact thn hA fun us s2 ⟨vs,H2,I2,r2,q2⟩=>hm pins s2 σ H2 x vs v us Q I2 r1 r2 q2
/- xs.append(e),list.index on a module's tuple .. are MtR facts of 06m -/
end
end L2
namespace L2
open PySem PySem.Spec PyProof.Rows
def MtM (X:Cx)(id:String)(r:V->List V->Hp->VK->Prop):Prop:=
 ∀ (pins:List (Addr×Obj)) (s:Shared) (σ:St) (H:Hp) (x:V) (xs:List V) (v:Value) (us:List Value) (Q:VK),Inv X pins σ H s->RelV x v->Vals xs us->r x xs H Q->
  wpAny (model X.prog X.w) X.A (call (.builtin id) (v::us)) (EP X pins σ Q) X.xe s
theorem Vals.one:∀ {x:V}{us:List Value},Vals [x] us->∃ u,us=[u]/\RelV x u
 | _,_, .cons r .nil=>⟨_,rfl,r⟩
theorem Vals.two:∀ {x y:V}{us:List Value},Vals [x,y] us->∃ u v,us=[u,v]/\RelV x u/\RelV y v
 | _,_,_, .cons r (.cons q .nil)=>⟨_,_,rfl,r,q⟩
theorem Vals.zero:∀ {us:List Value},Vals [] us->us=[]
 | _, .nil=>rfl
section
variable {X:Cx}{pins:List (Addr×Obj)}{σ:St}{H:Hp}{s:Shared}{l b:Addr}{xs ys zs:List V}
theorem Inv.lset {its its':List Value}{n:Nat}{f:Array Value->Array Value}{t':Nat}(I:Inv X pins σ H s)(hH:H l=some (.lst xs))
  (e:s.heap.get? l=some { cls:= .type "list",data:= .seq its.toArray n}) (hf:f its.toArray=its'.toArray) (hv:Vals ys its') (hz:ys.length<=sizeLine):
  Inv X pins σ (upd H l (.lst ys)) { s with heap:=s.heap.update l (Obj.mapSeq f),toks:=t'} :=by
 have q:=PySem.IsL.update e f
 rw[hf] at q
 refine I.write (x:=l) (e:=l) (by rw[hH]; exact trivial) (.inl rfl) (fun b' u hb hu=>(bx s.heap (Obj.mapSeq f) (bY hb)).trans hu) ⟨_,q⟩ ?_
 exact⟨hz,its',_,hv,q⟩
theorem Inv.lnew {its:List Value}{t':Nat}(I:Inv X pins σ H s)(hv:Vals ys its)(hz:ys.length<=sizeLine):
  Inv X pins σ (upd H s.heap.objs.size (.lst ys)) { s with heap:=s.heap.push { cls:= .type "list",data:= .seq its.toArray},toks:=t'} :=
 I.laid (fun _ _ q=>ae _ q) (ao _) ⟨hz,its,0,hv,ay _ rfl⟩
theorem Inv.fresh (I:Inv X pins σ H s):H s.heap.objs.size=none:=I.hok.fresh (ao _)
theorem Inv.lstM (I:Inv X pins σ H s)(hH:H l=some (.lst xs)):xs.length<=sizeLine/\∃ (its:List Value) (n:Nat),Vals xs its/\xs.length=its.length/\s.heap.get? l=some { cls:= .type "list",data:= .seq its.toArray n} :=by
 obtain⟨z,its,n,r,e⟩:=I.hok l _ hH
 exact⟨z,its,n,r,r.length,e⟩
end
section
variable {X:Cx}
def jOF:V->List V->Hp->VK->Prop:=fun x vs H Q=>∃ l xs y,x= .ref l/\vs=[y]/\H l=some (.lst xs)/\xs.length<sizeLine/\Q .non (upd H l (.lst (xs++[y])))
theorem jFF:MtM X "list.append" jOF:=by
 intro pins s σ H x vs v us Q I rx rv h
 obtain⟨l,xs,y,rfl,rfl,hH,hz,q⟩:=h
 cases rx
 obtain⟨u,rfl,ru⟩:=rv.one
 obtain⟨z,its,n,r,hl,e⟩:=I.lstM hH
 refine dW F.slot_list_append ⟨_,e,rfl⟩ F.entry_list_append (F.args_list_append_2 _ _) (PySem.list_append l its.toArray n u (by rw[ak]; omega)) ⟨e,?_⟩
 refine⟨.non,_,I.lset (its':=its++[u]) hH e (by simp) (r.append (.cons ru .nil)) ?_,rfl,q⟩
 rw[aI,cP]
 omega
def rCat:R2:=fun x y H Q=>∃ l b xs zs,x= .ref l/\y= .ref b/\H l=some (.lst xs)/\H b=some (.lst zs)/\xs.length+zs.length<=sizeLine/\∀ p,H p=none->Q (.ref p) (upd H p (.lst (xs++zs)))
theorem jQY:OpR X (binaryOp .Add) rCat:=by
 intro pins s σ H x y v u Q I rx ry h
 obtain⟨l,b,xs,zs,rfl,rfl,hH,hB,hz,q⟩:=h
 cases rx
 cases ry
 obtain⟨z,its,n,r,hl,e⟩:=I.lstM hH
 obtain⟨z2,its2,n2,r2,hl2,e2⟩:=I.lstM hB
 refine PySem.P.add_list e e2 ?_ (by rw[ak,ak]; omega)
 have ea:its.toArray++its2.toArray=(its++its2).toArray:=by simp
 rw[ea]
 exact⟨.ref _,_,I.lnew (t':=s.toks) (r.append r2) (by rw[aI]; omega),rfl,q _ I.fresh⟩
end
section
variable {prog:Program}{w:World}{A:Around}{E:Value->Shared->Prop}{s:Shared}
set_option maxRecDepth 100000 in
end
section
variable {X:Cx}
end
end L2
namespace Att
open PySem PySem.W PySem.Calls PyProof.Rows
theorem jDB {P:Params}{h:Heap} :∀ (ns:List Int) (vs:List Value),WellAll P h vs (ns.map WData.int)->IntsAre vs ns:=by
 intro ns
 induction ns with
 | nil=>
  intro vs w
  rw[List.map_nil] at w
  cases w
  exact .nil
 | cons n ns ih=>
  intro vs w
  rw[bi] at w
  cases w with
  | cons a b=>
   cases a
   exact .cons _ _ (ih _ b)
theorem jJ2 {l:OpenLaw}{n:Nat}(hn:l.most=some n){P:Params}{h:Heap}{args:List WData}{vals:List Value}
  (hpre:l.row.toRowW.claim.pre args=true) (hwl:WellAll P h vals args):
  ∃ a vs ns,vals=[Value.ref a]/\args=[WData.list (ns.map WData.int)]/\h.get? a=some { cls:= .type "list",data:= .seq vs.toArray} /\IntsAre vs ns/\ns.length<=n:=by
 have hsh:WShape.hasAll [] args [.list .int]=true:=(pre_splitW hpre).1
 have hc:l.pre.holds [] { args:=args} =true:=(pre_splitW hpre).2
 obtain⟨d,r,rfl,h1,h2⟩:=hasAllW_cons hsh
 obtain rfl:=hasAllW_nil h2
 obtain⟨xs,rfl,h3⟩:=hasW_list h1
 obtain⟨ns,rfl⟩:=items_int h3
 have hlen:ns.length<=n:=by
  unfold OpenLaw.pre at hc
  have h4:(WTm.not (.lt (.lit (.int (n:Int))) (.len (.arg 0)))).holds [] { args:=[.list (ns.map .int)]} =true:=by
   have h4:=(holds_andW hc).1
   rw[hn] at h4
   exact h4
  have h5:=condW_of h4 (w_not (w_lt w_lit (w_len_list (w_arg rfl))))
  rw[af] at h5
  refine Nat.le_of_not_lt fun q=>?_
  have q':(n:Int)<((ns.length:Nat):Int):=by omega
  first
   | (rw[ah q'] at h5; exact absurd h5 (by decide))
   | (simp at h5; omega)
 cases hwl with
 | cons w1 w2=>
  cases w2
  cases w1 with
  | list ho hall=>exact⟨_,_,ns,rfl,rfl,ho,jDB ns _ hall,hlen⟩
theorem jJA (l:OpenLaw)(args:List WData):l.row.toRowW.claim.post args (.bool true) args=true:=
 postW_of (r:=l.row.toRowW) (X:=(true==true))
  (show WShape.has [] (.bool true) .bool=true by first | rfl | decide | simp [WShape.has,WShape.arms,WShape.armsAll])
  (show (WTm.eq .res (.lit (.bool true))).value [] { args:=args,res:=some (.bool true),after:=args} =some (.bool (true==true)) from w_eq_bool (w_res rfl) w_lit) rfl
theorem attach_call {l:OpenLaw}{n:Nat}{q:Program}{loose:List Str}{XP:(Str->Option Value)->Heap->Prop}{YP:World->Heap->Prop}{d:DefRec}
  (hn:l.most=some n) (hdf:d.params.defaults=[])
  (call:∀ (w:World) (s₀ s₁:Shared) (mg mb:Str->Option Value) (fa:Addr) (o:Obj) (pm cd doc:Value) (a:Addr) (vs:List Value) (ns:List Int),
   Ground q loose [] XP w s₀ mg mb s₁.heap->YP w s₁.heap->
   s₁.heap.get? fa=some o->o.data= .func (docDef d.name d.params d.body d.scope pm cd doc)->s₁.heap.CodeRec cd d.name->mg d.name=some (.ref fa)->
   s₁.heap.get? a=some { cls:= .type "list",data:= .seq vs.toArray} ->IntsAre vs ns->ns.length<=n->s₁.gens=#[]->
   codeAny (model l.prog w) callerA (.call (.ref fa) ⟨[.ref a],[]⟩) (fun r s'=>r= .ok (.ret (.bool true))/\OldK s₁.heap s'.heap/\s'.os=s₁.os/\AllBare s'.gens) s₁):
  WalkO q loose XP YP l.row.toRowW d [] (fun f vs=>PySem.call f vs):=by
 intro w s₀ s₁ mg mb G Y fa o pm cd doc dV kV ho hd hcd hD hmg hg args vals as hpre hlay hrd hwl hlo
 obtain rfl:dV= .none:=Dflts.none hD hdf
 obtain rfl:kV= .none:=Dflts.noKw hD
 obtain⟨a,vs,ns,rfl,rfl,hobj,hints,hlen⟩:=jJ2 hn hpre hwl
 refine enter_call (cG (call w s₀ s₁ mg mb fa o pm cd doc a vs ns G Y ho (fd_plain hd) hcd hmg hobj hints hlen hg) fun r s' hq=>?_)
 obtain⟨rfl,h2,h3,h4⟩:=hq
 exact⟨.inl ⟨.bool true, .bool true,[],rfl,fun _=>rfl, .bool true,jJA l _,fun _=>⟨List.Pairwise.nil,fun _ hm=>(nomatch hm)⟩⟩,h2,h3,h4⟩
section
variable {prog:Program}{w:World}{A:Around}{E:Value->Shared->Prop}{s:Shared}{K:Frag}
end
end Att
namespace L2
open PySem PySem.Spec PyProof.Rows
theorem jEU:∀ {vs:List Value}{ns:List Int},IntsAre vs ns->Vals (ns.map V.int) vs
 | _,_, .nil=> .nil
 | _,_, .cons n t h=> .cons ⟨t,rfl⟩ (jEU h)
def Only (H:Hp):Prop:=∀ b,H b=none\/∃ o xs,H b=some (.frz o (.lst xs))
theorem jMK {P:Program}{w:World}{K:W.Frag}{mg mb:Str->Option Value}{CX:CXT}{k:Nat}{fa a:Addr}{fd:FuncData}{x:Str}{sp:Sp}{s₁:Shared}{vs:List Value}{ns:List Int}
  (KX:K.In s₁.heap) (hns:s₁.heap.Ns mainGlobals mg) (hb:s₁.heap.Ns builtinsNs mb) (hbb:∀ x:Str,x≠ "__name__" ->mb x=bootBuiltins x) (hlim:s₁.heap.NoLimit) (hg:s₁.gens=#[])
  (ha:s₁.heap.get? a=some { cls:= .type "list",data:= .seq vs.toArray}) (hi:IntsAre vs ns) (hl:ns.length<=sizeLine) (hr:Room k callerA)
  (F:∀ base:Heap,K.In base->base.Ns mainGlobals mg->FnOk P w K mg base CX k fa fd [x] sp) (hbind:∀ (s:Shared) (u:Value),BindsTo s fd ⟨[u],[]⟩ [(x,u)])
  (hsp:∀ H:Hp,Only H->SqL K H a (ns.map V.int)->sp [.ref a] H (fun v _=>v= .bl true) fun _ _ _=>False)
  (hCX:∀ H e s',CX [] H s₁ (fun _ _ _=>False) e s'->False):
  codeAny (model P w) callerA (.call (.ref fa) ⟨[.ref a],[]⟩) (fun r s'=>r= .ok (.ret (.bool true))/\OldK s₁.heap s'.heap/\s'.os=s₁.os/\AllBare s'.gens) s₁:=by
 have rv:=jEU hi
 have lenV:=hi.length
 have core:∀ H:Hp,Only H->SqL K H a (ns.map V.int)->HOk P w H s₁.heap->(∀ b,H b≠none->b=a)->(H a≠none->K.lookup a=none)->
   codeAny (model P w) callerA (.call (.ref fa) ⟨[.ref a],[]⟩) (fun r s'=>r= .ok (.ret (.bool true))/\OldK s₁.heap s'.heap/\s'.os=s₁.os/\AllBare s'.gens) s₁:=by
  intro H hO hS hok hA hK
  have base_of:∀ {b:Addr}{o:Obj},s₁.heap.get? b=some o->H b=none->(hidT s₁.heap H).get? b=some o:=fun e n=>jMU e n
  have noA:∀ {b:Addr}{o:Obj}{es:Array DictEntry}{ep:Nat},s₁.heap.get? b=some o->o.data= .dict es ep->H b=none:=fun {b o es ep} e d=>by
   cases q:H b with
   | none=>rfl
   | some u=>
    have e':b=a:=hA b (by rw[q]; simp)
    subst e'
    rw[ha] at e; cases e
    have d':Data.seq vs.toArray _=Data.dict es ep:=d
    cases d'
  have nsK:∀ {b:Addr}{m:Str->Option Value},s₁.heap.Ns b m->(hidT s₁.heap H).Ns b m:=fun {b m} ⟨o,es,ep,e,d,r⟩=>⟨o,es,ep,base_of e (noA e d),d,r⟩
  have hKb:K.In (hidT s₁.heap H):=fun b o e=>base_of (KX b o e) (by
   cases q:H b with
   | none=>rfl
   | some u=>
    have e':b=a:=hA b (by rw[q]; simp)
    subst e'
    rw[hK (by rw[q]; simp)] at e; cases e)
  have hM:Mod K mg (hidT s₁.heap H):=⟨hKb,nsK hns,⟨mb,nsK hb,hbb⟩,let ⟨mc,h1,h2⟩:=hlim; ⟨mc,nsK h1,h2⟩⟩
  have e0:Env0 P w K mg (hidT s₁.heap H) callerA [] s₁ H:=⟨rfl,hM,fun b o e=>jPA e,Nat.le_of_eq (jKR _ _),trivial,fun b hb=>absurd (show b∈([]:List Addr) from hb) (by simp),hok, .of_eq hg⟩
  refine cG ((F _ hKb (nsK hns)).run callerA [] s₁ H ⟨[.ref a],[]⟩ [.ref a] [.ref a] _ _ hr e0 (hbind s₁ (.ref a)) (.cons rfl .nil) (hsp H hO hS)) fun r s' h=>?_
  cases r with
  | error e=>exact(hCX H e s' h).elim
  | ok fl=>
   cases fl with
   | next=>exact False.elim h
   | brk=>exact False.elim h
   | cont=>exact False.elim h
   | ret u=>
    obtain⟨v,H',os,bare,un,hok',r',q⟩:=h
    have q':v= .bl true:=q
    subst q'
    obtain rfl:u=Value.bool true:=r'
    refine⟨rfl,OldK.of_keep fun b o e=>?_,os,bare⟩
    cases q:H b with
    | none=>exact un.keep b o e q (by intro z; exact absurd (show b∈([]:List Addr) from z) (by simp)) (by simp)
    | some u=>
     rcases hO b with z | ⟨ob,xs,z⟩
     ·rw[q] at z; cases z
     ·have z2:=un.frzs b ob _ z
      obtain⟨e1,_⟩:=hok b _ z
      obtain⟨e2,_⟩:=hok' b _ z2
      rw[e] at e1; cases e1
      exact e2
 cases hk:K.lookup a with
 | some o=>
  have e:=KX a o hk
  rw[ha] at e
  cases e
  refine core (fun _=>none) (fun _=> .inl rfl) (.inr ⟨_,vs.toArray,_,hk,rfl,rfl,rfl,by rw[ak,lenV]; exact hl,by simpa using rv⟩) (fun b u z=>by have z':(none:Option HO)=some u:=z; cases z') (fun b z=>absurd rfl z) fun z=>absurd rfl z
 | none=>
  refine core (fun b=>if b=a then some (.frz { cls:= .type "list",data:= .seq vs.toArray} (.lst (ns.map V.int))) else none) (fun b=>?_) (.inl (.inr ⟨{ cls:= .type "list",data:= .seq vs.toArray},aA rfl⟩)) (fun b u z=>?_) (fun b z=>?_) fun _=>hk
  ·by_cases hb:b=a
   ·exact .inr ⟨_,_,aA hb⟩
   ·exact .inl (aB hb)
  ·by_cases hb:b=a
   ·have z':=(aA hb).symm.trans z
    cases z'
    subst hb
    exact⟨ha,by rw[af]; exact hl,vs,_,rv,ha⟩
   ·have z':=(aB hb).symm.trans z
    cases z'
  ·by_cases hb:b=a
   ·exact hb
   ·exact absurd (aB hb) z
end L2
namespace L2
open PySem PySem.Spec PyProof.Rows
theorem walk_of {l:PySem.W.OpenLaw}{n k:Nat}{q:Program}{loose:List Str}{XP:(Str->Option Value)->Heap->Prop}{YP:World->Heap->Prop}{d:DefRec}{K:Params->W.Frag}{CX:World->CXT}{sp:World->Sp}{x:Str}
  (hn:l.most=some n) (hn2:n<=sizeLine) (hdf:d.params.defaults=[]) (hr:Room k callerA)
  (hY:∀ (w:World) (h:Heap),YP w h->(K w.params).In h)
  (F:∀ (w:World) (mg:Str->Option Value) (fa:Addr) (h:Heap),(K w.params).In h->h.Ns mainGlobals mg->mg d.name=some (.ref fa)->
   ∃ fd:FuncData,(∀ (s:Shared) (u:Value),BindsTo s fd ⟨[u],[]⟩ [(x,u)])/\
    ∀ base:Heap,(K w.params).In base->base.Ns mainGlobals mg->FnOk l.prog w (K w.params) mg base (CX w) k fa fd [x] (sp w))
  (hsp:∀ (w:World) (H:Hp) (a:Addr) (ns:List Int),ns.length<=n->Only H->SqL (K w.params) H a (ns.map V.int)->sp w [.ref a] H (fun v _=>v= .bl true) fun _ _ _=>False)
  (hCX:∀ (w:World) (H:Hp) (s:Shared) (e:Value) (s':Shared),CX w [] H s (fun _ _ _=>False) e s'->False):
  PySem.W.WalkO q loose XP YP l.row.toRowW d [] (fun f vs=>PySem.call f vs):=by
 refine Att.attach_call hn hdf fun w s₀ s₁ mg mb fa o pm cd doc a vs ns G Y ho hd hcd hmg hobj hints hlen hg=>?_
 have KX:=hY w _ Y
 obtain⟨fd,hb,hF⟩:=F w mg fa _ KX G.T.g hmg
 exact jMK KX G.T.g G.T.b G.T.builtins G.T.nolimit hg hobj hints (aO hlen hn2) hr hF hb (fun H hO hS=>hsp w H a ns hlen hO hS) fun H e s'=>hCX w H s₁ e s'
end L2
/- THE LAST THEOREM (shape; LID,My.* are yours):
  My.Adr:a structure of the addresses that your layer names (classes,functions); My.Txt K t:a structure (Prop) of the equations over K;
  My.txt_mk: {K} {implicit addresses ..} (e1:nsIn K mainGlobals "law" =some (some (.ref f))) (e2:K.lookup f=some ⟨oc,od, .func (fnOf "law" "law" params body scope dV kV doc pm an cdv ct),sl⟩) (e3:codeIn K cdv "law" =true) .. :∃ t,My.Txt K t
set_option maxRecDepth 100000 in
set_option maxHeartbeats 0 in
theorem PySem.Challenge.cw_LID_holds : PySem.Challenge.rw_LID.Holds := by
 w_on; o_law; k_head; (case hw=>w_witness2)
 k_fill
 refine L2.walk_of (l:=PySem.Challenge.rw_LID) (n:=63) (k:=40) (x:= "script") (CX:=fun w=> ..) (sp:=fun _=>My.sp_law) rfl (by decide) rfl ⟨rfl,by decide,by decide⟩ (fun w h Y=>kIn_of Y) ?F ?S ?C
 case F=>
  intro w mg fa h KX G hmg
  have T:∃ t,My.Txt (L2.KOf KX) t:=by
   dsimp only [L2.KOf] -- K must stand as «<heap const>w.params» for k_is
   refine' My.txt_mk ?e1 ?e2 ?e3 ..
   (case e1=>PySem.W.k_is) -- in the order:a name->its address->its object->its kP
   (case e2=>PySem.W.k_is)
   ..
  obtain⟨t,T⟩:=T
  have e0:=hmg.symm.trans (fK KX G T.law)
  cases e0 -- fa is the law's own address
  exact⟨_,fun s u=> .of_eq rfl,fun base kb nb=>My.law_fn T kb nb⟩ -- if «.of_eq rfl» comes too early:refine' ⟨_,?b,fun base kb nb=>My.law_fn T kb nb⟩; exact fun s u=> .of_eq rfl
 case S=>exact fun w H a ns hl hO hS=> ..
 case C=>exact ..
(the tactic k_is has no namespace:write k_is) -/
namespace L2
open PySem PySem.Spec PyProof.Rows
abbrev CX0:CXT:=fun _ _ _ _ _ _=>False
abbrev E0:XK:=fun _ _ _=>False
theorem pass0 {X:Cx} :jLQ CX0 X E0:=fun _ _ _ _ _ _ _ h=>h.elim
structure Fun (K:W.Frag)(x qual:Str)(st:Stmt)(f:Addr)(fd:FuncData):Prop where
 ex:∃ (oc:Value) (od:Option Addr) (kV doc pm:Value) (an:Option Addr) (cdv ct:Value) (osl:Array (Option Value)),
  fd=PySem.W.fnOf x qual (jU st) (jE st) (j9 st) .none kV doc pm an cdv ct/\K.lookup f=some ⟨oc,od, .func fd,osl⟩/\PySem.W.codeIn K cdv qual=true
 kp:keepIn K (.ref f)=true
section
variable {P:Program}{w:World}{K:W.Frag}{mg:Str->Option Value}{base:Heap}
theorem Fun.ok {x qual:Str}{st:Stmt}{f:Addr}{fd:FuncData}{N ps:List Str}{k:Nat}{sp:Sp}(F:Fun K x qual st f fd)(S:FnScope N ps (j9 st))(len:∀ vs H Q E,sp vs H Q E->vs.length=ps.length)
  (hbody:∀ (cdv:Value) (A:Around) (outer:List Env) (s:Shared) (H:Hp) (vs:List V) (Q:VK) (E:XK),Room k (A.deeper (envOfC qual (j9 st) s.heap.objs.size f cdv))->sp vs H Q E->
   ∃ t,PSs (cxOf CX0 P w K mg base N qual (j9 st) f cdv A outer s H E).nox (jE st) t/\t { nx:=fun _ H'=>Q .non H',rt:=Q} (start N vs) H):FnOk P w K mg base CX0 (k+1) f fd ps sp:=by
 obtain⟨oc,od,kV,doc,pm,an,cdv,ct,osl,rfl,lk,hcd⟩:=F.ex
 refine fn_of lk hcd S len fun A outer s H vs Q E hr hsp=>?_
 obtain⟨t,h,q⟩:=hbody cdv A outer s H vs Q E hr hsp
 exact⟨t,h.nox,q⟩
theorem Fun.binds {x qual:Str}{st:Stmt}{f:Addr}{fd:FuncData}{ps:List Str}(F:Fun K x qual st f fd)
  (h:∀ (kV doc pm:Value) (an:Option Addr) (cdv ct:Value) (us:List Value),us.length=ps.length->bindArgs (PySem.W.fnOf x qual (jU st) (jE st) (j9 st) .none kV doc pm an cdv ct) ⟨us,[]⟩=pure (ps.zip us)):Binds K fd ps []:=by
 obtain⟨oc,od,kV,doc,pm,an,cdv,ct,osl,rfl,lk,hcd⟩:=F.ex
 exact .all (h kV doc pm an cdv ct)
theorem kN {x qual:Str}{st:Stmt}{f:Addr}{oc:Value}{od an:Option Addr}{osl:Array (Option Value)}{kV doc pm cdv ct:Value}(l:K.lookup f=some ⟨oc,od, .func (PySem.W.fnOf x qual (jU st) (jE st) (j9 st) .none kV doc pm an cdv ct),osl⟩)
  (c:PySem.W.codeIn K cdv qual=true) (k:keepIn K (.ref f)=true):Fun K x qual st f (PySem.W.fnOf x qual (jU st) (jE st) (j9 st) .none kV doc pm an cdv ct):=⟨⟨oc,od,kV,doc,pm,an,cdv,ct,osl,rfl,l,c⟩,k⟩
end
section
variable {X:Cx}
theorem pv (i:Nat){x:Str}{pos:Pos}(hN:X.N[i]?=some x:=by rfl)(hv:Vis X.env.scope x:=by first | exact Or.inl rfl | exact Or.inr (Or.inl rfl) | exact Or.inr (Or.inr rfl))(hd:(x==("__debug__" :Str))=false:=by decide)
  (hcd:(x==("__classdict__" :Str))=false:=by decide):PE X (.Name x pos) (tVar i):=jNH hN hv hd hcd
end
theorem iteF {A B:Prop}(h:B):if false=true then A else B:=by
 rw[aB aw]
 exact h
theorem iteT {A B:Prop}(h:A):if true=true then A else B:=by
 rw[aA rfl]
 exact h
theorem ite2 {c A B:Prop} [Decidable c](h1:c->A)(h2:¬ c->B):if c then A else B:=by
 by_cases h:c
 ·rw[aA h]
  exact h1 h
 ·rw[aB h]
  exact h2 h
theorem iteNS {c A B:Prop} [Decidable c](hc:c)(h:B):if (!decide c)=true then A else B:=by
 rw[ah hc]
 exact iteF h
def yD (cells:List (Str×Addr)):List (Str×NameKind)->List (Str×Addr)->List (Str×Addr)
 | [],acc=>acc
 | (n,k)::r,acc=>if k= .free then yD cells r ((n,(cells.lookup n).getD 0)::acc) else yD cells r acc
theorem jC7 {env:Env} :∀ (l:List (Str×NameKind)) (acc:List (Str×Addr)),(∀ y∈l,y.2= .free->∃ c,env.cells.lookup y.1=some c)->
  (forIn l acc fun (x:Str×NameKind) (cs:List (Str×Addr))=>(if (x.2==NameKind.free)=true then (do let a <- cellOf env x.1; pure (ForInStep.yield ((x.1,a)::cs))) else pure (ForInStep.yield cs):Sem (ForInStep (List (Str×Addr)))))=pure (yD env.cells l acc)
 | [],acc,_=>rfl
 | (n,k)::r,acc,h=>by
  have hr:∀ y∈r,y.2= .free->∃ c,env.cells.lookup y.1=some c:=fun y hy=>h y (ar _ hy)
  rw[gt]
  by_cases hk:k= .free
  ·subst hk
   obtain⟨c,hc⟩:=h (n, .free) am rfl
   have e:cellOf env n=pure c:=by unfold cellOf; rw[hc]
   have e2:yD env.cells ((n,NameKind.free)::r) acc=yD env.cells r ((n,c)::acc):=by
    show (if NameKind.free=NameKind.free then yD env.cells r ((n,(env.cells.lookup n).getD 0)::acc) else _)=_
    rw[aA rfl,hc]; rfl
   rw[e2,<- jC7 r ((n,c)::acc) hr]
   show ((do let a <- cellOf env n; pure (ForInStep.yield ((n,a)::acc))) >>= _)=_
   rw[e]; rfl
  ·have hb:(k==NameKind.free)=false:=by cases k <;> first | rfl | exact absurd rfl hk
   have e2:yD env.cells ((n,k)::r) acc=yD env.cells r acc:=by
    show (if k=NameKind.free then _ else yD env.cells r acc)=_
    rw[aB hk]
   rw[e2,<- jC7 r acc hr]
   show ((if (k==NameKind.free)=true then _ else pure (ForInStep.yield acc)) >>= _)=_
   rw[hb]; rfl
theorem jPT {env:Env}{sc:Scope}(h:∀ y∈sc.names,y.2= .free->∃ c,env.cells.lookup y.1=some c):closureFor sc env=pure (yD env.cells sc.names []):=by
 unfold closureFor
 show (forIn sc.names [] _ >>= fun cs=>pure cs)=_
 rw[show (forIn sc.names ([]:List (Str×Addr)) _:Sem _)=_ from jC7 sc.names [] h]
 rfl
theorem jC6 {cells:List (Str×Addr)} :∀ (l:List (Str×NameKind)) (acc:List (Str×Addr)),(∀ y∈l,y.2= .free->∃ c,cells.lookup y.1=some c)->
  (∀ x c,acc.lookup x=some c->cells.lookup x=some c)->∀ x c,(yD cells l acc).lookup x=some c->cells.lookup x=some c
 | [],acc,_,ha=>ha
 | (n,k)::r,acc,h,ha=>by
  have hr:∀ y∈r,y.2= .free->∃ c,cells.lookup y.1=some c:=fun y hy=>h y (ar _ hy)
  unfold yD
  by_cases hk:k= .free
  ·rw[aA hk]
   obtain⟨c0,hc⟩:=h (n,k) am hk
   refine jC6 r _ hr fun x c e=>?_
   rw[bp] at e
   cases hx:x==n with
   | true=>
    rw[hx] at e
    have exn:x=n:=eq_of_beq hx
    subst exn
    have hc':cells.lookup x=some c0:=hc
    rw[hc'] at e ⊢
    exact e
   | false=>rw[hx] at e; exact ha x c e
  ·rw[aB hk]; exact jC6 r acc hr ha
theorem jB5 {cells:List (Str×Addr)}{x:Str} :∀ (l:List (Str×NameKind)) (acc:List (Str×Addr)),((x,NameKind.free)∈l\/∃ c,acc.lookup x=some c)->∃ c,(yD cells l acc).lookup x=some c
 | [],acc,h=>by
  rcases h with h | h
  ·cases h
  ·exact h
 | (n,k)::r,acc,h=>by
  unfold yD
  by_cases hk:k= .free
  ·rw[aA hk]
   refine jB5 r _ ?_
   by_cases e:x=n
   ·subst e
    exact .inr ⟨_,by rw[bp,beq_self_eq_true]⟩
   ·rcases h with h | ⟨c,h⟩
    ·rcases av.mp h with q | q
     ·cases q; exact absurd rfl e
     ·exact .inl q
    ·refine .inr ⟨c,?_⟩
     rw[bp,bO.mpr e]
     exact h
  ·rw[aB hk]
   refine jB5 r _ ?_
   rcases h with h | h
   ·rcases av.mp h with q | q
    ·cases q; exact absurd rfl hk
    ·exact .inl q
   ·exact .inr h
theorem jB3 {x:Str}{k:NameKind} :∀ {l:List (Str×NameKind)},l.lookup x=some k->(x,k)∈l
 | [],h=>by cases h
 | (n,k')::r,h=>by
  rw[bp] at h
  cases hx:x==n with
  | true=>rw[hx] at h; cases h; rw[eq_of_beq hx]; exact am
  | false=>rw[hx] at h; exact ar _ (jB3 h)
theorem jC3 {env:Env}{x:Str}{k:NameKind}(hk:k= .cell\/k= .free):∀ {l:List (Str×NameKind)},(∀ y∈l,y.2≠ .cell)->
  (l.map fun (n,k)=>if (k==NameKind.free&&env.scope.kind== .function&&env.kindOf n==some .cell) then (n,NameKind.cell) else (n,k)).lookup x=some k->l.lookup x=some .free
 | [],_,h=>by simp at h
 | (n,k')::r,hc,h=>by
  have ih:= @jC3 env x k hk r (fun y hy=>hc y (ar _ hy))
  have hc0:k'≠ .cell:=hc (n,k') am
  rw[bp]
  rw[bi] at h
  dsimp only at h
  by_cases hb:(k'==NameKind.free&&env.scope.kind== .function&&env.kindOf n==some .cell)=true
  ·rw[aA hb,bp] at h
   cases hx:x==n with
   | true=>
    have:k'= .free:=by
     simp only [aL] at hb
     exact eq_of_beq hb.1.1
    rw[this]
   | false=>rw[hx] at h; exact ih h
  ·rw[aB hb,bp] at h
   cases hx:x==n with
   | true=>
    rw[hx] at h
    have e:k'=k:=aF h
    rcases hk with q | q
    ·exact absurd (e.trans q) hc0
    ·rw[e,q]
   | false=>rw[hx] at h; exact ih h
theorem jC5 {env:Env}{x:Str} :∀ {l:List (Str×NameKind)},l.lookup x=some .free->
  (l.map fun (n,k)=>if (k==NameKind.free&&env.scope.kind== .function&&env.kindOf n==some .cell) then (n,NameKind.cell) else (n,k)).lookup x=some .cell\/
  (l.map fun (n,k)=>if (k==NameKind.free&&env.scope.kind== .function&&env.kindOf n==some .cell) then (n,NameKind.cell) else (n,k)).lookup x=some .free
 | [],h=>by cases h
 | (n,k')::r,h=>by
  have ih:= @jC5 env x r
  rw[bp] at h
  rw[bi]
  dsimp only
  by_cases hb:(k'==NameKind.free&&env.scope.kind== .function&&env.kindOf n==some .cell)=true
  ·rw[aA hb,bp]
   cases hx:x==n with
   | true=>exact .inl rfl
   | false=>rw[hx] at h; exact ih h
  ·rw[aB hb,bp]
   cases hx:x==n with
   | true=>rw[hx] at h; exact .inr h
   | false=>rw[hx] at h; exact ih h
section
variable {prog:Program}{w:World}{A:Around}{R:Result->Shared->Prop}{s:Shared}
abbrev jIN (ifs:List Expr)(env:Env):Sem Bool:=forIn ifs true fun c r=>if r=true then do let ok <- isTrue c env (eval c env); pure (ForInStep.yield ok) else pure (ForInStep.yield r)
theorem jIF {elt tg iter:Expr}{ifs:List Expr}{sc:Scope}{pos:Pos}{it acc:Value}{env:Env}(J:Nat->Shared->Prop)
  (turn:∀ n z,J n z->wpAny (model prog w) A (pyNext it) (fun r z1=>match r with
   | none=>R (.ok .next) z1
   | some v=>wpAny (model prog w) A (letOwnedTupleGo tg it v) (fun _ z2=>wpAny (model prog w) A (assign tg env v) (fun _ z3=>wpAny (model prog w) A (jIN ifs env) (fun ok z4=>
     if ok=true then wpAny (model prog w) A (eval elt env) (fun x z5=>wpAny (model prog w) A (call (.builtin "list.append") [acc,x]) (fun _ z6=>∃ k,k<n/\J k z6) (fun _ _=>False) z5) (fun _ _=>False) z4
     else ∃ k,k<n/\J k z4) (fun _ _=>False) z3) (fun _ _=>False) z2) (fun _ _=>False) z1) (fun _ _=>False) z)
  (n:Nat) (h:J n s):codeAny (model prog w) A (.compLoop (.ListComp elt [⟨tg,iter,ifs,0⟩] sc pos) 0 it acc env) R s:=by
 refine codeAny_loop rfl J (fun k z hJ=>?_) n h
 have noE:∀ {α:Type}{t:Sem α}{Q:α->Shared->Prop}{E:Value->Shared->Prop}{z:Shared},wpAny (model prog w) A t Q (fun _ _=>False) z->wpAny (model prog w) A t Q E z:=
  fun q=>aZ q (fun _ _ a=>a) fun _ _ f=>f.elim
 show wpAny _ A ((compTurn (.ListComp elt [⟨tg,iter,ifs,0⟩] sc pos) 0 it acc env).onRaise (fun x=>do noteFrame x env; theTreesLotGoes x)) _ _ z
 refine wpAny_noted ?_
 rw[compTurn_list]
 refine aa (bQ (aa (aZ (turn k z hJ) (fun r z1 q1=>?_) fun _ _ f=>f.elim)))
 cases r with
 | none=>exact ag q1
 | some v=>
  refine aa (aZ q1 (fun _ z2 q2=>?_) fun _ _ f=>f.elim)
  refine aa (aZ q2 (fun _ z3 q3=>?_) fun _ _ f=>f.elim)
  refine aa (aZ q3 (fun ok z4 q4=>?_) fun _ _ f=>f.elim)
  cases ok with
  | false=>exact ag ⟨rfl,q4⟩
  | true=>
   refine aa (aa (aZ q4 (fun x z5 q5=>?_) fun _ _ f=>f.elim))
   exact aa (aZ q5 (fun _ z6 q6=>ag (ag ⟨rfl,q6⟩)) fun _ _ f=>f.elim)
end
noncomputable def blk (X:Cx)(sc:Scope)(cl:List (Str×Addr))(C:Addr)(Nc:List Str)(fp:List Addr)(s:Shared)(H:Hp):Cx where
 prog:=X.prog
 w:=X.w
 K:=X.K
 mg:=X.mg
 base:=X.base
 A:=X.A
 N:=Nc
 s₀:=s
 H₀:=H
 env:=compEnvC sc cl C X.env
 outer:=X.stack
 stack:=X.stack
 ex:=fp
 fn:=fun _=>false
 calm:=X.calm
 pn:=[]
 xe:=fun _ _=>False
def blkσ (m:List (Option Nat))(σ:St):St:=m.map fun o=>match o with
 | none=>none
 | some i=>(σ[i]?).getD none
def PTs (X:Cx)(ifs:List Expr)(t:TT):Prop:=
 ∀ (pins:List (Addr×Obj)) (s:Shared) (σ:St) (H:Hp) (Q:Bool->Hp->Prop),Inv X pins σ H s->t σ H Q->wpAny (model X.prog X.w) X.A (jIN ifs X.env) (TP X pins σ Q) X.xe s
def qT:TT:=fun _ H Q=>Q true H
theorem jJ8 {X:Cx} :PTs X [] qT:=fun _ _ _ H _ I h=>wpAny_tests_nil ⟨H,I,h⟩
theorem jJ7 {X:Cx}{c:Expr}{t:TT}(h:PT X c t):PTs X [c] t:=fun pins s σ H Q I q=>wpAny_tests_one (h pins s σ H Q I q)
def CompW (m:List (Option Nat))(g:TG)(tt:TT)(te:TE)(σ:St)(Q:VK)(J:It)(H1:Hp):Prop:=∀ D,H1 D=none->∃ W:Nat->Nat->St->Hp->List V->Prop,
  (∃ n,W 0 n (blkσ m σ) (upd H1 D (.lst [])) [])/\∀ i n σ' H' ys,W i n σ' H' ys->H' D=some (.lst ys)/\ys.length<sizeLine/\
   ((J.stop i H'/\Q (.ref D) H')\/(J.go i H'/\∃ N:St->Hp->List V->Prop,(∀ σ2 H2 zs,N σ2 H2 zs->∃ n',n'<n/\W (i+1) n' σ2 H2 zs)/\∀ x H'',J.yld i H' x H''->g x σ' H'' fun σ2 H2=>tt σ2 H2 fun b H3=>
    if b=true then te σ2 H3 fun v H4=>H4 D=some (.lst ys)/\N σ2 (upd H4 D (.lst (ys++[v]))) (ys++[v])
    else N σ2 H3 ys))
def tComp (m:List (Option Nat))(wi:TI)(g:TG)(tt:TT)(te:TE):TE:=fun σ H Q=>wi σ H (CompW m g tt te σ Q)
theorem Un.sameBut {fs ex:List Addr}{H H':Hp}{h h1 h2:Heap}{C:Addr}(u:Un fs ex H H' h h1)(sb:Heap.SameBut C h1 h2)(hC:h.objs.size<=C):Un fs ex H H' h h2:=by
 have ne:∀ {b:Addr}{o:Obj},h.get? b=some o->b≠C:=fun e=>aN (aG (au e) hC)
 refine⟨fun b o e n hf hx=>(sb.2 b (ne e)).trans (u.keep b o e n hf hx),fun b o e n hf hx=>?_,u.free,fun b o e hx=>?_,u.tups,u.frzs,u.tbls⟩
 ·obtain⟨sl,q⟩:=u.slot b o e n hf hx
  exact⟨sl,(sb.2 b (ne e)).trans q⟩
 ·obtain⟨o',q⟩:=u.there b o e hx
  exact⟨o',(sb.2 b (ne e)).trans q⟩
theorem HOk.sameBut {P:Program}{w:World}{H:Hp}{h1 h2:Heap}{C:Addr}(x:HOk P w H h1)(sb:Heap.SameBut C h1 h2)(hC:H C=none):HOk P w H h2:=fun a o e=>
 (x a o e).stay (fun b u hb q=>(sb.2 b (by
  rintro rfl
  rcases hb with rfl | hb
  ·rw[hC] at e; cases e
  ·rw[hC] at hb; cases hb)).trans q) (fun _ q=>q) fun _ _ q=>q
section
variable {X:Cx}{tg iter elt:Expr}{ifs:List Expr}{sc:Scope}{pos:Pos}{wi:TI}{g:TG}{tt:TT}{te:TE}{m:List (Option Nat)}{Nc:List Str}
def jCL (X:Cx)(sc:Scope)(Nc:List Str)(m:List (Option Nat)):Prop:=
 m.length=Nc.length/\∀ (k i:Nat),m[k]?=some (some i)->∃ x,Nc[k]?=some x/\X.N[i]?=some x/\sc.names.lookup x=some .free
theorem jLI {pins:List (Addr×Obj)}{s:Shared}{σ:St}{H:Hp}{fp:List Addr}(I:Inv X pins σ H s)(hkind:sc.kind= .function)(hcell:∀ y∈sc.names,y.2≠ .cell)
  (hfree:∀ y∈sc.names,y.2= .free->X.env.scope.names.lookup y.1=some .cell\/X.env.scope.names.lookup y.1=some .free) (hm:jCL X sc Nc m) (hfp:∀ b∈fp,FpOk X pins H b) (hlt:∀ b∈fp,b<s.heap.objs.size)
  {h1:Heap}{tk:Nat}{md:Str->Option Value}(hns:h1.Ns s.heap.objs.size md) (old:∀ b o,s.heap.get? b=some o->h1.get? b=some o):
  Inv (blk X sc (yD X.env.cells sc.names []) s.heap.objs.size Nc fp s H) [] (blkσ m σ) H { s with heap:=h1,toks:=tk} :=by
 have hcl:∀ y∈sc.names,y.2= .free->∃ c,X.env.cells.lookup y.1=some c:=fun y hy hf=>I.ok.has y.1 (hfree y hy hf)
 have sub:∀ x c,(yD X.env.cells sc.names []).lookup x=some c->X.env.cells.lookup x=some c:=jC6 sc.names [] hcl (fun x c e=>by cases e)
 have isfree:∀ x,(compEnvC sc (yD X.env.cells sc.names []) s.heap.objs.size X.env).kindOf x=some .cell\/(compEnvC sc (yD X.env.cells sc.names []) s.heap.objs.size X.env).kindOf x=some .free->sc.names.lookup x=some .free:=fun x h=>by
  rcases h with h | h
  ·exact jC3 (.inl rfl) hcell h
  ·exact jC3 (.inr rfl) hcell h
 refine⟨⟨I.ok.mod,hkind,I.ok.glob,I.ok.blt,ao _,fun x y c h1 h2=>I.ok.inj x y c (sub x c h1) (sub y c h2),fun x hx=>?_,fun x c hf _=>?_,I.ok.hd,I.ok.frames, .inl rfl,fun b hb=>?_,I.bs,aO I.ok.bsz I.sz,fun b o e hb=>?_,fun b hb hz=>?_,I.stack,I.stkFree⟩,
  rfl,I.bare,Un.kept old,⟨md,hns,fun k x v e1 e2 e3=>?_⟩,fun x c e=>?_,I.hok.fresh (ao _),fun x c e=>I.freeC x c (sub x c e),fun p hp=>absurd (show p∈([]:List (Addr×Obj)) from hp) (by simp),I.hok.kept old,?_⟩
 ·exact jB5 sc.names [] (.inl (jB3 (isfree x hx)))
 ·exact absurd (show false=true from hf) aw
 ·obtain⟨f0,f1,f2,f3,f4,f5⟩:=hfp b hb
  exact⟨aN (hlt b hb),fun x c e=>f4 x c (sub x c e)⟩
 ·obtain⟨f0,f1,f2,f3,f4,f5⟩:=hfp b hb
  rcases f3 with q | q
  ·exact I.ok.noex b o e q
  ·exact absurd (aG (au (I.ok.bs b o e).1) q) (cg _)
 ·obtain⟨f0,f1,f2,f3,f4,f5⟩:=hfp b hb
  rcases av.mp (I.stkSub b hz) with q | q
  ·exact f1 q
  ·exact f2 q
 ·have e2':∃ i,m[k]?=some (some i)/\σ[i]?=some (some v):=by
   unfold blkσ at e2
   rw[aY] at e2
   cases q:m[k]? with
   | none=>rw[q] at e2; cases e2
   | some o=>
    rw[q] at e2
    cases o with
    | none=>cases e2
    | some i=>
     refine⟨i,rfl,?_⟩
     have e2:(σ[i]?).getD none=some v:=aF e2
     cases r:σ[i]? with
     | none=>rw[r] at e2; cases e2
     | some z=>rw[r] at e2; exact bn some e2
  obtain⟨i,q1,q2⟩:=e2'
  obtain⟨x',a1,a2,a3⟩:=hm.2 k i q1
  have e1':Nc[k]?=some x:=e1
  rw[e1'] at a1
  cases a1
  have vis:=hfree (x, .free) (jB3 a3) rfl
  obtain⟨m0,hn0,hl0⟩:=I.loc
  obtain⟨u,r,l⟩:=hl0 i x v a2 q2 (.inr vis)
  refine⟨u,r, .inr ⟨jC5 a3,?_⟩⟩
  obtain⟨c,hc⟩:=jB5 (cells:=X.env.cells) (x:=x) sc.names [] (.inl (jB3 a3))
  rcases l with ⟨lk,_⟩ | ⟨_,c',hc',o,ho,hd⟩
  ·have lk':X.env.scope.names.lookup x=some .local:=lk
   rcases vis with z | z
   ·rw[lk'] at z; cases z
   ·rw[lk'] at z; cases z
  ·have:=sub x c hc
   rw[hc'] at this
   cases this
   exact⟨c,hc,o,old _ _ ho,hd⟩
 ·obtain⟨v,o,ho,hd⟩:=I.cell x c (sub x c e)
  exact⟨v,o,old _ _ ho,hd⟩
 ·show (blkσ m σ).length=Nc.length
  unfold blkσ
  rw[af]
  exact hm.1
theorem jHP {tf:St->TE}(hc:X.calm=true)(hi:PI X tg iter wi)(hkind:sc.kind= .function)(hcell:∀ y∈sc.names,y.2≠ .cell)(hnames:∀ y∈sc.names,y.2= .local->sc.names.lookup y.1=some .local)
  (hfree:∀ y∈sc.names,y.2= .free->X.env.scope.names.lookup y.1=some .cell\/X.env.scope.names.lookup y.1=some .free) (hm:jCL X sc Nc m)
  (hg:∀ cl C fp s H,PG (blk X sc cl C Nc fp s H) tg g) (ht:∀ cl C fp s H,PTs (blk X sc cl C Nc fp s H) ifs tt) (he:∀ cl C fp s H pins σ,Inv X pins σ H s->(∀ b∈fp,FpOk X pins H b)->PE (blk X sc cl C Nc fp s H) elt (tf σ))
  (hs:∀ x,foldedSetIterable iter X.env x=pure x) {fpos:Pos}{use:Option (Value->Sem Unit)}{R:Value->Shared->Prop}{pins:List (Addr×Obj)}{s:Shared}{σ:St}{H:Hp}{Q:VK}(I:Inv X pins σ H s) (h:tComp m wi g tt (tf σ) σ H Q)
  (fin:∀ (D C:Addr) (H5:Hp) (z1:Shared) (r:Flow),(∃ mm,z1.heap.Ns C mm)->FpOk X pins H5 C->(∀ h',Heap.SameBut C z1.heap h'->Inv X pins σ H5 { z1 with heap:=h'})->Q (.ref D) H5->compPost (model X.prog X.w) X.A X.xe use R (.ref D) C (.ok r) z1):
  wpAny (model X.prog X.w) X.A (comprehension (.ListComp elt [⟨tg,iter,ifs,0⟩] sc pos) sc X.env fpos (newList []) false (eval iter X.env) use) R X.xe s:=by
 have hcl:∀ y∈sc.names,y.2= .free->∃ c,X.env.cells.lookup y.1=some c:=fun y hy hf=>I.ok.has y.1 (hfree y hy hf)
 refine wpAny_comprehension_free (use:=use) rfl hs (jPT hcl) hkind hnames (thn (hi pins s σ H _ I h) fun v s1 h1=>thn h1 fun itv s2 h2=>?_)
 obtain⟨it,fp,tn,J,H2,e,I2,T,st2,f2,hQ⟩:=h2
 subst e
 have hlt:∀ b∈fp,b<s2.heap.objs.size:=fun b hb=>by
  obtain⟨o,e,_⟩:=T.obj 0 _ st2 b hb
  exact au e
 refine bv (wpAny_newFunctionEnv hcell (by intro y hy; simp at hy) (fun h₁ hns₁ hsb₁=>?_) hkind)
 have I3:Inv X pins σ (upd H2 s2.heap.objs.size (.lst [])) { s2 with heap:=s2.heap.push { cls:= .type "list",data:= .seq ([]:List Value).toArray}} :=I2.lnew (t':=s2.toks) .nil (aJ _)
 obtain⟨W,⟨n0,w0⟩,turn⟩:=hQ s2.heap.objs.size I2.fresh
 have hD3:∀ b∈fp,b≠s2.heap.objs.size:=fun b hb=>aN (hlt b hb)
 have f3:∀ b∈fp,FpOk X pins (upd H2 s2.heap.objs.size (.lst [])) b:=fun b hb=>by
  obtain⟨a0,a1⟩:=f2 b hb
  exact⟨by rw[jG (hD3 b hb)]; exact a0,a1⟩
 generalize hE:({ s2 with heap:=s2.heap.push { cls:= .type "list",data:= .seq ([]:List Value).toArray}} :Shared)=s3 at I3 hns₁ hsb₁ ⊢
 generalize hH3:upd H2 s2.heap.objs.size (.lst [])=H3 at I3 f3 w0
 have hsz3:s3.heap.objs.size=s2.heap.objs.size+1:=by rw[<- hE]; exact bT _ _
 have old:∀ b o,s3.heap.get? b=some o->h₁.get? b=some o:=fun b o e=>hsb₁.extBut b o (aN (au e)) (ae _ e)
 have old2:∀ b o,s2.heap.get? b=some o->h₁.get? b=some o:=fun b o e=>old b o (by rw[<- hE]; exact ae _ e)
 have I4:=jLI (fp:=fp) (tk:=s3.toks+([]:List (Str×Value)).length) I3 hkind hcell hfree hm f3 (fun b hb=>show b<s3.heap.objs.size by rw[hsz3]; exact cr (hlt b hb)) hns₁ old
 have st4:tn 0 h₁:=T.keep _ _ _ st2 fun b hb o e=>old2 b o e
 have loop:codeAny (model X.prog X.w) X.A (.compLoop (.ListComp elt [⟨tg,iter,ifs,0⟩] sc pos) 0 (.ref it) (.ref s2.heap.objs.size) (compEnvC sc (yD X.env.cells sc.names []) s3.heap.objs.size X.env))
   (compPost (model X.prog X.w) X.A X.xe use R (.ref s2.heap.objs.size) s3.heap.objs.size) { s3 with heap:=h₁,toks:=s3.toks+([]:List (Str×Value)).length} :=by
  generalize hX:blk X sc (yD X.env.cells sc.names []) s3.heap.objs.size Nc fp s3 H3=Xb at I4
  have eP:Xb.prog=X.prog:=by rw[<- hX]; rfl
  have ew:Xb.w=X.w:=by rw[<- hX]; rfl
  have eK:Xb.K=X.K:=by rw[<- hX]; rfl
  have eA:Xb.A=X.A:=by rw[<- hX]; rfl
  have ec:Xb.calm=true:=by rw[<- hX]; exact hc
  have ee:Xb.env=compEnvC sc (yD X.env.cells sc.names []) s3.heap.objs.size X.env:=by rw[<- hX]; rfl
  have ex:Xb.xe=fun _ _=>False:=by rw[<- hX]; rfl
  have hgb:PG Xb tg g:=by rw[<- hX]; exact hg _ _ _ _ _
  have htb:PTs Xb ifs tt:=by rw[<- hX]; exact ht _ _ _ _ _
  have heb:PE Xb elt (tf σ):=by rw[<- hX]; exact he _ _ _ _ _ _ _ I3 f3
  have stat:∀ {H':Hp},(∀ b∈fp,H' b=none)->∀ b∈fp,FpOk Xb [] H' b:=fun {H'} hn b hb=>by
   obtain⟨o,eo,_⟩:=T.obj _ _ st4 b hb
   have q:=I4.ok.exf b (by rw[<- hX]; exact hb)
   exact⟨hn b hb,q.1,I4.ok.exfs b (by rw[<- hX]; exact hb), .inl (by rw[<- hX]; exact hb),q.2,fun p hp=>absurd hp (by rw[<- hX]; simp [blk])⟩
  have fr4:∀ b∈fp,H3 b=none:=fun b hb=>(f3 b hb).1
  unfold PG at hgb
  unfold PTs at htb
  unfold PE at heb
  rw[eP,ew,eA,ee,ex] at hgb htb heb
  refine jIF (fun n z=>∃ i σ' H' ys,Inv Xb [] σ' H' z/\tn i z.heap/\(∀ b∈fp,H' b=none)/\W i n σ' H' ys) ?_ n0 ⟨0,_,H3,[],I4,st4,fr4,w0⟩
  rintro n z ⟨i,σ5,H5,ys,I5,st5,fr5,w5⟩
  obtain⟨hD,hlen,way⟩:=turn i n σ5 H5 ys w5
  rcases way with ⟨stop,q⟩ | ⟨go,N,hN,step⟩
  ·have RR:=T.done Xb eP ew eK ec i [] z σ5 H5 (fun _ _=>False) I5 (stat fr5) st5 stop
   rw[eA] at RR
   refine thn RR fun r z1 ⟨hr,I6⟩=>?_
   subst hr
   obtain⟨mm,hn6,_⟩:=I6.loc
   rw[ee] at hn6
   have u6:Un (frs X.stack) fp H3 H5 s3.heap z1.heap:=by
    have:=I6.base
    rw[<- hX] at this
    exact this
   have fC:H5 s3.heap.objs.size=none:=by
    have:=I6.free
    rw[ee] at this
    exact this
   have hok6:HOk X.prog X.w H5 z1.heap:=by
    have:=I6.hok
    rw[eP,ew] at this
    exact this
   have os6:z1.os=s3.os:=by
    have:=I6.os
    rw[<- hX] at this
    exact this
   refine fin s2.heap.objs.size s3.heap.objs.size H5 z1 .next ⟨mm,hn6⟩ (I3.fpOk (ao _) fC) (fun h' sb=>?_) q
   refine I3.call' (s':= { z1 with heap:=h'}) (ch:=fp) os6 (u6.sameBut sb (ao _)) (hok6.sameBut sb fC) I6.bare (fun b hb=>?_)
   obtain⟨a0,a1,a2,a3,a4,a5⟩:=f3 b hb
   exact⟨a3,a1,a4,a5⟩
  ·have RR:=T.item Xb eP ew eK ec i [] z σ5 H5 (fun _ _=>False) I5 (stat fr5) st5 go
   rw[eA] at RR
   refine thn RR fun r z1 ⟨u,hr,h6⟩=>?_
   subst hr
   refine thn h6 fun _ z2 ⟨x,H7,I7,r7,y7,st7,fr7⟩=>?_
   have I7':=I7.pinned (stat fr7) (T.obj _ _ st7)
   refine thn (hgb _ z2 σ5 H7 x u _ I7' r7 (step x H7 y7)) fun _ z3 ⟨σ8,H8,I8,q8⟩=>?_
   refine thn (htb _ z3 σ8 H8 _ I8 q8) fun ok z4 ⟨H9,I9,q9⟩=>?_
   have again:∀ {σ7:St}{Hz:Hp}{zz:Shared}{yy:List V}{n':Nat},Inv Xb ([]++jF6 fp z2.heap) σ7 Hz zz->n'<n->W (i+1) n' σ7 Hz yy->∃ k,k<n/\∃ i σ' H' ys,Inv Xb [] σ' H' zz/\tn i zz.heap/\(∀ b∈fp,H' b=none)/\W i k σ' H' ys:=fun {σ7 Hz zz yy n'} Iz hn wz=>by
    refine⟨n',hn,i+1,σ7,Hz,yy,Iz.unpinned,T.keep _ _ _ st7 fun b hb o e=>(Iz.pin (b,o) (aW _ (aW _ (jB2 hb e)))).1,fun b hb=>?_,wz⟩
    obtain⟨o,e,d⟩:=T.obj _ _ st7 b hb
    exact(Iz.pin (b,o) (aW _ (aW _ (jB2 hb e)))).2.1
   cases ok with
   | false=>
    obtain⟨n',hn,w9⟩:=hN _ _ _ (show N σ8 H9 ys from q9)
    exact again I9 hn w9
   | true=>
    refine thn (heb _ z4 σ8 H9 _ I9 q9) fun xv z5 ⟨vv,H10,I10,r10,hD10,n10⟩=>?_
    obtain⟨n',hn,w10⟩:=hN _ _ _ n10
    have RR:=jFF (X:=Xb) _ z5 σ8 H10 (.ref s2.heap.objs.size) [vv] (.ref s2.heap.objs.size) [xv] (fun _ H'=>H'=upd H10 s2.heap.objs.size (.lst (ys++[vv]))) I10 rfl (.cons r10 .nil) ⟨_,ys,vv,rfl,rfl,hD10,hlen,rfl⟩
    rw[eP,ew,eA,ex] at RR
    refine thn RR fun _ z6 ⟨_,H11,I11,_,e11⟩=>?_
    subst e11
    exact again I11 hn w10
 exact codeAny_compStart_list loop (T.self _ 0 _ _ _ st4 loop)
theorem jGD (hc:X.calm=true)(hi:PI X tg iter wi)(hkind:sc.kind= .function)(hcell:∀ y∈sc.names,y.2≠ .cell)(hnames:∀ y∈sc.names,y.2= .local->sc.names.lookup y.1=some .local)
  (hfree:∀ y∈sc.names,y.2= .free->X.env.scope.names.lookup y.1=some .cell\/X.env.scope.names.lookup y.1=some .free) (hm:jCL X sc Nc m)
  (hg:∀ cl C fp s H,PG (blk X sc cl C Nc fp s H) tg g) (ht:∀ cl C fp s H,PTs (blk X sc cl C Nc fp s H) ifs tt) (he:∀ cl C fp s H,PE (blk X sc cl C Nc fp s H) elt te)
  (hs:∀ x,foldedSetIterable iter X.env x=pure x:=by intro _; rfl):PE X (.ListComp elt [⟨tg,iter,ifs,0⟩] sc pos) (tComp m wi g tt te):=by
 intro pins s σ H Q I h
 rw[eval_ListComp]
 exact jHP (tf:=fun _=>te) (use:=none) hc hi hkind hcell hnames hfree hm hg ht (fun cl C fp s H _ _ _ _=>he cl C fp s H) hs I h (fun D C H5 z1 r ⟨mm,hn⟩ fC sb q=>⟨mm,hn,fun h' s2=>⟨.ref D,H5,sb h' s2,rfl,q⟩⟩)
end
theorem yN {X:Cx}{sc psc:Scope}(h:(sc.names.all fun y=>decide (y.2= .free->psc.names.lookup y.1=some .cell\/psc.names.lookup y.1=some .free))=true)(e:X.env.scope=psc:=by rfl):
  ∀ y∈sc.names,y.2= .free->X.env.scope.names.lookup y.1=some .cell\/X.env.scope.names.lookup y.1=some .free:=by
 rw[e]
 intro y hy
 exact aj (aD.mp h y hy)
def jKU (sc:Scope)(N Nc:List Str)(m:List (Option Nat))(k:Nat):Bool:=match m[k]? with
 | some (some i)=>match Nc[k]? with
  | some x=>decide (N[i]?=some x)&&decide (sc.names.lookup x=some .free)
  | none=>false
 | _=>true
theorem kZ {X:Cx}{sc:Scope}{N Nc:List Str}{m:List (Option Nat)}(e:X.N=N)(hl:m.length=Nc.length)(h:((List.range m.length).all (jKU sc N Nc m))=true):jCL X sc Nc m:=by
 refine⟨hl,fun k i hk=>?_⟩
 have hlt:k<m.length:=(aV.mp hk).1
 have q:=aD.mp h k (bR.mpr hlt)
 unfold jKU at q
 rw[hk] at q
 cases e2:Nc[k]? with
 | none=>rw[e2] at q; cases q
 | some x=>
  rw[e2] at q
  have q:(decide (N[i]?=some x)&&decide (sc.names.lookup x=some .free))=true:=q
  rw[aL] at q
  exact⟨x,rfl,by rw[e]; exact aj q.1,aj q.2⟩
section
variable {m:List (Option Nat)}{g:TG}{tt:TT}{te:TE}{σ:St}{H1:Hp}{Q:VK}
theorem jCS {lo:Int}{n:Nat}(hn:n<sizeLine)(Pv:Addr->Nat->St->Hp->List V->Prop)(h0:∀ D,H1 D=none->Pv D 0 (blkσ m σ) (upd H1 D (.lst [])) [])
  (hD:∀ D i σ' H' ys,H1 D=none->i<=n->Pv D i σ' H' ys->H' D=some (.lst ys)/\ys.length<=i)
  (hs:∀ D i σ' H' ys,H1 D=none->i<n->Pv D i σ' H' ys->g (.int (lo+i)) σ' H' fun σ2 H2=>tt σ2 H2 fun b H3=>if b=true then te σ2 H3 fun v H4=>H4 D=some (.lst ys)/\Pv D (i+1) σ2 (upd H4 D (.lst (ys++[v]))) (ys++[v]) else Pv D (i+1) σ2 H3 ys)
  (hd:∀ D σ' H' ys,H1 D=none->Pv D n σ' H' ys->Q (.ref D) H'):CompW m g tt te σ Q (Itr lo n) H1:=by
 intro D hDn
 refine⟨fun i k σ' H' ys=>k=n - i/\i<=n/\Pv D i σ' H' ys,⟨n,rfl,aJ _,h0 D hDn⟩,?_⟩
 rintro i k σ' H' ys ⟨rfl,hi,p⟩
 obtain⟨q1,q2⟩:=hD D i σ' H' ys hDn hi p
 refine⟨q1,by omega,?_⟩
 by_cases hlt:i<n
 ·refine .inr ⟨hlt,Pv D (i+1),fun σ2 H2 zs z=>⟨n - (i+1),by omega,rfl,hlt,z⟩,fun x H'' y=>?_⟩
  obtain⟨e1,e2⟩:=y
  subst e1 e2
  exact hs D i σ' _ ys hDn hlt p
 ·have e:i=n:=by omega
  subst e
  exact .inl ⟨ao _,hd D σ' H' ys hDn p⟩
end
end L2
end
section
namespace SS
open PySem PySem.SetTable
abbrev Ris (xs:Array Nat):Prop:=xs.toList.Pairwise (· < ·)
theorem jC2 {xs:Array Nat}(h:Ris xs){a b:Nat}(hab:a<b)(hb:b<xs.size):xs.getD a 0<xs.getD b 0:=by
 have h1:a<xs.size:=eY hab hb
 have:=de.mp h a b (by simpa using h1) (by simpa using hb) hab
 simpa [Array.getD,h1,hb] using this
theorem jPP {xs:Array Nat}{j:Nat}(hr:Ris xs):∀ (fuel lo hi:Nat),hi - lo<=fuel->lo<=hi->hi<=xs.size->(∀ a,a<lo->xs.getD a 0<j)->(∀ a,hi<=a->a<xs.size->j<=xs.getD a 0)->
  (below.go xs j fuel lo hi<=xs.size/\(∀ a,a<below.go xs j fuel lo hi->xs.getD a 0<j)/\(∀ a,below.go xs j fuel lo hi<=a->a<xs.size->j<=xs.getD a 0)):=by
 intro fuel
 induction fuel with
 | zero=>
  intro lo hi h1 h2 h3 h4 h5
  have e:lo=hi:=by omega
  subst e
  exact⟨h3,h4,h5⟩
 | succ fuel ih=>
  intro lo hi h1 h2 h3 h4 h5
  unfold below.go
  by_cases hlt:lo<hi
  ·rw[aA hlt]
   have hm:(lo+hi) / 2<xs.size:=by omega
   have e:xs.getD ((lo+hi) / 2) j=xs.getD ((lo+hi) / 2) 0:=by simp [Array.getD,hm]
   dsimp only
   rw[e]
   by_cases hc:xs.getD ((lo+hi) / 2) 0<j
   ·rw[aA hc]
    refine ih _ _ (by omega) (by omega) h3 (fun a ha=>?_) h5
    by_cases e2:a=(lo+hi) / 2
    ·rw[e2]; exact hc
    ·exact eY (jC2 hr (by omega) hm) hc
   ·rw[aB hc]
    refine ih _ _ (by omega) (by omega) (by omega) h4 (fun a ha hs=>?_)
    by_cases e2:a=(lo+hi) / 2
    ·rw[e2]; omega
    ·have:=jC2 hr (show (lo+hi) / 2<a by omega) hs
     omega
  ·rw[aB hlt]
   have e:lo=hi:=by omega
   subst e
   exact⟨h3,h4,h5⟩
theorem jDY {xs:Array Nat}(hr:Ris xs)(j:Nat):below xs j<=xs.size/\(∀ a,a<below xs j->xs.getD a 0<j)/\(∀ a,below xs j<=a->a<xs.size->j<=xs.getD a 0):=
 jPP hr xs.size 0 xs.size (by omega) (aJ _) (ao _) (fun a h=>absurd h (gu _)) (fun a h1 h2=>absurd h2 (by omega))
theorem jEO {xs:Array Nat}(hr:Ris xs){j i:Nat}(hi:i<=xs.size)(h1:∀ a,a<i->xs.getD a 0<j)(h2:∀ a,i<=a->a<xs.size->j<=xs.getD a 0):below xs j=i:=by
 obtain⟨b1,b2,b3⟩:=jDY hr j
 rcases Nat.lt_trichotomy (below xs j) i with h | h | h
 ·have q1:=h1 _ h
  have q2:=b3 _ (ao _) (by omega)
  omega
 ·exact h
 ·have q1:=b2 _ h
  have q2:=h2 _ (ao _) (by omega)
  omega
theorem jA9 {α:Type}(xs:Array α)(p:Nat)(x:α):(insertAt xs p x).toList=xs.toList.take p++x::xs.toList.drop p:=by
 unfold insertAt
 simp [gH,List.extract]
 rw[bU (by simp)]
theorem jBN {α:Type}(xs:Array α)(p:Nat)(x:α):(insertAt xs p x).size=xs.size+1:=by
 rw[<- bh,jA9]
 simp
 omega
theorem jI1 {xs:Array Nat}{j:Nat}(hr:Ris xs)(hj:j∉xs.toList):Ris (insertAt xs (below xs j) j):=by
 obtain⟨b1,b2,b3⟩:=jDY hr j
 show (insertAt xs (below xs j) j).toList.Pairwise (· < ·)
 rw[jA9,gI,gY]
 have hl:∀ a∈xs.toList.take (below xs j),a<j:=by
  intro a ha
  obtain⟨i,hi,e⟩:=List.mem_take_iff_getElem.mp ha
  have:=b2 i (by omega)
  have hs:i<xs.size:=by simp at hi; omega
  simp [Array.getD,hs] at this
  simp at e
  omega
 have hg:∀ a∈xs.toList.drop (below xs j),j<a:=by
  intro a ha
  obtain⟨i,hi,e⟩:=List.mem_drop_iff_getElem.mp ha
  have hs:i+below xs j<xs.size:=by simpa [g8] using hi
  have:=b3 (i+below xs j) (by omega) hs
  simp [Array.getD,hs] at this
  have e':xs[i+below xs j]=a:=by simpa [g8] using e
  have hne:a≠j:=by
   intro z
   apply hj
   rw[<- z]
   exact cU ha
  omega
 refine⟨hr.sublist (fq _ _),⟨hg,hr.sublist (List.drop_sublist _ _)⟩,?_⟩
 intro a ha b hb
 rcases av.mp hb with rfl | hb
 ·exact hl a ha
 ·exact eY (hl a ha) (hg b hb)
theorem jD3 {t:SetTable}{j:Nat}(hr:Ris t.place)(h:t.slot j= .empty):j∉t.place.toList:=by
 intro hm
 obtain⟨i,hi,e⟩:=ce hm
 have hs:i<t.place.size:=by simpa using hi
 have e0:t.place[i]=j:=by simpa using e
 have eb:below t.place j=i:=by
  refine jEO hr (dD hs) (fun a ha=>?_) (fun a h1 h2=>?_)
  ·have:=jC2 hr ha hs
   simp only [Array.getD,hs] at this ⊢
   simp [e0] at this ⊢
   exact this
  ·by_cases e2:a=i
   ·subst e2
    simp [Array.getD,hs,e0]
   ·have:=jC2 hr (show i<a by omega) h2
    simp only [Array.getD,hs] at this
    simp [e0] at this
    simp [Array.getD]
    omega
 unfold SetTable.slot at h
 dsimp only at h
 rw[eb] at h
 rw[aA (by simp [hs,e0])] at h
 cases h
theorem jGN (j:Nat):has #[] j=false:=by
 unfold has
 simp
theorem jH2 {t:SetTable}(hd:t.dummies=#[]){f:Nat->Int}{h:Int} :∀ (fuel:Nat) (p:Probe) (m:Met),p.dummy=none->probe.go t f h fuel p=some m->
  (∃ j,m= .empty j none/\t.slot j= .empty)\/(∃ j i n,m= .candidate j i n):=by
 intro fuel
 induction fuel with
 | zero=>intro p m _ e; simp [probe.go] at e
 | succ fuel ih=>
  intro p m hp e
  unfold probe.go at e
  cases hs:t.slot p.j with
  | empty=>
   rw[hs] at e
   simp only [fw] at e
   subst e
   exact .inl ⟨p.j,by rw[hp],hs⟩
  | dummy=>
   unfold SetTable.slot at hs
   dsimp only at hs
   rw[hd,jGN] at hs
   split at hs
   ·cases hs
   ·simp at hs
  | live i=>
   rw[hs] at e
   dsimp only at e
   split at e
   ·simp only [fw] at e
    subst e
    exact .inr ⟨_,_,_,rfl⟩
   ·refine ih _ _ ?_ e
    unfold advance
    split
    ·exact hp
    ·exact hp
theorem jEH {t:SetTable}(hr:Ris t.place)(hd:t.dummies=#[]){h:Int}{slot:Nat}{d:Bool}(e:t.freeSlot h=some (slot,d)):slot∉t.place.toList:=by
 unfold SetTable.freeSlot at e
 split at e
 ·rename_i j dummy hp
  simp only [fw,Prod.mk.injEq] at e
  have hp':probe.go t (fun _=>h+1) h (10*turns t.mask) (t.probeStart h)=some (.empty j dummy):=hp
  rcases jH2 hd _ _ _ (by unfold probeStart; rfl) hp' with ⟨j',em,hs⟩ | ⟨_,_,_,em⟩
  ·cases em
   have:slot=j:=by rw[<- e.1]; rfl
   rw[this]
   exact jD3 hr hs
  ·cases em
 ·cases e
theorem jI0 {t:SetTable}{j:Nat}(hd:t.dummies=#[])(h:t.slot j≠ .empty):(∃ i,t.slot j= .live i)/\j∈t.place.toList:=by
 unfold SetTable.slot at h ⊢
 dsimp only at h ⊢
 by_cases q:(t.place[below t.place j]?==some j)=true
 ·rw[aA q]
  refine⟨⟨_,rfl⟩,?_⟩
  have e:t.place[below t.place j]?=some j:=eq_of_beq q
  obtain⟨hi,e⟩:=cV.mp e
  rw[<- e]
  exact Array.getElem_mem_toList hi
 ·rw[aB q,hd,jGN] at h
  exact absurd rfl h
theorem run7 (i:Nat):runEnd 7 i=i:=by unfold runEnd; rw[aB (by omega)]
theorem jJ9 {t:SetTable}(hm:t.mask=7)(hd:t.dummies=#[]){h:Int} :∀ (k fuel:Nat) (p:Probe),p.j=p.i->p.more=0->p.i<8->p.perturb<32->k<=fuel->
  probe.go t (fun _=>h+1) h fuel p=none->∀ r,r<k->Nat.repeat (fun i=>(i*5+1) % 8) r p.i∈t.place.toList:=by
 intro k
 induction k with
 | zero=>intro fuel p _ _ _ _ _ _ r hr; omega
 | succ k ih=>
  intro fuel p h1 h2 h3 h4 h5 h6 r hr
  obtain⟨f,rfl⟩:∃ f,fuel=f+1:=⟨fuel - 1,by omega⟩
  unfold probe.go at h6
  by_cases he:t.slot p.j= .empty
  ·rw[he] at h6; cases h6
  ·obtain⟨⟨i,hl⟩,hmem⟩:=jI0 hd he
   rw[hl] at h6
   dsimp only at h6
   rw[aB (by simp; omega)] at h6
   have hz:p.perturb / 32=0:=by omega
   have ea:t.advance p= { p with j:=(p.i*5+1) % 8,more:=0,i:=(p.i*5+1) % 8,perturb:=0} :=by
    unfold advance leap
    rw[aB (by omega),hm,hz]
    simp [run7]
   rw[ea] at h6
   cases r with
   | zero=>show p.i∈_; rw[<- h1]; exact hmem
   | succ r=>
    have q:=ih f _ (by rfl) (by rfl) (by show (p.i*5+1) % 8<8; omega) (by show 0<32; omega) (by omega) h6 r (by omega)
    have e:∀ (r i:Nat),Nat.repeat (fun i=>(i*5+1) % 8) (r+1) i=Nat.repeat (fun i=>(i*5+1) % 8) r ((i*5+1) % 8):=by
     intro r
     induction r with
     | zero=>intro i; rfl
     | succ r ihr=>
      intro i
      show ((Nat.repeat _ (r+1) i)*5+1) % 8=((Nat.repeat _ r ((i*5+1) % 8))*5+1) % 8
      rw[ihr]
    rw[e]
    exact q
theorem jLM:∀ i,i<8->∀ j,j<8->∃ r,r<8/\Nat.repeat (fun i=>(i*5+1) % 8) r i=j:=by decide+kernel
theorem jEG {t:SetTable}(hm:t.mask=7)(hd:t.dummies=#[])(hz:t.place.size<8){h:Int}(h0:0<=h)(h1:h<32):∃ q,t.freeSlot h=some q:=by
 unfold SetTable.freeSlot
 have hb:bits h<32:=by unfold bits; omega
 have hps:t.probeStart h= { j:=bits h % 8,more:=0,i:=bits h % 8,perturb:=bits h,dummy:=none} :=by
  unfold probeStart
  rw[hm]
  simp [run7]
 cases e:t.probe (fun _=>h+1) h (t.probeStart h) with
 | none=>
  exfalso
  have e':probe.go t (fun _=>h+1) h (10*turns t.mask) (t.probeStart h)=none:=e
  rw[hps] at e'
  have q:=jJ9 hm hd 8 _ _ (by rfl) (by rfl) (by show bits h % 8<8; omega) (by exact hb) (by rw[hm]; decide) e'
  have sub:List.range 8 ⊆ t.place.toList:=by
   intro j hj
   obtain⟨r,hr,er⟩:=jLM (bits h % 8) (by omega) j (bR.mp hj)
   rw[<- er]
   exact q r hr
  have:=List.Nodup.length_le_of_subset (List.nodup_range (n:=8)) sub
  simp at this
  omega
 | some m=>
  rcases jH2 hd _ _ _ (by rw[hps]) (show probe.go t (fun _=>h+1) h (10*turns t.mask) (t.probeStart h)=some m from e) with ⟨j,rfl,_⟩ | ⟨j,i,n,rfl⟩
  ·exact⟨_,rfl⟩
  ·exfalso
   have nc:∀ (fuel:Nat) (p:Probe) (j i:Nat) (n:Probe),probe.go t (fun _=>h+1) h fuel p≠some (.candidate j i n):=by
    intro fuel
    induction fuel with
    | zero=>intro p j i n; simp [probe.go]
    | succ f ih=>
     intro p j i n
     unfold probe.go
     cases t.slot p.j with
     | empty=>simp
     | dummy=>exact ih _ _ _ _
     | live i'=>
      dsimp only
      rw[aB (by simp; omega)]
      exact ih _ _ _ _
   exact nc _ _ _ _ _ e
structure Tab (t:SetTable)(n:Nat)(led:Bool):Prop where
 ris:Ris t.place
 sz:t.place.size=n
 dm:t.dummies=#[]
 msk:t.mask=7
 pl:t.plain=true
 ld:t.led=led
theorem Tab.fits {t:SetTable}{n:Nat}{led:Bool}(T:Tab t n led)(hn:n<=4):t.fits n=true:=by
 unfold SetTable.fits fill
 simp [T.sz,T.dm,T.msk]
 omega
theorem Tab.full {t:SetTable}{n:Nat}{led:Bool}(T:Tab t n led)(hn:n<=4):t.tooFull=false:=by
 unfold tooFull fill
 simp [T.sz,T.dm,T.msk]
 omega
theorem jIP (led:Bool):Tab (fresh 0 0 led) 0 led:=⟨List.Pairwise.nil,rfl,rfl,rfl,rfl,rfl⟩
theorem jIB {t:SetTable}{n:Nat}{led:Bool}(T:Tab t n led)(hn:n+1<=4)(es:Array (Int×Value))(he:es.size=n){h:Int}(h0:0<=h)(h1:h<32)(x:Value):
  Tab (layNew t es h x).2.1 (n+1) led/\∃ p,(layNew t es h x).1.toList=es.toList.take p++(h,x)::es.toList.drop p:=by
 obtain⟨⟨slot,d⟩,hf⟩:=jEG T.msk T.dm (by rw[T.sz]; omega) h0 h1
 unfold layNew
 rw[hf]
 dsimp only [SetTable.put]
 have hnm:=jEH T.ris T.dm hf
 have T2:Tab { t with place:=insertAt t.place (below t.place slot) slot,dummies:=if has t.dummies slot then eraseAt t.dummies (below t.dummies slot) else t.dummies} (n+1) led:=by
  refine⟨jI1 T.ris hnm,by rw[jBN,T.sz],?_,T.msk,T.pl,T.ld⟩
  rw[T.dm,jGN]
  rfl
 refine⟨?_,_,jA9 _ _ _⟩
 unfold SetTable.orStandIn
 rw[jBN,he,T2.fits hn]
 exact T2
def jGW (xs:Array Nat):Nat->Nat
 | 0=>0
 | i+1=>xs.getD i 0+1
theorem jG2 {xs:Array Nat}(hr:Ris xs){i:Nat}(hi:i<=xs.size):below xs (jGW xs i)=i:=by
 cases i with
 | zero=>exact jEO hr (aJ _) (fun a h=>absurd h (gu _)) (fun a _ _=>aJ _)
 | succ i=>
  refine jEO hr hi (fun a ha=>?_) (fun a h1 h2=>?_)
  ·show _<xs.getD i 0+1
   by_cases e:a=i
   ·rw[e]; omega
   ·have:=jC2 hr (show a<i by omega) (show i<xs.size by omega)
    omega
  ·show xs.getD i 0+1<=_
   exact jC2 hr (show i<a by omega) h2
theorem jIE {α:Type}{l:List α}{i:Nat}(h:i<l.length):(l[i]::l.eraseIdx i).Perm l:=by
 rw[List.eraseIdx_eq_take_drop_succ]
 have e:l=l.take i++l[i]::l.drop (i+1):=by rw[<- df h,dP]
 conv=>rhs; rw[e]
 exact List.perm_middle.symm
theorem jON {α:Type}(next:Nat->Nat):∀ (fuel k:Nat) (left:List α) (out:Array α),fuel=left.length->(pickOrder.go next fuel k left out).toList.Perm (out.toList++left):=by
 intro fuel
 induction fuel with
 | zero=>
  intro k left out h
  have:left=[]:=bc.mp h.symm
  subst this
  simp [pickOrder.go]
 | succ f ih=>
  intro k left out h
  have hl:next k % left.length<left.length:=Nat.mod_lt _ (by omega)
  unfold pickOrder.go
  rw[bB hl]
  dsimp only
  refine(ih _ _ _ (by rw[List.length_eraseIdx_of_lt hl]; omega)).trans ?_
  rw[Array.toList_push,fz]
  exact List.Perm.append_left _ (jIE hl)
theorem jF9 {α:Type}(next:Nat->Nat)(xs:Array α):(pickOrder next xs).toList.Perm xs.toList:=by
 unfold pickOrder
 have:=jON next xs.size 0 xs.toList #[] (by simp)
 simpa using this
end SS
end
section
namespace SS
open PySem
abbrev ledW (w:World):Bool:=!(w.params.followText "set-order")
def El (e:Int×Value)(k:Int):Prop:=e.1=hashInt k/\∃ t,e.2= .int k t
theorem jBD {α β:Type}{F:α->β->Prop} :∀ {l:List α}{r:List β},Paired F l r->∀ a∈l,∃ b∈r,F a b
 | _,_, .nil=>fun a h=>by cases h
 | _,_, .cons f t=>fun a h=>by
  rcases av.mp h with rfl | h
  ·exact⟨_,am,f⟩
  ·obtain⟨b,hb,q⟩:=jBD t a h
   exact⟨b,ar _ hb,q⟩
theorem jCD {α β:Type}{F:α->β->Prop} :∀ {l:List α}{r:List β},Paired F l r->∀ b∈r,∃ a∈l,F a b
 | _,_, .nil=>fun a h=>by cases h
 | _,_, .cons f t=>fun b h=>by
  rcases av.mp h with rfl | h
  ·exact⟨_,am,f⟩
  ·obtain⟨a,ha,q⟩:=jCD t b h
   exact⟨a,ar _ ha,q⟩
theorem jDQ {α β:Type}{F:α->β->Prop}{a:α}{b:β}(f:F a b):∀ {l:List α}{r:List β}(p:Nat),Paired F l r->Paired F (l.take p++a::l.drop p) (r.take p++b::r.drop p)
 | _,_,0,q=>by simpa using Paired.cons f q
 | _,_,p+1, .nil=>by simpa using Paired.cons f .nil
 | _,_,p+1, .cons g t=>by
  simp only [List.take_succ_cons,List.drop_succ_cons,List.cons_append]
  exact .cons g (jDQ f p t)
theorem jOH {α:Type}(l:List α)(p:Nat)(x z:α):z∈l.take p++x::l.drop p↔z=x\/z∈l:=by
 conv=>rhs; rw[<- dP p l]
 simp only [bJ,av]
 constructor
 ·rintro (h | h | h)
  ·exact .inr (.inl h)
  ·exact .inl h
  ·exact .inr (.inr h)
 ·rintro (h | h | h)
  ·exact .inr (.inl h)
  ·exact .inl h
  ·exact .inr (.inr h)
theorem jE3 {α:Type}(l:List α)(p:Nat)(x:α):(l.take p++x::l.drop p).Perm (x::l):=by
 have h:(l.take p++x::l.drop p).Perm (x::(l.take p++l.drop p)):=List.perm_middle
 rw[dP] at h
 exact h
structure SetG (w:World)(h:Heap)(a:Addr)(ks:List Int):Prop where
 ex:∃ o es ep t,h.get? a=some o/\o.ExactSet/\o.data= .set es ep t/\Paired El es.toList ks/\Tab t es.size (ledW w)
 nd:ks.Nodup
 len:ks.length<=4
section
variable {prog:Program}{w:World}{A:Around}{E:Value->Shared->Prop}{s:Shared}{a:Addr}{ks:List Int}{k:Int}{tk:Tok}
theorem elems {es:List (Int×Value)}(h:Paired El es ks):ElemsOf (intKind prog w) es:=fun e he=>by
 obtain⟨k,_,h1,t,h2⟩:=jBD h e he
 rw[h2]
 exact⟨⟨k,by show Value.isInt k (.int k t)=true; simp [Value.isInt],h1⟩,rfl⟩
theorem SetG.at {h h':Heap}(S:SetG w h a ks)(e:∀ o,h.get? a=some o->h'.get? a=some o):SetG w h' a ks:=by
 obtain⟨⟨o,es,ep,t,ho,r⟩,nd,len⟩:=S
 exact⟨⟨o,es,ep,t,e _ ho,r⟩,nd,len⟩
theorem jBW (k0:0<=k)(k1:k<32):hashInt k=k:=by
 obtain⟨n,rfl⟩:=Int.eq_ofNat_of_zero_le k0
 have e:∀ n:Nat,n<32->hashInt (n:Int)=(n:Int):=by decide+kernel
 exact e n (by omega)
theorem jRR {Q:Bool->Shared->Prop}(S:SetG w s.heap a ks)(hl:ks.length+1<=4)(k0:0<=k)(k1:k<32)
  (h:∀ b h' ks',Heap.SameBut a s.heap h'->SetG w h' a ks'->(∀ z,z∈ks'↔z=k\/z∈ks)->ks'.length<=ks.length+1->Q b { s with heap:=h'}):
  wpAny (model prog w) A (setAddHashed a (.int k tk) (hashInt k)) Q E s:=by
 obtain⟨o,es,ep,t,ho,hex,hd,hp,T⟩:=id S.ex
 have hn:es.size=ks.length:=by rw[<- bh]; exact Paired.length hp
 have hf:=T.fits (by omega)
 have hel:ElemsOf (intKind prog w) es.toList:=elems hp
 have hb:es.size<scanBound:=by unfold scanBound; omega
 have hi:∀ (j:Int) (t:Tok),Value.isInt k (.int j t)=true->j=k:=fun j t e=>by simpa [Value.isInt] using e
 unfold setAddHashed setAddHashedIn
 refine be (aa (cc ho hd hf ?_))
 dsimp only
 rw[byScan_of (knd:=intKind prog w) rfl hb hel,aA rfl]
 unfold setAddByScan
 refine aa (aa (dX (aa ?_)))
 refine wpAny_setScan_of (knd:=intKind prog w) (k:=k) (by show Value.isInt k (.int k tk)=true; simp [Value.isInt]) ho hd hf hel ?_
 have es0:s= { s with heap:=s.heap} :=by cases s; rfl
 cases hr:List.findIdx? (fun e=>(intKind prog w).is k e.2) es.toList with
 | some j=>
  obtain⟨hj,hpj,_⟩:=List.findIdx?_eq_some_iff_getElem.mp hr
  obtain⟨k',hk',_,t',e'⟩:=jBD hp _ (ck hj)
  have hkk:k'=k:=hi k' t' (by rw[<- e']; exact hpj)
  subst hkk
  refine ag (ag ?_)
  rw[es0]
  exact h false s.heap ks (Heap.SameBut.refl a s.heap) S (fun z=>⟨.inr,fun q=>q.elim (fun e=>e ▸ hk') id⟩) (by omega)
 | none=>
  have hnk:k∉ks:=fun hm=>by
   obtain⟨e,he,_,t',e'⟩:=jCD hp k hm
   have q:=List.findIdx?_eq_none_iff.mp hr e he
   rw[e'] at q
   have q':Value.isInt k (.int k t')=false:=q
   simp [Value.isInt] at q'
  obtain⟨T1,p,hp1⟩:=jIB T (by omega) es rfl (h:=hashInt k) (by rw[jBW k0 k1]; exact k0) (by rw[jBW k0 k1]; exact k1) (.int k tk)
  dsimp only
  show wpAny _ A (match layNew t es (hashInt k) (Value.int k tk) with | (es,t,wasDummy,gave)=>_) _ E s
  generalize layNew t es (hashInt k) (Value.int k tk)=L at T1 hp1 ⊢
  obtain⟨es1,t1,wd,gv⟩:=L
  dsimp only at T1 hp1 ⊢
  have hp2:Paired El es1.toList (ks.take p++k::ks.drop p):=by
   rw[hp1]
   exact jDQ ⟨rfl,tk,rfl⟩ p hp
  have hz1:es1.size=es.size+1:=by
   rw[<- bh,hp1,(jE3 es.toList p (hashInt k,Value.int k tk)).length_eq]
   simp
  have hlen:(ks.take p++k::ks.drop p).length=ks.length+1:=(jE3 ks p k).length_eq
  have T1':Tab t1 es1.size (ledW w):=by rw[hz1]; exact T1
  have hg:(s.heap.update a (Obj.putSet es1 t1)).get? a=some { o with data:= .set es1 (ep+1) t1} :=by
   have q:=bo (Obj.putSet es1 t1) ho (by rw[putSet_of es1 t1 hd]; rfl)
   rw[putSet_of es1 t1 hd] at q
   exact q
  have fin:Q true { s with heap:=s.heap.update a (Obj.putSet es1 t1)} :=
   h true _ _ (eV ..) ⟨⟨_,es1,ep+1,t1,hg,hex,rfl,hp2,T1'⟩,(jE3 ks p k).nodup_iff.mpr (dw.mpr ⟨hnk,S.nd⟩),by omega⟩ (fun z=>jOH ks p k z) (by omega)
  have hfull:t1.tooFull=false:=T1'.full (by omega)
  refine aa (show wpAny _ A (match gv with | true=>rule "set.scan.the-table-gave-way" | false=>pure ()) _ E s from ?_)
  have hzl:es1.size<=sizeLine:=by rw[hz1,show sizeLine=2 ^ 24 from rfl]; omega
  cases gv with
  | true=>
   refine dX ?_
   split
   all_goals
    refine aa (show wpAny _ A (pure true:Sem Bool) _ E s from ag ?_)
    simp only [ef]
    refine aa (wpAny_storeSet_of ho hd ?_ hzl)
    rw[hfull,aX,aB aw]
    exact ag (ag fin)
  | false=>
   refine ag ?_
   split
   all_goals
    refine aa (show wpAny _ A (pure true:Sem Bool) _ E s from ag ?_)
    simp only [ef]
    refine aa (wpAny_storeSet_of ho hd ?_ hzl)
    rw[hfull,aX,aB aw]
    exact ag (ag fin)
end
theorem jB9:entryFor table "set.update.loop" =some Builtin.«set.update.loop»:=entryFor_of_fast (by kernel_rfl)
theorem jAH:plainId "set.update.loop" =true:=by decide+kernel
section
variable {prog:Program}{w:World}{A:Around}{R:Result->Shared->Prop}{I:Addr}{fp wr:List Addr}{n:Nat}{P:Nat->Value->Prop}{St:Nat->Shared->Prop}
theorem jLT (W:WalksS prog w A.in1 I fp wr (fun a b=>b=a) n P St)(S:Addr)(hSf:S∉fp)(val:Nat->Int)(hval:∀ i v,P i v->∃ t,v= .int (val i) t)(hv:∀ i,i<n->0<=val i/\val i<32)(hn:n<=4):
  ∀ (k i:Nat) (s:Shared) (ks:List Int),n - i=k->i<=n->St i s->SetG w s.heap S ks->ks.length<=i->(∀ z,z∈ks↔∃ j,j<i/\val j=z)->
   (∀ s' ks',Moved (S::wr) (fun a b=>b=a) s s'->SetG w s'.heap S ks'->(∀ z,z∈ks'↔∃ j,j<n/\val j=z)->R (.ok (.ret .none)) s')->
   codeAny (model prog w) A (.builtin "set.update.loop" ⟨[.ref S, .ref I],[]⟩) R s:=by
 have hSw:S∉wr:=fun h=>hSf (W.sub _ h)
 have sub1:∀ b∈wr,b∈S::wr:=fun b hb=>ar _ hb
 intro k
 induction k with
 | zero=>
  intro i s ks hk hi hst hS hl hm hR
  obtain rfl:i=n:=by omega
  refine cJ jB9 ?_
  rw[cv jAH _]
  show wpAny _ A.in1 (pyNext (.ref I) >>= _) _ _ s
  refine aa (W.done s _ _ hst fun s' mv=>?_)
  show wpAny _ A.in1 (ret Value.none) _ _ s'
  exact ag (hR s' ks (mv.mono sub1) (hS.at fun o e=>mv.heap S o hSw e) hm)
 | succ k ih=>
  intro i s ks hk hi hst hS hl hm hR
  have hlt:i<n:=by omega
  refine cJ jB9 ?_
  rw[cv jAH _]
  show wpAny _ A.in1 (pyNext (.ref I) >>= _) _ _ s
  refine aa (W.item i s _ _ hlt hst fun v s' hP hst' mv=>?_)
  obtain⟨t,rfl⟩:=hval i v hP
  have hS':=hS.at (h':=s'.heap) fun o e=>mv.heap S o hSw e
  show wpAny _ A.in1 (holding [Value.int (val i) t] (setAdd S (.int (val i) t)) >>= _) _ _ s'
  refine aa (be ?_)
  unfold setAdd
  refine be (aa (wpAny_pyHash_int ?_))
  refine jRR (s:= { s' with toks:=s'.toks+1}) hS' (by omega) (hv i hlt).1 (hv i hlt).2 fun b h' ks' sb hS2 hm2 hl2=>?_
  refine ag ⟨fO jAH _,ih (i+1) _ ks' (by omega) hlt (W.frame _ s' _ _ hst' (gJ _) fun b hb o e=>?_) hS2 (by omega) (fun z=>?_) fun s'' ks'' mv2 hS3 hm3=>?_⟩
  ·rw[sb.2 b (fun h:b=S=>hSf (by rw[<- h]; exact hb))]
   exact e
  ·rw[hm2,hm]
   constructor
   ·rintro (h | ⟨j,hj,e⟩)
    ·exact⟨i,by omega,h.symm⟩
    ·exact⟨j,by omega,e⟩
   ·rintro ⟨j,hj,e⟩
    by_cases hji:j=i
    ·exact .inl (by rw[<- e,hji])
    ·exact .inr ⟨j,by omega,e⟩
  ·refine hR s'' ks'' (Moved.trans W.gtrans ((mv.mono sub1).then_heap (gJ _) fun b o hb e=>?_) mv2) hS3 hm3
   rw[sb.2 b (fun h:b=S=>hb (by rw[h]; exact am))]
   exact e
end
section
variable {prog:Program}{w:World}{A:Around}{E:Value->Shared->Prop}{s:Shared}
theorem jPE (a:Value){Q:Value->Shared->Prop}
  (h:Q (.ref s.heap.objs.size) { s with heap:=s.heap.push { cls:= .type "set",dict:=none,data:= .set #[] 0 (.fresh 0 0 (ledW w))}}):
  codeAny (model prog w) A (.call (.builtin "set.__new__") ⟨[.type "set",a],[]⟩) (wants Q E) s:=by
 refine gx (show wpAny _ A.in1 (do checkBuiltinCall "set.__new__" ⟨[.type "set",a],[]⟩; again (.builtin "set.__new__" ⟨[.type "set",a],[]⟩)) _ _ s from ?_)
 refine aa (fA (F.newCall_set_1 a) (ag ⟨fO F.plain_set_new _,cJ F.entry_set_new ?_⟩))
 rw[cv F.plain_set_new _]
 unfold Builtin.«set.__new__» Builtin.Frozenset.newClass
 have q:=sub_set_self
 obtain⟨hp,g,d,tk,os⟩:=s
 dsimp only
 wp_walk
 refine db (ag ?_)
 dsimp only
 simp only [newObj]
 exact aa (wpAny_alloc (ag (ag h)))
set_option maxHeartbeats 3200000 in
theorem set_of_list {l:Addr}{items:Array Value}{ns:List Int}{Q:Value->Shared->Prop}(hh:A.handled=none)(hl:s.heap.IsList l items)(hi:PyProof.Rows.IntsAre items.toList ns)
  (hn:items.size<=4) (hv:∀ z∈ns,0<=z/\z<32)
  (h:∀ (h':Heap) (tk:Nat) (ks:List Int),SetG w h' s.heap.objs.size ks->(∀ z,z∈ks↔z∈ns)->(∀ b o,s.heap.get? b=some o->h'.get? b=some o)->Q (.ref s.heap.objs.size) { s with heap:=h',toks:=tk}):
  wpAny (model prog w) A (call (.type "set") [.ref l]) Q E s:=by
 obtain⟨c,tl,hmro⟩:=F.called_set.mro
 have hmade:=F.called_set.made
 have hsub:=F.called_set.sub
 have g1:=F.called_set.notType
 have g2:=F.called_set.canCreate
 have g3:=F.typeCall_set_1 (.ref l)
 refine cF (gx (show wpAny _ _ (callAny (.type "set") _) _ _ _ from ?_))
 refine ag ⟨fk _ (by decide+kernel),cJ F.entry_type_call ?_⟩
 rw[Around.under_plain (weight_type_call_type "set" [.ref l] []) rfl]
 repeat (any_goals (first | assumption | wp_step))
 have hlen:items.size=ns.length:=by rw[<- bh]; exact hi.length
 refine cG (jPE (.ref l) (E:=E) (Q:=fun obj z=>obj= .ref s.heap.objs.size/\z= { s with heap:=s.heap.push { cls:= .type "set",dict:=none,data:= .set #[] 0 (.fresh 0 0 (ledW w))}}) ⟨rfl,rfl⟩) fun r z hr=>?_
 cases r with
 | error e=>exact hr
 | ok fl=>
  cases fl with
  | ret obj=>
   obtain⟨rfl,rfl⟩:=hr
   generalize hO:({ cls:= .type "set",dict:=none,data:= .set #[] 0 (.fresh 0 0 (ledW w))} :Obj)=oS
   have hS:(s.heap.push oS).get? s.heap.objs.size=some oS:=ay _ (by rw[<- hO]; rfl)
   have hT:Shared.TypeIs { s with heap:=s.heap.push oS} (.ref s.heap.objs.size) "set" :=⟨_,hS,by rw[<- hO]⟩
   have hli:=F.called_set.init.lookup
   have hbi:=F.called_set.init.bind (.ref s.heap.objs.size)
   repeat (any_goals (first | assumption | wp_step))
   refine cG (cw (R:=wants (fun r z2=>r= .none/\∃ h' tk ks,z2= { s with heap:=h',toks:=tk} /\SetG w h' s.heap.objs.size ks/\(∀ z,z∈ks↔z∈ns)/\(∀ b o,s.heap.get? b=some o->h'.get? b=some o)) E)
    F.called_set.init.plain F.entry_set_init (check_set_init_1 hT ?_)) fun r2 z2 hr2=>?_
   ·obtain⟨ol,hol,hcl,nl,hdl⟩:=hl
    obtain⟨ocls,odict,odata,oslots⟩:=ol
    simp only at hcl hdl
    subst hcl; subst hdl
    have hol':(s.heap.push oS).get? l=some { cls:= .type "list",dict:=odict,data:= .seq items nl,slots:=oslots} :=ae _ hol
    have y1:=F.sub_list_set
    have y2:=F.sub_list_frozenset
    have y3:(Value.type "list" ==Value.type "dict")=false:=by decide
    have hl1:(s.heap.push oS).IsList l items:=⟨_,hol',rfl,nl,rfl⟩
    subst hO
    unfold Builtin.«set.__init__» noKeywords Builtin.Frozenset.updateFrom
    generalize hPI:pyIter=PI
    wp_walk
    subst hPI
    refine dF hl1 (aa (wpAny_runValue ?_))
    have hlS:l<s.heap.objs.size:=au hol
    have hz1:(s.heap.push { cls:= .type "set",dict:=none,data:= .set #[] 0 (.fresh 0 0 (ledW w))}).objs.size=s.heap.objs.size+1:=bT _ _
    have nI:l≠(s.heap.push { cls:= .type "set",dict:=none,data:= .set #[] 0 (.fresh 0 0 (ledW w))}).objs.size:=by
     rw[hz1]
     exact aN (cr hlS)
    have nS:s.heap.objs.size∉ [(s.heap.push { cls:= .type "set",dict:=none,data:= .set #[] 0 (.fresh 0 0 (ledW w))}).objs.size,l]:=by
     rw[hz1]
     simp only [av,bj,cK,not_or]
     exact⟨aN (Nat.lt_succ_self _),cE hlS⟩
    have hget:((s.heap.push { cls:= .type "set",dict:=none,data:= .set #[] 0 (.fresh 0 0 (ledW w))}).push { cls:= .type "list_iterator",data:= .fields #[.ref l, .int 0 0]}).get? s.heap.objs.size
      =some { cls:= .type "set",dict:=none,data:= .set #[] 0 (.fresh 0 0 (ledW w))} :=ae _ hS
    refine jLT ((Walks.list (by simp [hh]) _ l nI items).toS) s.heap.objs.size nS (fun i=>ns.getD i 0) (fun i v q=>PyProof.Rows.IntsAre.int_at hi i v (by rw[cn]; exact q))
     (fun i q=>hv _ ?_) hn (items.size - 0) 0 _ [] rfl (aJ _) ⟨⟨_,ay _ rfl,rfl,rfl⟩,hl1.push _⟩ ⟨⟨_,#[],0,_,hget,⟨rfl,rfl,rfl⟩,rfl, .nil,jIP _⟩,List.nodup_nil,aJ _⟩ (ao _) (fun z=>⟨fun q=>by(cases q),fun ⟨j,q,_⟩=>absurd q (gu _)⟩) ?_
    ·have q':i<ns.length:=by rw[<- hlen]; exact q
     simp [List.getD,q']
    ·intro s' ks mv S' hm
     obtain⟨h',g',d',tk',os'⟩:=s'
     have e1:g'=s.gens:=mv.gens
     have e2:d'=s.drawn:=mv.drawn
     have e3:os'=s.os:=mv.os
     subst e1; subst e2; subst e3
     refine ag (ag ⟨rfl,h',tk',ks,rfl,S',fun z=>?_,fun b o e=>?_⟩)
     ·rw[hm]
      constructor
      ·rintro ⟨j,hj,e⟩
       have hj':j<ns.length:=by rw[<- hlen]; exact hj
       rw[<- e]
       simp [List.getD,hj']
      ·intro hz
       obtain⟨j,hj,e⟩:=ce hz
       exact⟨j,by rw[hlen]; exact hj,by simp [List.getD,hj,e]⟩
     ·have hb:=au e
      refine mv.heap b o ?_ (ae _ (ae _ e))
      rw[hz1]
      simp only [av,bj,cK,not_or]
      exact⟨aN hb,aN (cr hb)⟩
   ·cases r2 with
    | error e=>exact hr2
    | ok fl2=>
     cases fl2 with
     | ret r=>
      obtain⟨rfl,h',tk,ks,rfl,hS',hm,hk⟩:=hr2
      repeat (any_goals (first | assumption | wp_step))
      exact h _ _ _ hS' hm hk
     | _=>exact hr2.elim
  | _=>exact hr.elim
end
theorem slot_si_next:Slot "set_iterator" "__next__" "set_iterator.__next__" :=
 .of (owner:= "set_iterator") (n:= "__next__") (by
   rw[gz,dQ]
   kernel_rfl) (by decide+kernel) (by decide+kernel)
  (by decide+kernel)
  (by first
   | exact .inl (by decide+kernel)
   | exact .inr (by decide+kernel))
  (by
   rw[gK]
   kernel_rfl)
theorem jCB:Slot "set_iterator" "__iter__" "set_iterator.__iter__" :=
 .of (owner:= "set_iterator") (n:= "__iter__") (by
   rw[gz,dQ]
   kernel_rfl) (by decide+kernel) (by decide+kernel)
  (by decide+kernel)
  (by first
   | exact .inl (by decide+kernel)
   | exact .inr (by decide+kernel))
  (by
   rw[gK]
   kernel_rfl)
theorem jBY:entryFor table "set_iterator.__next__" =some Builtin.«set_iterator.__next__»:=entryFor_of_tree (by kernel_rfl)
theorem jDM:entryFor table "set.__iter__" =some Builtin.«frozenset.__iter__»:=
 entryFor_alias (id':= "frozenset.__iter__") (by kernel_rfl) rfl (by decide+kernel) (by kernel_rfl)
theorem jEJ:entryFor table "set_iterator.__iter__" =some Builtin.«dict_keyiterator.__iter__»:=
 entryFor_alias (id':= "dict_keyiterator.__iter__") (by kernel_rfl) (by first | rfl | decide+kernel | (unfold String.splitOn; simp+decide [String.splitOnAux])) (by decide+kernel)
  (by kernel_rfl)
theorem jCK (a:Value):argsOk "set_iterator.__next__" ⟨[a],[]⟩:=by unfold argsOk; kernel_rfl
theorem jG4 (a:Value):argsOk "set_iterator.__iter__" ⟨[a],[]⟩:=by unfold argsOk; kernel_rfl
theorem jEP (a:Value):argsOk "set.__iter__" ⟨[a],[]⟩:=by unfold argsOk; kernel_rfl
abbrev byTxt (w:World):Bool:=w.params.followText "set-order"
abbrev IsSI (h:Heap)(I:Addr)(slot i:Nat)(a:Addr)(n ep:Nat):Prop:=
 h.get? I=some { cls:= .type "set_iterator",dict:=none,data:= .fields #[rawInt slot,rawInt i, .ref a,rawInt n,rawInt ep],slots:=#[]}
def qR (w:World)(t:SetTable)(i:Nat):Nat:=if byTxt w=true then 0 else jGW t.place i
noncomputable def told (w:World)(a:Addr)(ep:Nat)(es:Array (Int×Value)):List Value:=(if byTxt w=true then (pickOrder (w.params.setOrder a ep) es).toList else es.toList).map (·.2)
theorem jAM (w:World)(a:Addr)(ep:Nat)(es:Array (Int×Value)):(told w a ep es).length=es.size:=by
 unfold told
 rw[af]
 split
 ·rw[(jF9 _ es).length_eq]; simp
 ·simp
theorem jIL (w:World)(a:Addr)(ep:Nat)(es:Array (Int×Value)):(told w a ep es).Perm (es.toList.map (·.2)):=by
 unfold told
 split
 ·exact(jF9 _ es).map _
 ·exact .refl _
section
variable {prog:Program}{w:World}{A:Around}{E:Value->Shared->Prop}{s:Shared}{a I:Addr}{o:Obj}{es:Array (Int×Value)}{ep:Nat}{t:SetTable}
theorem jJZ {i:Nat}{Q:Option (Value×Nat)->Shared->Prop}(ho:s.heap.get? a=some o)(hd:o.data= .set es ep t)(T:Tab t es.size (ledW w))(hn:es.size<=4)(hi:i<=es.size)
  (h:Q ((told w a ep es)[i]?.map fun v=>(v,qR w t (i+1))) s):wpAny (model prog w) A (setNext a (qR w t i) i ep) Q E s:=by
 unfold setNext
 refine aa (cc ho hd (T.fits hn) ?_)
 dsimp only
 unfold setsByText
 refine aa (aa (db (ag ?_)))
 show wpAny _ A (if byTxt w=true then _ else _) Q E s
 have hl:=jAM w a ep es
 by_cases hb:byTxt w=true
 ·rw[aA hb,aB (by simp)]
  unfold setWalk
  refine aa (aa (cc ho hd (T.fits hn) ?_))
  dsimp only
  unfold setsByText
  refine aa (aa (db (ag ?_)))
  show wpAny _ A (if byTxt w=true then _ else _) _ E s
  rw[aA hb]
  refine aa (db (ag (ag ?_)))
  have e:(told w a ep es)[i]?.map (fun v=>(v,qR w t (i+1)))=(pickOrder (w.params.setOrder a ep) es)[i]?.map (fun e=>(e.snd,qR w t i)):=by
   unfold told qR
   rw[aA hb,aA hb,aA hb,aY,cn,Option.map_map]
   rfl
  rw[e] at h
  exact h
 ·rw[aB hb]
  have hb':byTxt w=false:=by simpa using hb
  have hld:t.led=true:=by rw[T.ld]; show (!byTxt w)=true; rw[hb']; rfl
  show wpAny _ A (if (!t.plain&&decide (es.size>1))=true then _ else _) Q E s
  rw[T.pl,fQ,ba,aB aw]
  refine aa ?_
  show wpAny _ A (if (!t.led&&!es.isEmpty)=true then _ else pure ()) _ E s
  rw[hld,fQ,ba,aB aw]
  refine ag (ag ?_)
  have eb:SetTable.below t.place (qR w t i)=i:=by
   unfold qR
   rw[aB hb]
   exact jG2 T.ris (by rw[T.sz]; exact hi)
  rw[eb]
  have et:(told w a ep es)[i]?=es[i]?.map (·.2):=by
   unfold told
   rw[aB hb,aY,cn]
  rw[et] at h
  by_cases hlt:i<es.size
  ·have h1:es[i]?=some es[i]:=by simp [hlt]
   have hlt2:i<t.place.size:=by rw[T.sz]; exact hlt
   have h2:t.place[i]?=some t.place[i]:=by simp [hlt2]
   have h3:qR w t (i+1)=t.place[i]+1:=by
    unfold qR jGW
    rw[aB hb]
    simp [Array.getD,hlt2]
   rw[h1,h3] at h
   rw[h1,h2]
   exact h
  ·have h1:es[i]?=none:=by simp; omega
   rw[h1] at h
   rw[h1]
   exact h
theorem jF4 {i:Nat}{v:Value}{Q:Option Value->Shared->Prop}(ho:s.heap.get? a=some o)(hd:o.data= .set es ep t)(T:Tab t es.size (ledW w))(hn:es.size<=4)
  (hit:IsSI s.heap I (qR w t i) i a es.size ep) (hv:(told w a ep es)[i]?=some v)
  (hQ:∀ h',IsSI h' I (qR w t (i+1)) (i+1) a es.size ep->Heap.SameBut I s.heap h'->Q (some v) { s with heap:=h'}):wpAny (model prog w) A (pyNext (.ref I)) Q E s:=by
 have hT:s.TypeIs (.ref I) "set_iterator" :=⟨_,hit,rfl⟩
 have hi:i<es.size:=by
  rw[<- jAM w a ep es]
  exact(aV.mp hv).1
 unfold pyNext
 refine aa (cM (bF (name:=Str.ofString "__next__") hT slot_si_next (bG slot_si_next hT jBY ?_ (jCK _))))
 unfold Builtin.«set_iterator.__next__»
 refine aa (m:=slotArgs "__next__" 0 _) (ag ?_)
 dsimp only
 unfold fieldsOf
 refine aa (aa (gU hit ?_))
 refine ag ?_
 dsimp only [rawInt]
 unfold setEntries
 refine aa (aa (cc ho hd (T.fits hn) (ag ?_)))
 rw[aB (by simp)]
 simp only [cq]
 refine aa (jJZ ho hd T hn (dD hi) ?_)
 rw[hv]
 dsimp only [Option.map]
 refine aa (bN hit (by simp) fun h1 hit1 sb1=>?_)
 refine aa (bN hit1 (by simp) fun h2 hit2 sb2=>?_)
 refine ag ⟨v,rfl,ag (hQ h2 ?_ (sb1.trans sb2))⟩
 show h2.get? I=_
 rw[hit2]
 simp [rawInt]
theorem jG8 {Q:Option Value->Shared->Prop}(hh:A.handled=none)(ho:s.heap.get? a=some o)(hd:o.data= .set es ep t)(T:Tab t es.size (ledW w))(hn:es.size<=4)
  (hit:IsSI s.heap I (qR w t es.size) es.size a es.size ep)
  (hQ:∀ h',Heap.ExtBut I s.heap h'->Q none { s with heap:=h'}):wpAny (model prog w) A (pyNext (.ref I)) Q E s:=by
 have hT:s.TypeIs (.ref I) "set_iterator" :=⟨_,hit,rfl⟩
 unfold pyNext
 refine aa (cM (bF (name:=Str.ofString "__next__") hT slot_si_next (bG slot_si_next hT jBY ?_ (jCK _))))
 unfold Builtin.«set_iterator.__next__»
 refine aa (m:=slotArgs "__next__" 0 _) (ag ?_)
 dsimp only
 unfold fieldsOf
 refine aa (aa (gU hit ?_))
 refine ag ?_
 dsimp only [rawInt]
 unfold setEntries
 refine aa (aa (cc ho hd (T.fits hn) (ag ?_)))
 rw[aB (by simp)]
 simp only [cq]
 refine aa (jJZ ho hd T hn (ao _) ?_)
 rw[cQ (by rw[jAM]; exact ao _)]
 dsimp only [Option.map]
 refine aa (bN hit (by simp) fun h1 hit1 sb1=>?_)
 refine aa ?_
 simp only [newExc,newTuple]
 refine aa (bv ?_ (by size_fits))
 refine aa (m:=firstArgMember _ _) (fA (a:=Value.none) (by first | rfl | (simp only [firstArgMember]; rfl)) ?_)
 refine bv ?_ (by size_fits)
 simp only [raiseNew]
 refine aa (wpAny_handled ?_)
 rw[show A.in1.handled=none from hh]
 refine aa (ag (wpAny_throw ?_))
 refine aa (gc (T:= "StopIteration") (b:=true) ⟨_,ay _ rfl,rfl⟩ isSubtype_stop ?_)
 exact ag (hQ _ ((sb1.extBut.push _).push _))
theorem jO8 {i:Nat}{slot n:Nat}{Q:Value->Shared->Prop}(hit:IsSI s.heap I slot i a n ep)(h:Q (.ref I) s):wpAny (model prog w) A (pyIter (.ref I)) Q E s:=by
 have hT:s.TypeIs (.ref I) "set_iterator" :=⟨_,hit,rfl⟩
 refine wpAny_pyIter_slot hT jCB (bG jCB hT jEJ ?_ (jG4 _))
 show wpAny _ _ (ret (.ref I)) _ _ s
 exact ag ⟨_,rfl,"set_iterator",_,hT,slot_si_next.lookup,h⟩
theorem jLZ {Q:Value->Shared->Prop}(hx:o.ExactSet)(ho:s.heap.get? a=some o)(hd:o.data= .set es ep t)(T:Tab t es.size (ledW w))(hn:es.size<=4)
  (hQ:∀ h',h'.get? s.heap.objs.size=some { cls:= .type "set_iterator",dict:=none,data:= .fields #[rawInt (qR w t 0),rawInt 0, .ref a,rawInt es.size,rawInt ep],slots:=#[]} ->(∀ b u,s.heap.get? b=some u->h'.get? b=some u)->
   h'.objs.size=s.heap.objs.size+1->Q (.ref s.heap.objs.size) { s with heap:=h'}):wpAny (model prog w) A (pyIter (.ref a)) Q E s:=by
 have hT:s.TypeIs (.ref a) "set" :=⟨o,ho,hx.1⟩
 refine wpAny_pyIter_slot hT gC (bG gC hT jDM ?_ (jEP _))
 unfold Builtin.«frozenset.__iter__»
 refine aa (show wpAny _ _ (pure a:Sem Addr) _ _ s from ag ?_)
 unfold Builtin.Frozenset.sizeOf setEntries
 refine aa (aa (aa (cc ho hd (T.fits hn) (ag (ag ?_)))))
 dsimp only
 unfold setDrawn
 refine aa (aa (cc ho hd (T.fits hn) ?_))
 dsimp only
 unfold setsByText
 refine aa (aa (db (ag (ag ?_))))
 show wpAny _ _ (if (!byTxt w&&(!t.plain&&decide (es.size>1)))=true then _ else _) _ _ s
 rw[T.pl,fQ,ba,aX,aB aw]
 refine aa (ag ?_)
 refine aa (wpAny_setEpoch_of ho hd (T.fits hn) ?_)
 refine aa (bv (ag ⟨_,rfl,"set_iterator",_,⟨_,ay _ rfl,rfl⟩,slot_si_next.lookup,hQ _ ?_ (fun b u e=>ae _ e) (bT _ _)⟩) (by size_fits))
 have e0:qR w t 0=0:=by unfold qR jGW; split <;> rfl
 rw[e0]
 exact ay _ rfl
theorem jII (hh:A.handled=none)(hne:a≠I)(hd:o.data= .set es ep t)(T:Tab t es.size (ledW w))(hn:es.size<=4):
  Walks prog w A I [I,a] [I] es.size (fun i v=>(told w a ep es)[i]?=some v) (fun i h=>IsSI h I (qR w t i) i a es.size ep/\h.get? a=some o) where
 sub:=fun b hb=>by simp at hb; simp [hb]
 frame:=fun _ _ _ st hk=>⟨hk I (by simp) _ st.1,hk a (by simp) _ st.2⟩
 item:=fun i s Q E hi st hQ=>by
  obtain⟨v,hv⟩:∃ v,(told w a ep es)[i]?=some v:=⟨_,bB (by rw[jAM]; exact hi)⟩
  exact jF4 st.2 hd T hn st.1 hv fun h' hit' sb=>hQ v h' s.toks hv ⟨hit',(sb.2 a hne).trans st.2⟩ fun b o hb e=>(sb.2 b (fun z=>hb (by simp [z]))).trans e
 done:=fun s Q E st hQ=>jG8 hh st.2 hd T hn st.1 fun h' eb=>hQ h' s.toks fun b o hb e=>eb b o (fun z=>hb (by simp [z])) e
 self:=fun _ _ _ _ st hQ=>jO8 st.1 hQ
end
theorem jF2:typeLookup (.type "set") "__len__" =pure (some (.builtin "set.__len__")):=by rw[gz,dQ]; kernel_rfl
section
variable {prog:Program}{w:World}{A:Around}{E:Value->Shared->Prop}{s:Shared}{a:Addr}{o:Obj}{es:Array (Int×Value)}{ep:Nat}{t:SetTable}
theorem jMT {Q:Bool->Shared->Prop}(hT:s.TypeIs (.ref a) "set")(h:Q false s):wpAny (model prog w) A (Builtin.List.listLengthHint (.ref a)) Q E s:=by
 unfold Builtin.List.listLengthHint
 refine aa (wpAny_specialOf hT jF2 ?_)
 generalize hid:("set.__len__" :String)=id0
 wp_delta
 rw[show splitId id0=some ("set","__len__") from by subst hid; decide+kernel]
 subst hid
 refine aa (gc (b:=true) hT (by rw[gK]; kernel_rfl) ?_)
 refine wpAny_ite_split (fun q=>absurd q (by decide)) (fun _=>?_)
 refine wpAny_ite_split (fun _=>?_) (fun q=>absurd (by decide+kernel) q)
 exact aa (dJ hT (ag h))
theorem jGP {Q:List Value->Shared->Prop}(hh:A.handled=none)(hx:o.ExactSet)(ho:s.heap.get? a=some o)(hd:o.data= .set es ep t)(T:Tab t es.size (ledW w))(hn:es.size<=4)
  (hQ:∀ s',(∀ b u,s.heap.get? b=some u->s'.heap.get? b=some u)->s'.gens=s.gens->s'.drawn=s.drawn->s'.os=s.os->s.heap.objs.size<s'.heap.objs.size->Q (told w a ep es) s'):wpAny (model prog w) A (collect (.ref a)) Q E s:=by
 have ha:a<s.heap.objs.size:=au ho
 have hSa:s.heap.objs.size≠a:=cE ha
 unfold collect
 refine aa (wpAny_runValue (cJ PySem.F.entry_proto_collect ?_))
 rw[cv PySem.F.plain_proto_collect _]
 show wpAny _ A.in1 (newList [] >>= fun l=>again (.builtin "list.__iadd__" ⟨[l, .ref a],[]⟩)) _ _ s
 refine aa (bv (ag ⟨fO gd _,cJ PySem.F.entry_list_iadd ?_⟩))
 rw[cv gd _]
 generalize hE:({ s with heap:=s.heap.push { cls:= .type "list",dict:=none,data:= .seq ([]:List Value).toArray}} :Shared)=s1
 have ho1:s1.heap.get? a=some o:=by rw[<- hE]; exact ae _ ho
 have hL1:s1.heap.get? s.heap.objs.size=some { cls:= .type "list",dict:=none,data:= .seq ([]:List Value).toArray} :=by rw[<- hE]; exact ay _ rfl
 have hz1:s1.heap.objs.size=s.heap.objs.size+1:=by rw[<- hE]; exact bT _ _
 have hT1:s1.TypeIs (.ref a) "set" :=⟨o,ho1,hx.1⟩
 show wpAny _ A.in1 (Builtin.List.listExtendWith (.ref s.heap.objs.size) (.ref a) (.ref s.heap.objs.size)) _ _ _
 unfold Builtin.List.listExtendWith
 refine aa (dJ hT1 ?_)
 have q1:Builtin.List.listSameRef (.ref s.heap.objs.size) (.ref a)=false:=by simp [Builtin.List.listSameRef,hSa]
 rw[aB (by rw[q1]; decide)]
 refine aa (jLZ hx ho1 hd T hn fun h2 hI2 k2 z2=>?_)
 refine aa (be ?_)
 have ho2:h2.get? a=some o:=k2 _ _ ho1
 have hT2:Shared.TypeIs { s1 with heap:=h2} (.ref a) "set" :=⟨o,ho2,hx.1⟩
 have hL2:=k2 _ _ hL1
 refine jMT hT2 ?_
 rw[aA (by decide+kernel)]
 refine aa (dX ?_)
 have hne:s.heap.objs.size≠s1.heap.objs.size:=by omega
 refine aa ?_
 show wpAny _ A.in1 (updateSeq s.heap.objs.size (·.push .none) >>= fun _=>updateSeq s.heap.objs.size (·.pop)) _ _ _
 refine aa (wpAny_updateSeq hL2 rfl ?_)
 have hL3:=bo (Obj.mapSeq (·.push Value.none)) hL2 rfl
 refine wpAny_updateSeq hL3 rfl ?_
 have hL4:=bo (Obj.mapSeq (·.pop)) hL3 rfl
 have oth:∀ b u,b≠s.heap.objs.size->h2.get? b=some u->((h2.update s.heap.objs.size (Obj.mapSeq (·.push Value.none))).update s.heap.objs.size (Obj.mapSeq (·.pop))).get? b=some u:=
  fun b u hb e=>(bx _ _ (bY hb)).trans ((bx _ _ (bY hb)).trans e)
 have W:=(jII (prog:=prog) (A:=A.in1) (a:=a) (I:=s1.heap.objs.size) hh (aN (show a<s1.heap.objs.size by rw[hz1]; exact cr ha)) hd T hn).toS
 have z24:es.size<=sizeLine:=by rw[show sizeLine=2 ^ 24 from rfl]; omega
 refine ag ⟨fO PySem.F.plain_extend_loop _,codeAny_extend_loopS W z24 s.heap.objs.size (by simp [hne,hSa]) _ es.size 0 _ _ _ rfl (aJ _) ⟨oth _ _ (bY hne) hI2,oth _ _ (bY hSa) ho2⟩ hL4 (ItemsOf.nil _) fun s' acc' c' hm hS' hacc=>?_⟩
 show wpAny _ A (load s.heap.objs.size >>= _) _ _ s'
 refine aa (gU hS' ?_)
 have eacc:acc'.toList=told w a ep es:=by
  apply List.ext_getElem?
  intro i
  by_cases hi:i<es.size
  ·have hi':i<acc'.size:=by rw[hacc.1]; exact hi
   have:=hacc.2 i acc'[i] (by simp [hi'])
   rw[this]
   simp [hi']
  ·rw[cQ (by rw[bh,hacc.1]; omega),cQ (by rw[jAM]; omega)]
 refine ag ?_
 rw[eacc]
 refine hQ s' (fun b u e=>?_) ?_ ?_ ?_ (au hS')
 ·have hb:b≠s.heap.objs.size:=aN (au e)
  have hb1:b≠s1.heap.objs.size:=aN (show b<s1.heap.objs.size by rw[hz1]; exact cr (au e))
  exact hm.heap b u (by simp [hb,hb1]) (oth b u hb (k2 b u (by rw[<- hE]; exact ae _ e)))
 ·have:=hm.gens; rw[<- hE] at this; exact this
 ·have:=hm.drawn; rw[<- hE] at this; exact this
 ·have:=hm.os; rw[<- hE] at this; exact this
end
end SS
end
section
namespace SS
open PySem PyProof.Rows
section
variable {prog:Program}{w:World}{A:Around}{E:Value->Shared->Prop}{s:Shared}{a:Addr}{ks:List Int}
theorem jKO:∀ {vs:List Value}{ks:List Int},Paired (fun v k=>∃ t,v=Value.int k t) vs ks->IntsAre vs ks
 | _,_, .nil=> .nil
 | _,_, .cons ⟨t,e⟩ r=>by subst e; exact .cons _ t (jKO r)
theorem jDR {es:List (Int×Value)} :∀ {ks:List Int},Paired El es ks->Paired (fun v k=>∃ t,v=Value.int k t) (es.map (·.2)) ks
 | _, .nil=> .nil
 | _, .cons ⟨_,q⟩ r=> .cons q (jDR r)
theorem jGE {α β:Type}{F:α->β->Prop}{l l':List α}(p:l'.Perm l):∀ {r:List β},Paired F l r->∃ r',Paired F l' r'/\r'.Perm r:=by
 induction p with
 | nil=>intro r h; cases h; exact⟨[], .nil, .nil⟩
 | cons x _ ih=>
  intro r h
  cases h with
  | cons f t=>
   obtain⟨r',h1,h2⟩:=ih t
   exact⟨_::r', .cons f h1,h2.cons _⟩
 | swap x y l=>
  intro r h
  cases h with
  | cons f t=>
   cases t with
   | cons g t=>exact⟨_, .cons g (.cons f t), .swap _ _ _⟩
 | trans _ _ ih1 ih2=>
  intro r h
  obtain⟨r1,h1,h2⟩:=ih2 h
  obtain⟨r2,h3,h4⟩:=ih1 h1
  exact⟨r2,h3,h4.trans h2⟩
theorem sorted_set {Q:Value->Shared->Prop}(hh:A.handled=none)(S:SetG w s.heap a ks)
  (h:∀ (s':Shared) (l:Addr) (vs:List Value) (ns:List Int) (e:Nat),s.heap.objs.size<=l->(∀ b u,s.heap.get? b=some u->s'.heap.get? b=some u)->s'.gens=s.gens->s'.drawn=s.drawn->s'.os=s.os->
   s'.heap.get? l=some { cls:= .type "list",data:= .seq vs.toArray e} ->IntsAre vs ns->ns.Perm ks->ns.Pairwise (· <= ·)->Q (.ref l) s'):
  wpAny (model prog w) A (call (.builtin "sorted") [.ref a]) Q E s:=by
 obtain⟨o,es,ep,t,ho,hex,hd,hp,T⟩:=S.ex
 have hn:es.size<=4:=by
  have:=Paired.length hp
  rw[bh] at this
  have:=S.len
  omega
 refine Calls.call_function_entry kind_sorted plain_sorted entry_sorted (args_sorted1 _) ?_
 unfold Builtin.«sorted»
 refine aa (m:=checkCount "sorted" 1 1 _) (ag ?_)
 refine aa (jGP (A:=A.in1) hh hex ho hd T hn fun s1 k1 g1 d1 o1 z1=>?_)
 refine aa (wpAny_newList ?_ (by rw[jAM,show sizeLine=2 ^ 24 from rfl]; omega))
 obtain⟨ks1,hp1,pm1⟩:=jGE (jIL w a ep es) (jDR hp)
 have hI:=jKO hp1
 have hl:(told w a ep es).length<64:=by rw[jAM]; omega
 have hL:(s1.heap.push (seqObj "list" (told w a ep es).toArray 0)).get? s1.heap.objs.size=some (seqObj "list" (told w a ep es).toArray 0):=ay _ rfl
 show wpAny _ _ _ _ _ { s1 with heap:=s1.heap.push (seqObj "list" (told w a ep es).toArray 0)}
 refine aa (be (bG slot_list_sort ⟨_,hL,rfl⟩ entry_list_sort (list_sort_tree hL hI hl fun out ns' a1 a2 a3=>⟨_,rfl,?_⟩) (args_list_sort _)))
 obtain⟨e,he⟩:=sortedHeap_at (out:=out) hL
 have kept:∀ b u,s.heap.get? b=some u->(sortedHeap (s1.heap.push (seqObj "list" (told w a ep es).toArray 0)) s1.heap.objs.size (told w a ep es) out).get? b=some u:=fun b u q=>by
  have q1:=k1 b u q
  have hb:b<s1.heap.objs.size:=au q1
  rw[sortedHeap_old (aN hb) (by rw[size_push']; exact cr hb)]
  exact ae _ q1
 generalize sortedHeap (s1.heap.push (seqObj "list" (told w a ep es).toArray 0)) s1.heap.objs.size (told w a ep es) out=hf at he kept ⊢
 exact ag ⟨_,rfl,h { s1 with heap:=hf} s1.heap.objs.size out.toList ns' e (dD z1) kept g1 d1 o1 (by rw[gL]; exact he) a1 (a2.trans pm1) a3⟩
end
end SS
end
section
namespace L2
open PySem PySem.Spec PyProof.Rows
section
variable {es:List Expr}{env:Env}{a b:Expr}{pos:Pos}{xs ys:List Expr}
theorem qI {op:Operator} :starEach (.BinOp a op b pos::es) env=(false,eval (.BinOp a op b pos) env)::starEach es env:=rfl
theorem se_un {op:UnaryOp} :starEach (.UnaryOp op a pos::es) env=(false,eval (.UnaryOp op a pos) env)::starEach es env:=rfl
theorem jNC {ops:List CmpOp} :starEach (.Compare a ops xs pos::es) env=(false,eval (.Compare a ops xs pos) env)::starEach es env:=rfl
theorem jS {kw:List Keyword} :starEach (.Call a xs kw pos::es) env=(false,eval (.Call a xs kw pos) env)::starEach es env:=rfl
theorem jO:starEach (.Subscript a b pos::es) env=(false,eval (.Subscript a b pos) env)::starEach es env:=rfl
theorem kW {gs sc} :starEach (.ListComp a gs sc pos::es) env=(false,eval (.ListComp a gs sc pos) env)::starEach es env:=rfl
theorem jBO {x1} :starEach (.Tuple xs x1 pos::es) env=(false,eval (.Tuple xs x1 pos) env)::starEach es env:=rfl
theorem jJ0:starEach (.List xs pos::es) env=(false,eval (.List xs pos) env)::starEach es env:=rfl
theorem jB {c k} :starEach (.Constant c k pos::es) env=(false,eval (.Constant c k pos) env)::starEach es env:=rfl
theorem j6 {x:Str} :starEach (.Name x pos::es) env=(false,eval (.Name x pos) env)::starEach es env:=rfl
end
section
variable {X:Cx}
def CDivL (i j:Int):Prop:=0<j/\j<2 ^ 64
theorem jH5:OpR X (binaryOp .FloorDiv) (rI CDivL fun i j=> .int (i / j)):=opI fun i j _ _ _ _ _ hc q=>by
 have h1:(0:Int)<j:=hc.1
 have h2:j<2 ^ 64:=hc.2
 refine floordiv_int (by omega) (by rw[fh i (by omega)]; exact q) (.inl (PyProof.noPylong_of_log2 ?_))
 have h3:j.natAbs<2 ^ 64:=by omega
 have h4:j.natAbs≠0:=by omega
 have:=(gM h4).mpr h3
 omega
theorem jQ:qC X (.builtin "isinstance") (fun xs H Q=>∃ x T t b,xs=[x, .ty T]/\TyOf X.K H x t/\kitOne X.K t (.type T)=some b/\Q (.bl b) H):=by
 intro pins s σ H xs us Q I r h
 obtain⟨x,T,t,b,rfl,ty,e,q⟩:=h
 obtain⟨u,v,rfl,ru,rv⟩:=r.two
 cases rv
 exact jKN I ru ty e fun tk=>⟨.bl b,H,I.tok tk,rfl,q⟩
def jOE:V->List V->Hp->VK->Prop:=fun x vs H Q=>∃ l xs i y,x= .ref l/\vs=[.int i,y]/\H l=some (.lst xs)/\0<=i/\i<=xs.length/\xs.length<sizeLine/\Q .non (upd H l (.lst (xs.take i.toNat++y::xs.drop i.toNat)))
theorem Vals.put {y:V}{v:Value}(r:RelV y v){xs:List V}{us:List Value}(h:Vals xs us)(k:Nat):Vals (xs.take k++y::xs.drop k) (us.take k++v::us.drop k):=(h.take k).append (.cons r (h.drop k))
theorem jK6:MtM X "list.insert" jOE:=by
 intro pins s σ H x vs v us Q I rx rv h
 obtain⟨l,xs,i,y,rfl,rfl,hH,h0,h1,hz,q⟩:=h
 cases rx
 obtain⟨a,b,rfl,ra,rb⟩:=rv.two
 obtain⟨t,rfl⟩:=ra
 obtain⟨z,its,n,r,hl,e⟩:=I.lstM hH
 have line:=jD5
 have hf:Builtin.List.listFitsIndex i=true:=fitsIndex_both (by omega) (by omega)
 refine dW F.slot_list_insert ⟨_,e,rfl⟩ F.entry_list_insert (F.args_list_insert_3 _ _ _) (AutoSeq1.list_insert_list_int_val_1 l its.toArray n i t b (by simp [hf]) (by rw[ak]; omega)) ⟨e,?_⟩
 refine⟨.non,_,I.lset (its':=its.take i.toNat++b::its.drop i.toNat) hH e ?_ (Vals.put rb r i.toNat) ?_,rfl,q⟩
 ·have hk:(if i<0 then (i+(its.toArray.size:Int)).toNat else min i.toNat its.toArray.size)=i.toNat:=by
   rw[aB (by omega),ak]
   omega
  show (its.toArray.extract 0 (if i<0 then (i+(its.toArray.size:Int)).toNat else min i.toNat its.toArray.size)).push b++its.toArray.extract (if i<0 then (i+(its.toArray.size:Int)).toNat else min i.toNat its.toArray.size)=_
  rw[hk]
  apply ext'
  simp [List.extract_eq_take_drop,bU]
 ·rw[aI,aC,bb,bW]
  omega
def rEqE (K:W.Frag):R2:=fun x y H Q=>∃ p q xs,x= .ref p/\y= .ref q/\SqT K H p xs/\SqT K H q []/\Q (.bl (decide (xs=[]))) H
theorem jNJ (hu:X.A.units<cLine):OpR X (compareOp .Eq) (rEqE X.K):=by
 intro pins s σ H x y v u Q I rx ry h
 obtain⟨p,q,xs,rfl,rfl,hp,hq,k⟩:=h
 cases rx
 cases ry
 obtain⟨its,r,t1,_⟩:=I.tuple hp
 obtain⟨its2,r2,t2,_⟩:=I.tuple hq
 have e2:its2=[]:=r2.zero
 subst e2
 refine SeqAt.eq_tupleAt (e:=fun _=>true) (show s.heap.IsTuple p its.toArray from t1) (show s.heap.IsTuple q ([]:List Value).toArray from t2) hu (fun j h1 h2=>absurd h2 (by simp)) ⟨.bl _,H,I,rfl,?_⟩
 have hl:=r.length
 have e:((List.range (min its.toArray.size ([]:List Value).toArray.size)).all (fun _=>true)&&its.toArray.size==([]:List Value).toArray.size)=decide (xs=[]):=by
  cases xs with
  | nil=>
   have:its=[]:=by simpa using hl.symm
   subst this
   rfl
  | cons a b=>
   have:its.length≠0:=by rw[<- hl]; simp
   simp [this]
 rw[e]
 exact k
theorem jAA (hc:X.calm=true):qC X (.builtin "all") (fun xs H Q=>∃ (p:Addr) (bs:List Bool),xs=[.ref p]/\SqL X.K H p (bs.map V.bl)/\Q (.bl (bs.all id)) H):=by
 intro pins s σ H xs us Q I r h
 obtain⟨p,bs,rfl,hq,q⟩:=h
 obtain⟨u,rfl,rx⟩:=r.one
 cases rx
 obtain⟨its,r',pl,hz⟩:=I.list hq
 have hlen:=r'.length
 rw[af] at hlen
 refine call_all_walk (dF pl.isList ?_)
 have hne:p≠s.heap.objs.size:=by
  obtain⟨o,ho,_⟩:=pl.isList
  exact aN (au ho)
 refine⟨s.heap.objs.size,_,_,_,_,_,fun i=>bs.getD i true,rfl,Walks.list (by simpa using I.ok.hd hc) _ p hne its.toArray,⟨⟨_,ay _ rfl,rfl,rfl⟩,pl.isList.push _⟩,fun i v z Q' E' hP hQ'=>?_,fun h' tk hk=>?_⟩
 ·have hi:its[i]?=some v:=by simpa using hP
  have hb:i<bs.length:=by
   rw[hlen]
   exact(aV.mp hi).1
  obtain⟨u,hu,ru⟩:=r'.get (i:=i) (x:= .bl (bs[i])) (by simp [hb])
  rw[hi] at hu
  cases hu
  cases ru
  have e:bs.getD i true=bs[i]:=by simp [List.getD,hb]
  have hQ2:Q' (bs.getD i true) z:=hQ'
  rw[e] at hQ2
  exact ag hQ2
 ·have e:(List.range its.toArray.size).all (fun i=>bs.getD i true)=bs.all id:=by
   rw[ak,<- hlen]
   rw[bP,aD,aD]
   constructor
   ·intro a b hb
    obtain⟨i,hi,rfl⟩:=ce hb
    have:=a i (bR.mpr hi)
    simpa [List.getD,hi] using this
   ·intro a i hi
    have hi:=bR.mp hi
    have:=a bs[i] (ck hi)
    simpa [List.getD,hi] using this
  rw[e]
  exact⟨.bl _,H,I.kept (t':=tk) fun b o e=>hk b o (by
   intro z
   have z:b=s.heap.objs.size:=by simpa using z
   exact absurd (au e) (by rw[z]; exact cg _)) (ae _ e),rfl,q⟩
def jDC (n:Nat):List V:=(List.range n).map fun (i:Nat)=>V.int (i:Int)
theorem jHW {n:Nat}{acc:Array Value}(h:ItemsOf (fun i v=>∃ t,v=Value.int (0+(i:Int)*1) t) acc n):Vals (jDC n) acc.toList:=by
 have key:∀ (l:List Value) (k:Nat),(∀ j v,l[j]?=some v->∃ t,v=Value.int ((k+j:Nat):Int) t)->Vals ((List.range' k l.length).map fun (i:Nat)=>V.int (i:Int)) l:=by
  intro l
  induction l with
  | nil=>intro k _; exact .nil
  | cons v l ih=>
   intro k hk
   rw[aC,List.range'_succ,bi]
   refine .cons ?_ (ih (k+1) fun j u hj=>?_)
   ·obtain⟨t,e⟩:=hk 0 v rfl
    exact⟨t,by simpa using e⟩
   ·obtain⟨t,e⟩:=hk (j+1) u (by simpa using hj)
    exact⟨t,by rw[e]; congr 1; omega⟩
 have:=key acc.toList 0 fun j v hj=>by
  obtain⟨t,e⟩:=h.2 j v (by simpa using hj)
  exact⟨t,by rw[e]; congr 1; omega⟩
 rw[bh,h.1] at this
 unfold jDC
 rw[List.range_eq_range']
 exact this
theorem jGQ:qC X (.type "range") (fun xs H Q=>∃ j:Int,xs=[.int j]/\∀ p,H p=none->Q (.ref p) (upd H p (.rng 0 j))):=by
 intro pins s σ H xs us Q I r h
 obtain⟨j,rfl,q⟩:=h
 obtain⟨u,rfl,t,rfl⟩:=r.one
 refine call_range_1 ⟨.ref s.heap.objs.size,_,I.laid (o:= .rng 0 j) (fun b o e=>ae _ e) (ao _) ?_,rfl,q _ I.fresh⟩
 exact⟨_,_,_,ay _ rfl⟩
theorem jFT (hc:X.calm=true):qC X (.type "list") (fun xs H Q=>∃ p j,xs=[.ref p]/\H p=some (.rng 0 j)/\0<=j/\j<=1000/\∀ l,H l=none->Q (.ref l) (upd H l (.lst (jDC j.toNat)))):=by
 intro pins s σ H xs us Q I r h
 obtain⟨p,j,rfl,hp,h0,h1,q⟩:=h
 obtain⟨u,rfl,rx⟩:=r.one
 cases rx
 obtain⟨t,u,v,e⟩:=I.hok p _ hp
 have en:Builtin.Range.rangeSize 0 j 1=(j.toNat:Int):=by
  rw[rangeSize_one]
  split <;> omega
 refine call_list_range (I.ok.hd hc) (show IsRange s.heap p 0 j 1 t u v from e) (small_one (by omega) (by omega) (by omega) (by omega)) en (by omega) fun h' tk acc' c' kp hS hacc=>?_
 refine⟨.ref s.heap.objs.size,_,I.laid (t':=tk) (o:= .lst (jDC j.toNat)) kp (ao _) ?_,rfl,q _ I.fresh⟩
 refine⟨?_,acc'.toList,c',jHW hacc,by rw[gL]; exact hS⟩
 unfold jDC
 rw[af,cR,cD]
 omega
def SetO (w:World)(a:Addr)(ks:List Int):HO:= .ext fun h=>SS.SetG w h a ks
theorem jET {ns:List Int} :∀ {us:List Value},Vals (ns.map V.int) us->IntsAre us ns:=by
 induction ns with
 | nil=>intro us h; cases h; exact .nil
 | cons n ns ih=>
  intro us h
  cases h with
  | cons r t=>
   obtain⟨k,rfl⟩:=r
   exact .cons n k (ih t)
theorem jCH:∀ {us:List Value}{ns:List Int},IntsAre us ns->Vals (ns.map V.int) us
 | _,_, .nil=> .nil
 | _,_, .cons n t r=> .cons ⟨t,rfl⟩ (jCH r)
theorem jL9 (hc:X.calm=true):qC X (.type "set") (fun xs H Q=>∃ (p:Addr) (ns:List Int),xs=[.ref p]/\SqL X.K H p (ns.map V.int)/\ns.length<=4/\(∀ z∈ns,0<=z/\z<32)/\
  ∀ (l:Addr) (ks:List Int),H l=none->(∀ z,z∈ks↔z∈ns)->Q (.ref l) (upd H l (SetO X.w l ks))):=by
 intro pins s σ H xs us Q I r h
 obtain⟨p,ns,rfl,hq,hl,hv,q⟩:=h
 obtain⟨u,rfl,rx⟩:=r.one
 cases rx
 obtain⟨its,r',pl,hz⟩:=I.list hq
 have hlen:=r'.length
 rw[af] at hlen
 refine SS.set_of_list (I.ok.hd hc) pl.isList (jET r') (by rw[ak]; omega) hv fun h' tk ks S hm kp=>?_
 have hg:∃ o,h'.get? s.heap.objs.size=some o:=let ⟨o,_,_,_,e,_⟩:=S.ex; ⟨o,e⟩
 exact⟨.ref s.heap.objs.size,_,I.laid (t':=tk) (o:=SetO X.w s.heap.objs.size ks) kp (ao _) ⟨S,hg,fun h1 h2 a b=>a.at b⟩,rfl,q _ ks I.fresh hm⟩
theorem jDN (hc:X.calm=true):qC X (.builtin "sorted") (fun xs H Q=>∃ (p:Addr) (ks:List Int),xs=[.ref p]/\H p=some (SetO X.w p ks)/\
  ∀ (l:Addr) (ns:List Int),H l=none->ns.Pairwise (· < ·)->(∀ z,z∈ns↔z∈ks)->Q (.ref l) (upd H l (.lst (ns.map V.int)))):=by
 intro pins s σ H xs us Q I r h
 obtain⟨p,ks,rfl,hp,q⟩:=h
 obtain⟨u,rfl,rx⟩:=r.one
 cases rx
 obtain⟨S,_,_⟩:=I.hok p _ hp
 refine SS.sorted_set (I.ok.hd hc) S fun s' l vs ns e hl kp g d o he hi pm srt=>?_
 obtain⟨h',g',d',t',o'⟩:=s'
 have g:g'=s.gens:=g
 have o:o'=s.os:=o
 have d:d'=s.drawn:=d
 subst g; subst o; subst d
 have nd:ns.Nodup:=pm.nodup_iff.mpr S.nd
 have lt:ns.Pairwise (· < ·):=by
  have:=List.Pairwise.and srt nd
  exact this.imp fun {a b} ⟨x,y⟩=>by omega
 have hz:(ns.map V.int).length<=sizeLine:=by
  rw[af,pm.length_eq,cD]
  have:=S.len
  omega
 have I2:Inv X pins σ (upd H l (.lst (ns.map V.int))) { s with heap:=h',toks:=t'} :=I.laid (t':=t') kp hl ⟨hz,vs,e,jCH hi,he⟩
 exact⟨.ref l,_,I2,rfl,q l ns (I.hok.fresh hl) lt fun z=>pm.mem_iff⟩
end
section
variable {X:Cx}{p1 p2 p3 p4 p5 p6 p7:Pos}{k1 k2 k3 k4:Nat}
theorem jJC {i j r:Int}(hj:0<=j)(hj2:j<=1000000)(hi:i.natAbs<2 ^ 64)(e:i ^ j.toNat=r):PE X (.BinOp (.Constant (.int i) k2 p2) .Pow (.Constant (.int j) k3 p3) p4) (tC (.int r)):=fun pins s σ H Q I h=>
 (y6 (X:=X) jJI kB kB) pins s σ H Q I ⟨_,_,rfl,rfl,⟨hj,hj2,hi⟩,by subst e; exact h⟩
theorem jOR {a b:Expr}{i j r:Int}(ha:PE X a (tC (.int i)))(hb:PE X b (tC (.int j)))(hc:CMul i j)(e:i*j=r):PE X (.BinOp a .Mult b p1) (tC (.int r)):=fun pins s σ H Q I h=>
 (y6 (X:=X) jCE ha hb) pins s σ H Q I ⟨_,_,rfl,rfl,hc,by subst e; exact h⟩
theorem jOU {a b:Expr}{i j r:Int}(ha:PE X a (tC (.int i)))(hb:PE X b (tC (.int j)))(e:i+j=r):PE X (.BinOp a .Add b p1) (tC (.int r)):=fun pins s σ H Q I h=>
 (y6 (X:=X) yG ha hb) pins s σ H Q I ⟨_,_,rfl,rfl,by subst e; exact h⟩
theorem jQU:PE X (.BinOp (.BinOp (.Constant (.int 2) k1 p1) .Mult (.BinOp (.Constant (.int 10) k2 p2) .Pow (.Constant (.int 12) k3 p3) p4) p5) .Add (.Constant (.int 1) k4 p6) p7) (tC (.int 2000000000001)):=
 jOU (i:=2000000000000) (jOR (j:=1000000000000) kB (jJC (by decide) (by decide) (by decide) (by decide)) (.inl ⟨by decide,by decide⟩) (by decide)) kB (by decide)
end
def ItAt (tp:Bool)(h:Heap)(it a:Addr)(i:Nat):Prop:=match tp with
 | false=>h.IsListIter it a i
 | true=>h.IsTupleIter it a i
def ObAt (tp:Bool)(h:Heap)(a:Addr)(xs:Array Value):Prop:=match tp with
 | false=>h.IsList a xs
 | true=>h.IsTuple a xs
theorem ItAt.but {tp:Bool}{h h':Heap}{it a b:Addr}{i:Nat}(x:ItAt tp h it a i)(e:Heap.ExtBut b h h')(n:it≠b):ItAt tp h' it a i:=by
 cases tp with
 | false=>exact Heap.IsListIter.extBut x e n
 | true=>exact Heap.IsTupleIter.extBut x e n
theorem ObAt.but {tp:Bool}{h h':Heap}{a b:Addr}{xs:Array Value}(x:ObAt tp h a xs)(e:Heap.ExtBut b h h')(n:a≠b):ObAt tp h' a xs:=by
 cases tp with
 | false=>exact Heap.IsList.extBut x e n
 | true=>exact Heap.IsTuple.extBut x e n
theorem ItAt.at {tp:Bool}{h h':Heap}{it a:Addr}{i:Nat}(x:ItAt tp h it a i)(e:∀ o,h.get? it=some o->h'.get? it=some o):ItAt tp h' it a i:=by
 cases tp with
 | false=>exact Heap.IsListIter.at x e
 | true=>exact Heap.IsTupleIter.at x e
theorem ItAt.obj {tp:Bool}{h:Heap}{it a:Addr}{i:Nat}(x:ItAt tp h it a i):∃ o,h.get? it=some o/\∀ v,o.data≠ .cell v:=by
 cases tp with
 | false=>obtain⟨o,e,_,d⟩:=x; exact⟨o,e,fun v q=>by rw[d] at q; cases q⟩
 | true=>obtain⟨o,e,_,d⟩:=x; exact⟨o,e,fun v q=>by rw[d] at q; cases q⟩
theorem ObAt.lt {tp:Bool}{h:Heap}{a:Addr}{xs:Array Value}(x:ObAt tp h a xs):a<h.objs.size:=by
 cases tp with
 | false=>obtain⟨o,e,_⟩:=x; exact au e
 | true=>obtain⟨o,e,_⟩:=x; exact au e
section
variable {prog:Program}{w:World}{A:Around}{E:Value->Shared->Prop}{s:Shared}
theorem next1 {tp:Bool}{it a:Addr}{i:Nat}{xs:Array Value}{x:Value}{Q:Value->Shared->Prop}(hi:ItAt tp s.heap it a i)(ha:ObAt tp s.heap a xs)(hx:xs[i]?=some x)
  (k:∀ h',ItAt tp h' it a (i+1)->Heap.SameBut it s.heap h'->Q x { s with heap:=h'}):wpAny (model prog w) A (Builtin.SmallTypes.nextOf (.ref it)) Q E s:=by
 cases tp with
 | false=>exact wpAny_nextOf_list_item hi ha hx k
 | true=>
  obtain⟨o,e,c,d⟩:=id (show s.heap.IsTupleIter it a i from hi)
  obtain⟨u,eu,_,n,du⟩:=(show s.heap.IsTuple a xs from ha)
  have ty:=Heap.IsTupleIter.typeIs (show s.heap.IsTupleIter it a i from hi)
  unfold Builtin.SmallTypes.nextOf
  refine aa (bF (name:=Str.ofString "__next__") ty F.slot_tuple_iterator_next (bG F.slot_tuple_iterator_next ty F.entry_tuple_iterator_next (?_:wpAny (model prog w) _ (field (.ref it) 0 >>= _) _ _ s) (F.args_tuple_iterator_next_1 _)))
  refine aa (bu e d (x:= .ref a) rfl (?_:wpAny (model prog w) _ (if (Value.ref a==Value.none)=true then _ else _) _ _ s))
  rw[aB (by exact aw)]
  show wpAny (model prog w) _ (field (.ref it) 1 >>= _) _ _ s
  refine aa (bu e d (x:= .int i 0) rfl ?_)
  show wpAny (model prog w) _ (seqItems? (.ref a) >>= _) _ _ s
  refine aa (cm eu du ?_)
  simp only [cq,hx]
  refine aa (cW e d (by simp) (ag ⟨x,rfl,ag (k _ ⟨_,bo _ e (Obj.isFreed_of_fields (Obj.data_mapFields d _)),(Obj.cls_mapFields ..).trans c,?_⟩ (eV ..))⟩))
  rw[Obj.data_mapFields d]
  simp [rawInt]
theorem next0 {tp:Bool}{it a:Addr}{i:Nat}{xs:Array Value}{Q:Value->Shared->Prop}(hh:A.handled=none)(hi:ItAt tp s.heap it a i)(ha:ObAt tp s.heap a xs)(hx:xs[i]?=none)
  (k:∀ h' e,Heap.ExtBut it s.heap h'->(∃ o,h'.get? e=some o/\o.cls= .type "StopIteration")->E (.ref e) { s with heap:=h'}):wpAny (model prog w) A (Builtin.SmallTypes.nextOf (.ref it)) Q E s:=by
 cases tp with
 | false=>exact wpAny_nextOf_list_end hh hi ha hx k
 | true=>
  obtain⟨o,e,c,d⟩:=id (show s.heap.IsTupleIter it a i from hi)
  obtain⟨u,eu,_,n,du⟩:=(show s.heap.IsTuple a xs from ha)
  have ty:=Heap.IsTupleIter.typeIs (show s.heap.IsTupleIter it a i from hi)
  unfold Builtin.SmallTypes.nextOf
  refine aa (bF (name:=Str.ofString "__next__") ty F.slot_tuple_iterator_next (bG F.slot_tuple_iterator_next ty F.entry_tuple_iterator_next (?_:wpAny (model prog w) _ (field (.ref it) 0 >>= _) _ _ s) (F.args_tuple_iterator_next_1 _)))
  refine aa (bu e d (x:= .ref a) rfl (?_:wpAny (model prog w) _ (if (Value.ref a==Value.none)=true then _ else _) _ _ s))
  rw[aB (by exact aw)]
  show wpAny (model prog w) _ (field (.ref it) 1 >>= _) _ _ s
  refine aa (bu e d (x:= .int i 0) rfl ?_)
  show wpAny (model prog w) _ (seqItems? (.ref a) >>= _) _ _ s
  refine aa (cm eu du ?_)
  simp only [cq,hx]
  refine aa (dX (aa (cW e d (by simp) (?_:wpAny (model prog w) _ (newExc (.type "StopIteration") [] >>= _) _ _ _))))
  refine aa (by
   simp only [newExc,newTuple]
   refine aa (bv (aa (m:=firstArgMember _ _) (fA (a:=Value.none) (by first | rfl | (simp only [firstArgMember]; rfl)) (bv ?_ (by size_fits)))) (by size_fits))
   simp only [raiseNew]
   refine aa (wpAny_handled ?_)
   first | rw[show A.in1.handled=none from hh] | rw[hh]
   exact aa (ag (wpAny_throw (k _ _ (((eV ..).extBut.push _).push _) ⟨_,ay _ rfl,rfl⟩))))
theorem jIH {t1 t2:Bool}{z TI TO i1 i2 l1 l2:Addr}{k1 k2:Nat}{xs ys:Array Value}{x y a b:Value}{Q:Value->Shared->Prop}(D:ZipApart z TI TO i1 i2 l1 l2)
  (ez:IsZip s.heap z TI TO .none) (eI:IsPair s.heap TI (.ref i1) (.ref i2)) (eO:IsPair s.heap TO a b) (g1:ItAt t1 s.heap i1 l1 k1) (g2:ItAt t2 s.heap i2 l2 k2) (o1:ObAt t1 s.heap l1 xs) (o2:ObAt t2 s.heap l2 ys) (hx:xs[k1]?=some x) (hy:ys[k2]?=some y)
  (k:∀ h',IsZip h' z TI TO (rawInt s.heap.objs.size)->IsPair h' TO x y->ItAt t1 h' i1 l1 (k1+1)->ItAt t2 h' i2 l2 (k2+1)->IsPair h' s.heap.objs.size x y->h'.objs.size=s.heap.objs.size+1->
   (∀ c o,c≠z->c≠TO->c≠i1->c≠i2->s.heap.get? c=some o->h'.get? c=some o)->Q (.ref s.heap.objs.size) { s with heap:=h'}):
  wpAny (model prog w) A (Builtin.«zip.__next__» ⟨[.ref z],[]⟩) (fun fin s'=>∃ v,fin= .done (.ret v)/\Q v s') E s:=by
 show wpAny (model prog w) A (field (.ref z) 2 >>= _) _ _ _
 refine aa (bu ez rfl (x:= .bool false) rfl (?_:wpAny (model prog w) A (field (.ref z) 3 >>= _) _ _ _))
 refine aa (bu ez rfl (x:= .ref TI) rfl (aa (cm eI rfl (?_:wpAny (model prog w) A (Builtin.SmallTypes.ownedTupleIsFree (.ref z) >>= _) _ _ _))))
 refine aa (by
  unfold Builtin.SmallTypes.ownedTupleIsFree
  refine aa (bu ez rfl (x:= .none) rfl (ag ?_))
  simp only [ef]
  refine aa (dX (aa (bu ez rfl (x:= .ref TO) rfl (aa (bN ez (by simp) fun p1 f1 q1=>?_)))))
  have f1:IsZip p1 z TI TO .ellipsis:=f1
  refine aa (by
   simp only [List.zipIdx_cons,List.zipIdx_nil,gt,List.forIn_nil]
   refine aa (aa (fX (?_:wpAny (model prog w) A (Builtin.SmallTypes.nextOf (.ref i1) >>= _) _ _ _)))
   refine aa (next1 (g1.but q1.extBut D.i1z) (o1.but q1.extBut D.l1z) hx fun p2 r2 q2=>ag ?_)
   have eO2:IsPair p2 TO a b:=q2.extBut _ _ D.TOi1 (q1.extBut _ _ D.TOz eO)
   refine aa (cm eO2 rfl (aa (eF eO2 fun p3 eO3 q3=>aa (wpAny_letGo (ag ?_)))))
   have eO3:IsPair p3 TO x b:=eO3
   refine aa (aa (fX (?_:wpAny (model prog w) A (Builtin.SmallTypes.nextOf (.ref i2) >>= _) _ _ _)))
   refine aa (next1 (((g2.but q1.extBut D.i2z).but q2.extBut D.i12.symm).but q3.extBut D.TOi2.symm) (((o2.but q1.extBut D.l2z).but q2.extBut D.l2i1).but q3.extBut D.l2TO) hy fun p4 r4 q4=>ag ?_)
   have eO4:IsPair p4 TO x b:=q4.extBut _ _ D.TOi2 eO3
   refine aa (cm eO4 rfl (aa (eF eO4 fun p5 eO5 q5=>aa (wpAny_letGo (ag (ag ?_))))))
   have eO5:IsPair p5 TO x y:=eO5
   refine aa (cm eO5 rfl (aa (wpAny_newTuple ?_)))
   have sz:p5.objs.size=s.heap.objs.size:=by rw[q5.1,q4.1,q3.1,q2.1,q1.1]
   have ez5:IsZip p5 z TI TO .ellipsis:=q5.extBut _ _ D.TOz.symm (q4.extBut _ _ D.i2z.symm (q3.extBut _ _ D.TOz.symm (q2.extBut _ _ D.i1z.symm f1)))
   have kp5:∀ c o,c≠z->c≠TO->c≠i1->c≠i2->s.heap.get? c=some o->p5.get? c=some o:=fun c o n1 n2 n3 n4 e=>q5.extBut _ _ n2 (q4.extBut _ _ n4 (q3.extBut _ _ n2 (q2.extBut _ _ n3 (q1.extBut _ _ n1 e))))
   have r15:ItAt t1 p5 i1 l1 (k1+1):=((r2.but q3.extBut D.TOi1.symm).but q4.extBut D.i12).but q5.extBut D.TOi1.symm
   have r25:ItAt t2 p5 i2 l2 (k2+1):=r4.but q5.extBut D.TOi2.symm
   have zlt:z<p5.objs.size:=au ez5
   show wpAny (model prog w) A (Builtin.SmallTypes.ownedTupleHandOut (.ref z) (.ref p5.objs.size) >>= _) _ _ _
   refine aa ?_
   unfold Builtin.SmallTypes.ownedTupleHandOut
   have f6:IsZip (p5.push { cls:= .type "tuple",data:= .seq #[x,y]}) z TI TO .ellipsis:=ae _ ez5
   refine aa (bN f6 (by simp) fun p7 f7 q7=>?_)
   have f7:IsZip p7 z TI TO (rawInt p5.objs.size):=f7
   refine bN f7 (by simp) fun p8 f8 q8=>?_
   have f8:IsZip p8 z TI TO (rawInt p5.objs.size):=f8
   have up:∀ c o,c≠z->p5.get? c=some o->p8.get? c=some o:=fun c o n1 e=>q8.extBut _ _ n1 (q7.extBut _ _ n1 (ae _ e))
   have eT:IsPair p8 p5.objs.size x y:=q8.extBut _ _ (cE zlt) (q7.extBut _ _ (cE zlt) (ay _ rfl))
   have sz8:p8.objs.size=p5.objs.size+1:=by rw[q8.1,q7.1,bT]
   rw[sz] at f8 eT sz8
   refine ag ⟨_,rfl,(?_:Q (.ref p5.objs.size) _)⟩
   rw[sz]
   exact k p8 f8 (up _ _ D.TOz eO5) (r15.at fun o e=>up _ o D.i1z e) (r25.at fun o e=>up _ o D.i2z e) eT sz8 fun c o n1 n2 n3 n4 e=>up c o n1 (kp5 c o n1 n2 n3 n4 e)))
theorem jLR {t1 t2:Bool}{z TI TO i1 i2 l1 l2:Addr}{k1 k2:Nat}{xs ys:Array Value}{a b:Value}{Q:Fin->Shared->Prop}(hh:A.handled=none)(D:ZipApart z TI TO i1 i2 l1 l2)
  (ez:IsZip s.heap z TI TO .none) (eI:IsPair s.heap TI (.ref i1) (.ref i2)) (eO:IsPair s.heap TO a b) (g1:ItAt t1 s.heap i1 l1 k1) (g2:ItAt t2 s.heap i2 l2 k2) (o1:ObAt t1 s.heap l1 xs) (o2:ObAt t2 s.heap l2 ys) (hend:xs[k1]?=none\/ys[k2]?=none)
  (k:∀ h' e,(∀ c o,c≠z->c≠TO->c≠i1->c≠i2->s.heap.get? c=some o->h'.get? c=some o)->(∃ o,h'.get? e=some o/\o.cls= .type "StopIteration")->E (.ref e) { s with heap:=h'}):
  wpAny (model prog w) A (Builtin.«zip.__next__» ⟨[.ref z],[]⟩) Q E s:=by
 show wpAny (model prog w) A (field (.ref z) 2 >>= _) _ _ _
 refine aa (bu ez rfl (x:= .bool false) rfl (?_:wpAny (model prog w) A (field (.ref z) 3 >>= _) _ _ _))
 refine aa (bu ez rfl (x:= .ref TI) rfl (aa (cm eI rfl (?_:wpAny (model prog w) A (Builtin.SmallTypes.ownedTupleIsFree (.ref z) >>= _) _ _ _))))
 refine aa (by
  unfold Builtin.SmallTypes.ownedTupleIsFree
  refine aa (bu ez rfl (x:= .none) rfl (ag ?_))
  simp only [ef]
  refine aa (dX (aa (bu ez rfl (x:= .ref TO) rfl (aa (bN ez (by simp) fun p1 f1 q1=>?_)))))
  have f1:IsZip p1 z TI TO .ellipsis:=f1
  refine aa (by
   simp only [List.zipIdx_cons,List.zipIdx_nil,gt,List.forIn_nil]
   refine aa (aa (fX (?_:wpAny (model prog w) A (Builtin.SmallTypes.nextOf (.ref i1) >>= _) _ _ _)))
   cases hx:xs[k1]? with
   | none=>
    refine aa (next0 hh (g1.but q1.extBut D.i1z) (o1.but q1.extBut D.l1z) hx fun p2 e q2 ⟨u,eu,cu⟩=>?_)
    have f2:IsZip p2 z TI TO .ellipsis:=q2 _ _ D.i1z.symm f1
    have nz:e≠z:=fun v=>by subst v; rw[f2] at eu; cases eu; simp at cu
    exact bN f2 (by simp) fun p3 _ q3=>k p3 e (fun c o n1 _ n3 _ v=>q3.extBut _ _ n1 (q2 _ _ n3 (q1.extBut _ _ n1 v))) ⟨u,q3.extBut _ _ nz eu,cu⟩
   | some x=>
    have hy:ys[k2]?=none:=by
     rcases hend with v | v
     ·rw[hx] at v; cases v
     ·exact v
    refine aa (next1 (g1.but q1.extBut D.i1z) (o1.but q1.extBut D.l1z) hx fun p2 r2 q2=>ag ?_)
    have eO2:IsPair p2 TO a b:=q2.extBut _ _ D.TOi1 (q1.extBut _ _ D.TOz eO)
    refine aa (cm eO2 rfl (aa (eF eO2 fun p3 eO3 q3=>aa (wpAny_letGo (ag ?_)))))
    refine aa (aa (fX (?_:wpAny (model prog w) A (Builtin.SmallTypes.nextOf (.ref i2) >>= _) _ _ _)))
    refine aa (next0 hh (((g2.but q1.extBut D.i2z).but q2.extBut D.i12.symm).but q3.extBut D.TOi2.symm) (((o2.but q1.extBut D.l2z).but q2.extBut D.l2i1).but q3.extBut D.l2TO) hy fun p4 e q4 ⟨u,eu,cu⟩=>?_)
    have f4:IsZip p4 z TI TO .ellipsis:=q4 _ _ D.i2z.symm (q3.extBut _ _ D.TOz.symm (q2.extBut _ _ D.i1z.symm f1))
    have nz:e≠z:=fun v=>by subst v; rw[f4] at eu; cases eu; simp at cu
    exact bN f4 (by simp) fun p5 _ q5=>k p5 e (fun c o n1 n2 n3 n4 v=>q5.extBut _ _ n1 (q4 _ _ n4 (q3.extBut _ _ n2 (q2.extBut _ _ n3 (q1.extBut _ _ n1 v))))) ⟨u,q5.extBut _ _ nz eu,cu⟩))
theorem jGB {t1 t2:Bool}{z TI TO i1 i2 l1 l2:Addr}{k1 k2:Nat}{xs ys:Array Value}{x y a b:Value}{Q:Option Value->Shared->Prop}(D:ZipApart z TI TO i1 i2 l1 l2)
  (ez:IsZip s.heap z TI TO .none) (eI:IsPair s.heap TI (.ref i1) (.ref i2)) (eO:IsPair s.heap TO a b) (g1:ItAt t1 s.heap i1 l1 k1) (g2:ItAt t2 s.heap i2 l2 k2) (o1:ObAt t1 s.heap l1 xs) (o2:ObAt t2 s.heap l2 ys) (hx:xs[k1]?=some x) (hy:ys[k2]?=some y)
  (k:∀ h',IsZip h' z TI TO (rawInt s.heap.objs.size)->IsPair h' TO x y->ItAt t1 h' i1 l1 (k1+1)->ItAt t2 h' i2 l2 (k2+1)->IsPair h' s.heap.objs.size x y->h'.objs.size=s.heap.objs.size+1->
   (∀ c o,c≠z->c≠TO->c≠i1->c≠i2->s.heap.get? c=some o->h'.get? c=some o)->Q (some (.ref s.heap.objs.size)) { s with heap:=h'}):
  wpAny (model prog w) A (pyNext (.ref z)) Q E s:=by
 have ty:s.TypeIs (.ref z) "zip" :=⟨_,ez,rfl⟩
 unfold pyNext
 exact aa (cM (bF (name:=Str.ofString "__next__") ty F.slot_zip_next (bG F.slot_zip_next ty F.entry_zip_next (jIH D ez eI eO g1 g2 o1 o2 hx hy fun h' b1 b2 b3 b4 b5 b6 b7=>ag (k h' b1 b2 b3 b4 b5 b6 b7)) (F.args_zip_next_1 _))))
theorem jGC {t1 t2:Bool}{z TI TO i1 i2 l1 l2:Addr}{k1 k2:Nat}{xs ys:Array Value}{a b:Value}{Q:Option Value->Shared->Prop}(hh:A.handled=none)(D:ZipApart z TI TO i1 i2 l1 l2)
  (ez:IsZip s.heap z TI TO .none) (eI:IsPair s.heap TI (.ref i1) (.ref i2)) (eO:IsPair s.heap TO a b) (g1:ItAt t1 s.heap i1 l1 k1) (g2:ItAt t2 s.heap i2 l2 k2) (o1:ObAt t1 s.heap l1 xs) (o2:ObAt t2 s.heap l2 ys) (hend:xs[k1]?=none\/ys[k2]?=none)
  (k:∀ h',(∀ c o,c≠z->c≠TO->c≠i1->c≠i2->s.heap.get? c=some o->h'.get? c=some o)->Q none { s with heap:=h'}):wpAny (model prog w) A (pyNext (.ref z)) Q E s:=by
 have ty:s.TypeIs (.ref z) "zip" :=⟨_,ez,rfl⟩
 unfold pyNext
 refine aa (cM (bF (name:=Str.ofString "__next__") ty F.slot_zip_next (bG F.slot_zip_next ty F.entry_zip_next (jLR hh D ez eI eO g1 g2 o1 o2 hend fun h' e kp ⟨u,eu,cu⟩=>?_) (F.args_zip_next_1 _))))
 exact aa (gc (T:= "StopIteration") (b:=true) ⟨u,eu,cu⟩ isSubtype_stop (ag (k _ kp)))
end
noncomputable def iterO (tp:Bool)(a:Addr):Obj:=match tp with
 | false=> { cls:= .type "list_iterator",data:= .fields #[.ref a, .int 0 0]}
 | true=> { cls:= .type "tuple_iterator",data:= .fields #[.ref a, .int 0 0]}
theorem jDW (tp:Bool)(a:Addr):(iterO tp a).isFreed=false:=by cases tp <;> rfl
theorem ObAt.push {tp:Bool}{h:Heap}{a:Addr}{xs:Array Value}(x:ObAt tp h a xs)(o:Obj):ObAt tp (h.push o) a xs:=by
 cases tp with
 | false=>exact Heap.IsList.push x o
 | true=>exact Heap.IsTuple.push x o
theorem jJ6 {prog:Program}{w:World}{A:Around}{E:Value->Shared->Prop}{s:Shared}{tp:Bool}{a:Addr}{xs:Array Value}{Q:Value->Shared->Prop}(h:ObAt tp s.heap a xs)(q:Q (.ref s.heap.objs.size) { s with heap:=s.heap.push (iterO tp a)}):
  wpAny (model prog w) A (pyIter (.ref a)) Q E s:=by
 cases tp with
 | false=>exact dF h q
 | true=>exact wpAny_pyIter_tuple h q
def zp1 (t1:Bool)(h:Heap)(l1:Addr):Heap:=h.push (iterO t1 l1)
def zp2 (t1 t2:Bool)(h:Heap)(l1 l2:Addr):Heap:=(zp1 t1 h l1).push (iterO t2 l2)
def zp3 (t1 t2:Bool)(h:Heap)(l1 l2:Addr):Heap:=(zp2 t1 t2 h l1 l2).push { cls:= .type "tuple",data:= .seq #[.ref h.objs.size, .ref (zp1 t1 h l1).objs.size]}
def zp4 (t1 t2:Bool)(h:Heap)(l1 l2:Addr):Heap:=(zp3 t1 t2 h l1 l2).push { cls:= .type "tuple",data:= .seq #[.none, .none]}
def zp5 (t1 t2:Bool)(h:Heap)(l1 l2:Addr):Heap:=(zp4 t1 t2 h l1 l2).push { cls:= .type "zip",data:= .fields #[.none, .bool false, .bool false, .ref (zp2 t1 t2 h l1 l2).objs.size, .ref (zp3 t1 t2 h l1 l2).objs.size]}
theorem jI6 (t1 t2:Bool)(l1 l2:Addr)(xs ys:Array Value):
  Meets (Builtin.«zip.__new__» ⟨[.type "zip", .ref l1, .ref l2],[]⟩) (fun _ R s=>ObAt t1 s.heap l1 xs/\ObAt t2 s.heap l2 ys/\R (.ok (.ret (.ref (zp4 t1 t2 s.heap l1 l2).objs.size))) { s with heap:=zp5 t1 t2 s.heap l1 l2}):=
 .of_wp fun prog w A R s h=>by
  obtain⟨hp,g,d,tk,os⟩:=s
  obtain⟨a1,a2,q⟩:=h
  have sub:=sub_zip
  have e1:ObAt t1 (Shared.heap ⟨hp,g,d,tk,os⟩) l1 xs:=a1
  have e2:ObAt t2 (Shared.heap ⟨hp.push (iterO t1 l1),g,d,tk,os⟩) l2 ys:=ObAt.push a2 _
  wp_walk using jJ6 e1,jJ6 e2
  exact⟨_,rfl,q⟩
theorem ItAt.new (tp:Bool){h:Heap}{it a:Addr}(e:h.get? it=some (iterO tp a)):ItAt tp h it a 0:=by
 cases tp with
 | false=>exact⟨_,e,rfl,rfl⟩
 | true=>exact⟨_,e,rfl,rfl⟩
theorem jL8 {prog:Program}{w:World}{A:Around}{E:Value->Shared->Prop}{s:Shared}{t1 t2:Bool}{l1 l2:Addr}{xs ys:Array Value}{Q:Value->Shared->Prop}(a1:ObAt t1 s.heap l1 xs)(a2:ObAt t2 s.heap l2 ys)
  (k:∀ h',IsZip h' (s.heap.objs.size+4) (s.heap.objs.size+2) (s.heap.objs.size+3) .none->IsPair h' (s.heap.objs.size+2) (.ref s.heap.objs.size) (.ref (s.heap.objs.size+1))->
   IsPair h' (s.heap.objs.size+3) .none .none->ItAt t1 h' s.heap.objs.size l1 0->ItAt t2 h' (s.heap.objs.size+1) l2 0->(∀ c o,s.heap.get? c=some o->h'.get? c=some o)->Q (.ref (s.heap.objs.size+4)) { s with heap:=h'}):
  wpAny (model prog w) A (call (.type "zip") [.ref l1, .ref l2]) Q E s:=by
 refine callType_new F.called_zip (by decide) (F.typeCall_zip_2 _ _) (F.newCall_zip_2 _ _) (fun obj=>F.args_object_init_3 obj _ _) F.entry_zip_new (jI6 t1 t2 l1 l2 xs ys) ⟨a1,a2,?_⟩
 have z1:(zp1 t1 s.heap l1).objs.size=s.heap.objs.size+1:=bT ..
 have z2:(zp2 t1 t2 s.heap l1 l2).objs.size=s.heap.objs.size+2:=(bT ..).trans (bn (· +1) z1)
 have z3:(zp3 t1 t2 s.heap l1 l2).objs.size=s.heap.objs.size+3:=(bT ..).trans (bn (· +1) z2)
 have z4:(zp4 t1 t2 s.heap l1 l2).objs.size=s.heap.objs.size+4:=(bT ..).trans (bn (· +1) z3)
 have y5:(zp5 t1 t2 s.heap l1 l2).get? (zp4 t1 t2 s.heap l1 l2).objs.size=some { cls:= .type "zip",data:= .fields #[.none, .bool false, .bool false, .ref (zp2 t1 t2 s.heap l1 l2).objs.size, .ref (zp3 t1 t2 s.heap l1 l2).objs.size]} :=ay _ rfl
 have y4:(zp5 t1 t2 s.heap l1 l2).get? (zp3 t1 t2 s.heap l1 l2).objs.size=some { cls:= .type "tuple",data:= .seq #[.none, .none]} :=ae _ (ay _ rfl)
 have y3:(zp5 t1 t2 s.heap l1 l2).get? (zp2 t1 t2 s.heap l1 l2).objs.size=some { cls:= .type "tuple",data:= .seq #[.ref s.heap.objs.size, .ref (zp1 t1 s.heap l1).objs.size]} :=ae _ (ae _ (ay _ rfl))
 have y2:(zp5 t1 t2 s.heap l1 l2).get? (zp1 t1 s.heap l1).objs.size=some (iterO t2 l2):=ae _ (ae _ (ae _ (ay _ (jDW _ _))))
 have y1:(zp5 t1 t2 s.heap l1 l2).get? s.heap.objs.size=some (iterO t1 l1):=ae _ (ae _ (ae _ (ae _ (ay _ (jDW _ _)))))
 have up:∀ c o,s.heap.get? c=some o->(zp5 t1 t2 s.heap l1 l2).get? c=some o:=fun c o e=>ae _ (ae _ (ae _ (ae _ (ae _ e))))
 rw[z2,z3,z4] at y5
 rw[z1,z2] at y3
 rw[z3] at y4
 rw[z1] at y2
 show _/\_
 rw[z4]
 exact⟨⟨_,y5,rfl⟩,k _ y5 y3 y4 (.new t1 y1) (.new t2 y2) up⟩
section
variable {X:Cx}
def Sq (tp:Bool)(K:W.Frag)(H:Hp)(a:Addr)(xs:List V):Prop:=match tp with
 | false=>SqL K H a xs
 | true=>SqT K H a xs
theorem Inv.sq {X:Cx}{pins:List (Addr×Obj)}{σ:St}{H:Hp}{s:Shared}{tp:Bool}{a:Addr}{xs:List V}(I:Inv X pins σ H s)(h:Sq tp X.K H a xs):∃ its:List Value,Vals xs its/\ObAt tp s.heap a its.toArray/\xs.length<=sizeLine:=by
 cases tp with
 | false=>
  obtain⟨its,r,p,z⟩:=I.list h
  exact⟨its,r,p.isList,z⟩
 | true=>exact I.tuple h
theorem Inv.sq_inj {X:Cx}{pins:List (Addr×Obj)}{σ:St}{H:Hp}{s:Shared}{tp:Bool}{a:Addr}{xs ys:List V}(I:Inv X pins σ H s)(h:Sq tp X.K H a xs)(h':Sq tp X.K H a ys):xs=ys:=by
 cases tp with
 | false=>exact I.list_inj h h'
 | true=>exact I.tuple_inj h h'
def Itz (t1 t2:Bool)(K:W.Frag)(l1 l2:Addr):It:=
 ⟨fun i H=>∃ xs ys x y,Sq t1 K H l1 xs/\Sq t2 K H l2 ys/\xs[i]?=some x/\ys[i]?=some y,
  fun i H v H'=>∃ T x y,H T=none/\v= .ref T/\H'=upd H T (.tup [x,y])/\∀ xs ys,Sq t1 K H l1 xs->Sq t2 K H l2 ys->xs[i]?=some x/\ys[i]?=some y,
  fun i H=>∃ xs ys,Sq t1 K H l1 xs/\Sq t2 K H l2 ys/\(xs.length<=i\/ys.length<=i)⟩
theorem jLU {P:Program}{w:World}{K:W.Frag}{elts:List Expr}{x1:Nat}{tp:Pos}(t1 t2:Bool)(l1 l2 z TI TO i1 i2:Addr)(D:ZipApart z TI TO i1 i2 l1 l2):
  Turn P w K (.Tuple elts x1 tp) (Itz t1 t2 K l1 l2) [z,TO,i1,i2,TI] z (fun i h=>IsZip h z TI TO .none/\IsPair h TI (.ref i1) (.ref i2)/\(∃ a b,IsPair h TO a b)/\ItAt t1 h i1 l1 i/\ItAt t2 h i2 l2 i) where
 mem:=by simp
 obj:=fun i h st b hb=>by
  obtain⟨hz,hTI,⟨a,c,hTO⟩,y1,y2⟩:=st
  simp only [av,bj,cK] at hb
  rcases hb with rfl | rfl | rfl | rfl | rfl
  ·exact⟨_,hz,fun v q=>by cases q⟩
  ·exact⟨_,hTO,fun v q=>by cases q⟩
  ·exact y1.obj
  ·exact y2.obj
  ·exact⟨_,hTI,fun v q=>by cases q⟩
 keep:=fun i h h' st k=>by
  obtain⟨hz,hTI,⟨a,c,hTO⟩,h1,h2⟩:=st
  exact⟨k z (by simp) _ hz,k TI (by simp) _ hTI,⟨a,c,k TO (by simp) _ hTO⟩,h1.at fun o e=>k i1 (by simp) o e,h2.at fun o e=>k i2 (by simp) o e⟩
 item:=by
  intro X hP hw hK hc i pins s σ H E I hf st hg
  subst hP hw hK
  obtain⟨xs,ys,x,y,hq1,hq2,hx,hy⟩:=hg
  obtain⟨hz,hTI,⟨a,c,hTO⟩,h1,h2⟩:=st
  obtain⟨its1,r1,p1,_⟩:=I.sq hq1
  obtain⟨its2,r2,p2,_⟩:=I.sq hq2
  obtain⟨u,hu,ru⟩:=r1.get hx
  obtain⟨v,hv,rv⟩:=r2.get hy
  refine jGB D hz hTI hTO h1 h2 p1 p2 (x:=u) (y:=v) (by simpa using hu) (by simpa using hv) fun h' a1 a2 a3 a4 a5 a6 a7=>?_
  refine⟨_,rfl,wpAny_letOwnedTupleGo_zip (s:= { s with heap:=h'}) a1 fun h'' b1 sb=>?_⟩
  have fresh:H s.heap.objs.size=none:=I.fresh
  have nch:∀ b∈([z,TO,i1,i2]:List Addr),FpOk X pins H b:=fun b hb=>hf b (by
   simp only [av,bj,cK] at hb ⊢
   rcases hb with q | q | q | q
   ·exact .inl q
   ·exact .inr (.inl q)
   ·exact .inr (.inr (.inl q))
   ·exact .inr (.inr (.inr (.inl q))))
  have ntr:∀ b o,H b=some o->b∉([z,TO,i1,i2]:List Addr):=fun b o e hb=>by
   have:=(nch b hb).1
   rw[e] at this; cases this
  have kp:∀ b o,b∉([z,TO,i1,i2]:List Addr)->s.heap.get? b=some o->h''.get? b=some o:=fun b o hb e=>by
   simp only [av,bj,cK,not_or] at hb
   exact(sb.2 b hb.1).trans (a7 b o hb.1 hb.2.1 hb.2.2.1 hb.2.2.2 e)
  have nz:s.heap.objs.size≠z:=cE (au hz)
  have hT2:h''.get? s.heap.objs.size=some { cls:= .type "tuple",data:= .seq #[u,v]} :=(sb.2 _ nz).trans a5
  have I2:Inv X pins σ (upd H s.heap.objs.size (.tup [x,y])) { s with heap:=h''} :=by
   refine I.step (g':=s.gens) (d':=s.drawn) (t':=s.toks) (ch:=[z,TO,i1,i2]) (fun b hb=>?_) (fun b o _ _ hb e _=>kp b o hb e) (fun b o _ _ hb e _=>⟨o.slots,kp b o hb e⟩)
    (fun b o _ e n=>by rw[jG (aN (au e))]; exact n) (fun b o hb e=>⟨o,kp b o hb e⟩) (fun b ws e=>by rw[jG (jD e fresh)]; exact e) (fun b o ws e=>by rw[jG (jD e fresh)]; exact e)
    (fun b ps e=>⟨#[],by rw[jG (jD e fresh),e]; simp⟩) (fun m hm=>?_) (fun b o e=>?_) I.bare
   ·obtain⟨f0,f1,f2,f3,f4,f5⟩:=nch b hb
    exact⟨f3,f1,f4,f5⟩
   ·obtain⟨o,es,ep,ho,r⟩:=hm
    exact⟨o,es,ep,kp _ o (fun hb=>(nch _ hb).2.1 rfl) ho,r⟩
   ·by_cases hb:b=s.heap.objs.size
    ·subst hb
     rw[j8] at e
     cases e
     exact⟨by rw[cD]; show 2<=_; decide,[u,v], .cons ru (.cons rv .nil),0,hT2⟩
    ·rw[jG hb] at e
     refine(I.hok b o e).stay (fun c w hc q=>kp c w ?_ q) (fun c q=>by rw[jG (jD q fresh)]; exact q) (fun c ws q=>by rw[jG (jD q fresh)]; exact q)
     rcases hc with rfl | hc
     ·exact ntr _ _ e
     ·exact ntr _ _ hc
  refine⟨.ref s.heap.objs.size,_,I2,rfl,⟨_,x,y,fresh,rfl,rfl,fun xs' ys' q1 q2=>⟨by rw[I.sq_inj q1 hq1]; exact hx,by rw[I.sq_inj q2 hq2]; exact hy⟩⟩,⟨b1,?_,⟨u,v,?_⟩,?_,?_⟩,fun b hb=>?_⟩
  ·exact kp TI _ (by simp [D.TIz,D.TITO,D.TIi1,D.TIi2]) hTI
  ·exact(sb.2 TO D.TOz).trans a2
  ·exact a3.at fun o e=>(sb.2 i1 D.i1z).trans e
  ·exact a4.at fun o e=>(sb.2 i2 D.i2z).trans e
  ·rw[jG (fun q=>by
    obtain⟨o,eo⟩:∃ o,s.heap.get? b=some o:=by
     simp only [av,bj,cK] at hb
     rcases hb with rfl | rfl | rfl | rfl | rfl
     ·exact⟨_,hz⟩
     ·exact⟨_,hTO⟩
     ·obtain⟨o,e,_⟩:=h1.obj; exact⟨o,e⟩
     ·obtain⟨o,e,_⟩:=h2.obj; exact⟨o,e⟩
     ·exact⟨_,hTI⟩
    exact absurd (au eo) (by rw[q]; exact cg _))]
   exact(hf b hb).1
 done:=by
  intro X hP hw hK hc i pins s σ H E I hf st hg
  subst hP hw hK
  obtain⟨xs,ys,hq1,hq2,hend⟩:=hg
  obtain⟨hz,hTI,⟨a,c,hTO⟩,h1,h2⟩:=st
  obtain⟨its1,r1,p1,_⟩:=I.sq hq1
  obtain⟨its2,r2,p2,_⟩:=I.sq hq2
  have e1:=r1.length
  have e2:=r2.length
  refine jGC (I.ok.hd hc) D hz hTI hTO h1 h2 p1 p2 (by
   rcases hend with q | q
   ·exact .inl (by simp; omega)
   ·exact .inr (by simp; omega)) fun h' kp=>⟨rfl,?_⟩
  have nch:∀ b∈([z,TO,i1,i2]:List Addr),FpOk X pins H b:=fun b hb=>hf b (by
   simp only [av,bj,cK] at hb ⊢
   rcases hb with q | q | q | q
   ·exact .inl q
   ·exact .inr (.inl q)
   ·exact .inr (.inr (.inl q))
   ·exact .inr (.inr (.inr (.inl q))))
  have kp2:∀ b o,b∉([z,TO,i1,i2]:List Addr)->s.heap.get? b=some o->h'.get? b=some o:=fun b o hb e=>by
   simp only [av,bj,cK,not_or] at hb
   exact kp b o hb.1 hb.2.1 hb.2.2.1 hb.2.2.2 e
  have ntr:∀ b o,H b=some o->b∉([z,TO,i1,i2]:List Addr):=fun b o e hb=>by
   have:=(nch b hb).1
   rw[e] at this; cases this
  refine I.step (g':=s.gens) (d':=s.drawn) (t':=s.toks) (ch:=[z,TO,i1,i2]) (fun b hb=>?_) (fun b o _ _ hb e _=>kp2 b o hb e) (fun b o _ _ hb e _=>⟨o.slots,kp2 b o hb e⟩)
   (fun b o _ e n=>n) (fun b o hb e=>⟨o,kp2 b o hb e⟩) (fun b ws e=>e) (fun b o ws e=>e) (fun b ps e=>⟨#[],by rw[e]; simp⟩) (fun m hm=>?_) (fun b o e=>?_) I.bare
  ·obtain⟨f0,f1,f2,f3,f4,f5⟩:=nch b hb
   exact⟨f3,f1,f4,f5⟩
  ·obtain⟨o,es,ep,ho,r⟩:=hm
   exact⟨o,es,ep,kp2 _ o (fun hb=>(nch _ hb).2.1 rfl) ho,r⟩
  ·refine(I.hok b o e).stay (fun c w hc q=>kp2 c w ?_ q) (fun _ q=>q) fun _ _ q=>q
   rcases hc with rfl | hc
   ·exact ntr _ _ e
   ·exact ntr _ _ hc
 self:=fun _ _ _ _ _ st h=>wpAny_pyIter_zip st.1 h
def iZip (K:W.Frag)(ta:TA):TI:=fun σ H R=>ta σ H fun vs H1=>∃ t1 t2 l1 l2,vs=[.ref l1, .ref l2]/\(∃ xs,Sq t1 K H1 l1 xs)/\(∃ ys,Sq t2 K H1 l2 ys)/\R (Itz t1 t2 K l1 l2) H1
theorem jQK {a b:Expr}{ta:TA}{p pos:Pos}{elts:List Expr}{x1:Nat}{tp:Pos}(hg:Gl X "zip")(hm:X.mg "zip" =none)(ha:PA X [a,b] ta)(hv:bootBuiltins "zip" =some (.type "zip"):=by decide+kernel)
  (he:starEach [a,b] X.env=(false,eval a X.env)::starEach [b] X.env:=by rfl) (hpl:(backTo pos (starEach [b] X.env)).any (·.1)=false:=by rfl):
  PI X (.Tuple elts x1 tp) (.Call (.Name "zip" p) [a,b] [] pos) (iZip X.K ta):=by
 intro pins s σ H R I h
 refine Call_ (jDS I hg hm hv (cf (thn (ha pos pins s σ H _ I h) fun us s1 ⟨vs,H1,I1,r1,q1⟩=>?_) he hpl))
 obtain⟨t1,t2,l1,l2,rfl,⟨xs,hq1⟩,⟨ys,hq2⟩,q⟩:=q1
 obtain⟨u,v,rfl,ru,rv⟩:=r1.two
 cases ru
 cases rv
 obtain⟨its1,_,p1,_⟩:=I1.sq hq1
 obtain⟨its2,_,p2,_⟩:=I1.sq hq2
 have lt1:l1<s1.heap.objs.size:=p1.lt
 have lt2:l2<s1.heap.objs.size:=p2.lt
 refine jL8 p1 p2 fun h' a1 a2 a3 a4 a5 kp=>?_
 have I2:Inv X pins σ H1 { s1 with heap:=h'} :=I1.kept (t':=s1.toks) kp
 have D:ZipApart (s1.heap.objs.size+4) (s1.heap.objs.size+2) (s1.heap.objs.size+3) s1.heap.objs.size (s1.heap.objs.size+1) l1 l2:=zipApart_new lt1 lt2
 refine wpAny_pyIter_zip a1 ⟨s1.heap.objs.size+4,[s1.heap.objs.size+4,s1.heap.objs.size+3,s1.heap.objs.size,s1.heap.objs.size+1,s1.heap.objs.size+2],_,Itz t1 t2 X.K l1 l2,H1,rfl,I2,jLU t1 t2 l1 l2 _ _ _ _ _ D,⟨a1,a2,⟨_,_,a3⟩,a4,a5⟩,fun b hb=>?_,q⟩
 have hge:s1.heap.objs.size<=b:=by
  simp only [av,bj,cK] at hb
  rcases hb with rfl | rfl | rfl | rfl | rfl
  ·exact dY _ 4
  ·exact dY _ 3
  ·exact ao _
  ·exact dY _ 1
  ·exact dY _ 2
 exact I1.fpOk hge (I1.hok.fresh hge)
end
structure JE (X:Cx)(e:Expr)(t:TE):Prop where
 h:PE X e t
structure JA (X:Cx)(es:List Expr)(t:TA):Prop where
 h:PA X es t
structure JT (X:Cx)(e:Expr)(t:TT):Prop where
 h:PT X e t
structure JTs (X:Cx)(e:List Expr)(t:TT):Prop where
 h:PTs X e t
structure JS (X:Cx)(e:Stmt)(t:TS):Prop where
 h:PS X e t
structure JSs (X:Cx)(e:List Stmt)(t:TS):Prop where
 h:PSs X e t
structure JG (X:Cx)(e:Expr)(t:TG):Prop where
 h:PG X e t
structure JGs (X:Cx)(e:List Expr)(t:TGs):Prop where
 h:PGs X e t
structure JI (X:Cx)(tg e:Expr)(t:TI):Prop where
 h:PI X tg e t
structure JO (X:Cx)(e:Option Expr)(t:TO):Prop where
 h:PO X e t
structure Loc1 (X:Cx)(x:Str):Prop where
 a:Loc X.env.scope x
 b:X.fn x=true\/X.env.scope.names.lookup x=some .local
structure Vis1 (X:Cx)(x:Str):Prop where
 a:Vis X.env.scope x
structure Gl1 (X:Cx)(x:Str):Prop where
 a:Gl X x
section
variable {a b:Expr}{pos:Pos}{xs:List Expr}{o:Option Expr}{l:Nat}{env:Env}
structure SwOk (e:Expr)(o:Option Expr):Prop where
 h:∀ l env,swapsWith e o l env=pure false
theorem qU {op:Operator} :SwOk (.BinOp a op b pos) o:=⟨fun _ _=>rfl⟩
theorem kD {kw:List Keyword} :SwOk (.Call a xs kw pos) o:=⟨fun _ _=>rfl⟩
theorem jCU:SwOk (.Subscript a b pos) o:=⟨fun _ _=>rfl⟩
theorem jIR {x1} :SwOk (.Tuple xs x1 pos) o:=⟨fun _ _=>rfl⟩
theorem jEX:SwOk (.List xs pos) o:=⟨fun _ _=>rfl⟩
theorem jLX {c k} :SwOk (.Constant c k pos) o:=⟨fun _ _=>rfl⟩
theorem jQE {op:Operator} :jBK (.BinOp a op b pos):=fun _ _=>rfl
theorem jBC {kw:List Keyword} :jBK (.Call a xs kw pos):=fun _ _=>rfl
theorem jJ {i:Int}{k} :jBK (.Constant (.int i) k pos):=fun _ _=>rfl
theorem jE2 {x:Str} :jBK (.Name x pos):=fun _ _=>rfl
structure FoOk (iter:Expr):Prop where
 h:∀ env x,foldedSetIterable iter env x=pure x
theorem jAI {kw:List Keyword} :FoOk (.Call a xs kw pos):=⟨fun _ _=>rfl⟩
theorem jBF {x:Str} :FoOk (.Name x pos):=⟨fun _ _=>rfl⟩
theorem jNS:FoOk (.Subscript a b pos):=⟨fun _ _=>rfl⟩
structure TvOk (e:Expr):Prop where
 h:∀ env whole,isTrue e env whole=(do let v <- whole; standAt e.pos; holding [v] (truthy v))
theorem jY {kw:List Keyword} :TvOk (.Call a xs kw pos):=⟨fun _ _=>rfl⟩
theorem jO3 {x:Str} :TvOk (.Name x pos):=⟨fun _ _=>rfl⟩
end
section
variable {X:Cx}{a b e o:Expr}{ta tb te to:TE}{es:List Expr}{t:TA}{pos p p2 cpos apos:Pos}{x:Str}{T:String}{id:String}
theorem jv (i:Nat)(hN:X.N[i]?=some x)(hv:Vis1 X x)(hd:(x==("__debug__" :Str))=false:=by decide)(hcd:(x==("__classdict__" :Str))=false:=by decide):JE X (.Name x pos) (tVar i):=⟨jNH hN hv.a hd hcd⟩
theorem jC {i j} :JE X (.Constant (.int i) j pos) (tC (.int i)):=⟨kB⟩
theorem qO {i j} :JE X (.Constant (.bool i) j pos) (tC (.bl i)):=⟨pe_bl⟩
theorem yA {j} :JE X (.Constant .none j pos) (tC .non):=⟨jQT⟩
theorem jM {i j} :JE X (.Constant (.str i) j pos) (tC (.str i)):=⟨jQQ⟩
theorem kO {v:V}{u:Value}(hg:Gl1 X x)(hm:X.mg x=none)(hv:bootBuiltins x=some u)(r:RelV v u)(hn:x≠ "__name__" :=by decide)(hd:(x==("__debug__" :Str))=false:=by decide):JE X (.Name x pos) (tC v):=⟨jOV hg.a hm hv r hn hd⟩
theorem kQ {op:Operator}{r:R2}(ho:OpR X (binaryOp op) r)(ha:JE X a ta)(hb:JE X b tb):JE X (.BinOp a op b pos) (tOp r ta tb):=⟨y6 ho ha.h hb.h⟩
theorem je_un {op:UnaryOp}{r:V->Hp->VK->Prop}(ho:UnR X (unaryOp op) r)(ha:JE X a ta):JE X (.UnaryOp op a pos) (tUn r ta):=⟨pe_un ho ha.h⟩
theorem jKL (ha:JE X a ta):JE X (.UnaryOp .Not a pos) (tNotV ta):=⟨jQS ha.h⟩
theorem yV {op:CmpOp}{r:R2}(ho:OpR X (compareOp op) r)(ha:JE X a ta)(hb:JE X b tb)(hm:behindInMarks op b=false):JE X (.Compare a [op] [b] pos) (tOp r ta tb):=⟨jOS ho ha.h hb.h hm⟩
theorem qM {rest:List Expr}(ha:JE X a ta)(hb:JE X (.BoolOp .And (b::rest) pos) tb):JE X (.BoolOp .And (a::b::rest) pos) (tAndV ta tb):=⟨jQV ha.h hb.h⟩
theorem je_or {rest:List Expr}(ha:JE X a ta)(hb:JE X (.BoolOp .Or (b::rest) pos) tb):JE X (.BoolOp .Or (a::b::rest) pos) (tOrV ta tb):=⟨pe_or ha.h hb.h⟩
theorem qL {op}(ha:JE X a ta):JE X (.BoolOp op [a] pos) ta:=⟨jQR ha.h⟩
theorem jFN (h:JA X es t):JE X (.List es pos) (tLst t):=⟨jH3 h.h⟩
theorem jDV {x1}(h:JA X es t):JE X (.Tuple es x1 pos) (tTup t):=⟨jQP h.h⟩
theorem kG {lo hi:Option Expr}{tl th:TO}{r:V->Option Int->Option Int->Hp->VK->Prop}(hr:SlR X r)(he:JE X e te)(hl:JO X lo tl)(hu:JO X hi th):JE X (.Subscript e (.Slice lo hi none p2) pos) (tSl r te tl th):=⟨jM4 hr he.h hl.h hu.h⟩
theorem jW {r:R2}(hr:IxR X r)(ha:JE X a ta)(hb:JE X b tb)(hs:jBK b):JE X (.Subscript a b pos) (tOp r ta tb):=⟨pe_ix hr ha.h hb.h hs⟩
theorem kL {T}{r:List V->Hp->VK->Prop}(hc:qC X (.type T) r)(hg:Gl1 X x)(hm:X.mg x=none)(hv:bootBuiltins x=some (.type T))(ha:JA X (e::es) t)(he:starEach (e::es) X.env=(false,eval e X.env)::starEach es X.env)(hn:x≠ "__name__" :=by decide)(hdb:(x==("__debug__" :Str))=false:=by decide)
  (hpl:(backTo pos (starEach es X.env)).any (·.1)=false:=by rfl):JE X (.Call (.Name x p) (e::es) [] pos) (tCB r t):=⟨jBQ hc hg.a hm hv ha.h hn hdb he hpl⟩
theorem jH {id}{r:List V->Hp->VK->Prop}(hc:qC X (.builtin id) r)(hg:Gl1 X x)(hm:X.mg x=none)(hv:bootBuiltins x=some (.builtin id))(ha:JA X (e::es) t)(he:starEach (e::es) X.env=(false,eval e X.env)::starEach es X.env)(hn:x≠ "__name__" :=by decide)(hdb:(x==("__debug__" :Str))=false:=by decide)
  (hpl:(backTo pos (starEach es X.env)).any (·.1)=false:=by rfl):JE X (.Call (.Name x p) (e::es) [] pos) (tCB r t):=⟨jE6 hc hg.a hm hv ha.h hn hdb he hpl⟩
theorem j7:JA X [] tNil:=⟨yT⟩
theorem j4 (ha:JE X e te)(hr:JA X es t)(hs:starEach (e::es) X.env=(false,eval e X.env)::starEach es X.env):JA X (e::es) (tCons te t):=⟨kR ha.h hr.h hs⟩
theorem jI {op:CmpOp}{r:R2}(ho:OpR X (compareOp op) r)(ha:JE X a ta)(hb:JE X b tb)(hm:behindInMarks op b=false):JT X (.Compare a [op] [b] pos) (tTest (tOp r ta tb)):=⟨jCZ ho ha.h hb.h hm⟩
theorem kI (h:JE X e te)(he:TvOk e):JT X e (tB te):=⟨jQH h.h (he.h _)⟩
theorem kX {tA:TT}(ha:JT X a tA):JT X (.UnaryOp .Not a pos) (tNot tA):=⟨jQI ha.h⟩
theorem qG:JTs X [] qT:=⟨jJ8⟩
theorem jKF {t:TT}(h:JT X e t):JTs X [e] t:=⟨jJ7 h.h⟩
theorem kU {i:Nat}(hN:X.N.Nodup)(hi:X.N[i]?=some x)(hx:Loc1 X x):JG X (.Name x pos) (yF i):=⟨jE5 hN hi hx.a hx.b⟩
theorem jDA {tg:Expr}(hg:Gl1 X "range")(hm:X.mg "range" =none)(ha:JA X [a] t)(hs:starEach [a] X.env=(false,eval a X.env)::starEach [] X.env):JI X tg (.Call (.Name "range" p) [a] [] pos) (iRng1 t):=⟨jBP hg.a hm ha.h hs⟩
theorem jKI {tg:Expr}(hl:JE X a ta):JI X tg a (iList X.K ta):=⟨jOO hl.h⟩
theorem jD8 {tg:Expr}(hl:JE X a ta):JI X tg a (iTup X.K ta):=⟨jQL hl.h⟩
theorem jNO {elts:List Expr}{x1:Nat}{tp:Pos}(hg:Gl1 X "zip")(hm:X.mg "zip" =none)(ha:JA X [a,b] t)(he:starEach [a,b] X.env=(false,eval a X.env)::starEach [b] X.env)(hv:bootBuiltins "zip" =some (.type "zip"):=by decide+kernel)
  (hpl:(backTo pos (starEach [b] X.env)).any (·.1)=false:=by rfl):JI X (.Tuple elts x1 tp) (.Call (.Name "zip" p) [a,b] [] pos) (iZip X.K t):=⟨jQK hg.a hm ha.h hv he hpl⟩
theorem y0:JO X none jAD:=⟨jOL⟩
theorem kT (h:JE X e te):JO X (some e) (tPart te):=⟨jOK h.h⟩
theorem jR {i:Nat}{pos':Pos}(hN:X.N.Nodup)(hi:X.N[i]?=some x)(hx:Loc1 X x)(he:JE X e te)(hs:SwOk e (some (.Name x pos'))):JS X (.Assign [.Name x pos'] e pos) (tAsg te (yF i)):=⟨qX hN hi hx.a he.h (hs.h _ _) hx.b⟩
theorem jN (he:JE X e te):JS X (.Return (some e) pos) (tRet te):=⟨jCC he.h⟩
theorem jGL (he:JE X e te)(hs:SwOk e none):JS X (.Expr e pos) (tDrop te):=⟨jOJ he.h (hs.h _ _)⟩
theorem jL:JSs X [] tNext:=⟨jE4⟩
theorem jF {st:Stmt}{t:TS}(h1:JS X st t):JSs X [st] t:=⟨jAP h1.h⟩
theorem jA {st:Stmt}{rest:List Stmt}{t u:TS}(h1:JS X st t)(h2:JSs X rest u):JSs X (st::rest) (tSeq t u):=⟨y9 h1.h h2.h⟩
theorem jZ {c:Expr}{a b:List Stmt}{tc:TT}{t u:TS}(hc:JT X c tc)(ha:JSs X a t)(hb:JSs X b u):JS X (.If c a b pos) (tIfS tc t u):=⟨ps_if hc.h ha.h hb.h⟩
theorem jDU {tg iter:Expr}{body:List Stmt}{wi:TI}{g:TG}{tb:TS}(hp:PassesOwn (model X.prog X.w) X.A X.env X.xe)(hc:X.calm=true)(hi:JI X tg iter wi)(hg:JG X tg g)(hb:JSs X body tb)(hs:FoOk iter):JS X (.For tg iter body [] pos) (tFor wi g tb):=⟨jNF hp hc hi.h hg.h hb.h (hs.h _)⟩
theorem qY {T:String}{name:Str}{r}(pa:PlainAttrs T)(slot:Slot T name id)(hty:typeOf (.builtin id)=pure (.type "method_descriptor"))(hm:MtR X id r)(ho:JE X o to)(ha:JA X (e::es) t)
  (hs:starEach (e::es) X.env=(false,eval e X.env)::starEach es X.env)
  (hbase:attributeBase o name X.env (eval o X.env)=eval o X.env:=by rfl)
  (hfew:((backTo cpos (starEach (e::es) X.env)).all (fun x=>!x.1)&&(backToKw cpos (keywordEach [] X.env)).all (fun x=>x.1.isSome)
   &&decide ((e::es).length+([]:List Keyword).length+(if ([]:List Keyword).isEmpty then 0 else 1)<30))=true:=by rfl)
  (hline:(apos.endLine==cpos.line)=true:=by rfl) (hplain:(backTo cpos (starEach es X.env)).any (·.1)=false:=by rfl):
  JE X (.Call (.Attribute o name apos) (e::es) [] cpos) (tBM X.K T r to t):=⟨pe_bm pa slot hty hm ho.h ha.h hbase hfew hline hs hplain⟩
theorem yZ {tg iter elt:Expr}{ifs:List Expr}{sc:Scope}{wi:TI}{g:TG}{tt:TT}{m:List (Option Nat)}{Nc:List Str}(hc:X.calm=true)(hi:JI X tg iter wi)(hkind:sc.kind= .function)(hcell:∀ y∈sc.names,y.2≠ .cell)(hnames:∀ y∈sc.names,y.2= .local->sc.names.lookup y.1=some .local)
  (hfree:∀ y∈sc.names,y.2= .free->X.env.scope.names.lookup y.1=some .cell\/X.env.scope.names.lookup y.1=some .free) (hm:jCL X sc Nc m)
  (hg:∀ cl C fp s H,JG (blk X sc cl C Nc fp s H) tg g) (ht:∀ cl C fp s H,JTs (blk X sc cl C Nc fp s H) ifs tt) (he:∀ cl C fp s H,JE (blk X sc cl C Nc fp s H) elt te)
  (hs:FoOk iter):JE X (.ListComp elt [⟨tg,iter,ifs,0⟩] sc pos) (tComp m wi g tt te):=⟨jGD hc hi.h hkind hcell hnames hfree hm (fun cl C fp s H=>(hg cl C fp s H).h) (fun cl C fp s H=>(ht cl C fp s H).h) (fun cl C fp s H=>(he cl C fp s H).h) (hs.h _)⟩
theorem jRJ {p1 p2 p3 p4 p5 p6 p7:Pos}{k1 k2 k3 k4:Nat} :JE X (.BinOp (.BinOp (.Constant (.int 2) k1 p1) .Mult (.BinOp (.Constant (.int 10) k2 p2) .Pow (.Constant (.int 12) k3 p3) p4) p5) .Add (.Constant (.int 1) k4 p6) p7) (tC (.int 2000000000001)):=⟨jQU⟩
end
section
variable {P:Program}{w:World}{K:W.Frag}{mg:Str->Option Value}{base:Heap}{N:List Str}{qual:Str}{sc:Scope}{f:Addr}{cdv:Value}{A:Around}{outer:List Env}{s:Shared}{H:Hp}{E:XK}{x:Str}
theorem gl_d (h:sc.names.lookup x=some .globalImplicit):Gl1 (cxOf CX0 P w K mg base N qual sc f cdv A outer s H E).nox x:=⟨h⟩
theorem gD (h:sc.names.lookup x=some .globalImplicit:=by decide+kernel):Gl1 (cxOf CX0 P w K mg base N qual sc f cdv A outer s H E).nox x:=gl_d h
theorem vis_l (h:sc.names.lookup x=some .local):Vis1 (cxOf CX0 P w K mg base N qual sc f cdv A outer s H E).nox x:=⟨.inl h⟩
theorem vL (h:sc.names.lookup x=some .local:=by decide+kernel):Vis1 (cxOf CX0 P w K mg base N qual sc f cdv A outer s H E).nox x:=vis_l h
theorem vis_c (h:sc.names.lookup x=some .cell):Vis1 (cxOf CX0 P w K mg base N qual sc f cdv A outer s H E).nox x:=⟨.inr (.inl h)⟩
theorem vC (h:sc.names.lookup x=some .cell:=by decide+kernel):Vis1 (cxOf CX0 P w K mg base N qual sc f cdv A outer s H E).nox x:=vis_c h
end
theorem jAL {env:Env}{x:Str}{k:NameKind}(hk:k≠ .free):∀ {l:List (Str×NameKind)},l.lookup x=some k->
  (l.map fun (n,k)=>if (k==NameKind.free&&env.scope.kind== .function&&env.kindOf n==some .cell) then (n,NameKind.cell) else (n,k)).lookup x=some k
 | [],h=>by cases h
 | (n,k')::r,h=>by
  have ih:= @jAL env x k hk r
  rw[bp] at h
  rw[bi]
  dsimp only
  by_cases hb:(k'==NameKind.free&&env.scope.kind== .function&&env.kindOf n==some .cell)=true
  ·rw[aA hb,bp]
   cases hx:x==n with
   | true=>
    rw[hx] at h
    have e:k'=k:=aF h
    simp only [aL] at hb
    exact absurd (e.symm.trans (eq_of_beq hb.1.1)) hk
   | false=>rw[hx] at h; exact ih h
  ·rw[aB hb,bp]
   cases hx:x==n with
   | true=>rw[hx] at h; exact h
   | false=>rw[hx] at h; exact ih h
section
variable {X:Cx}{sc:Scope}{cl:List (Str×Addr)}{C:Addr}{Nc:List Str}{fp:List Addr}{s:Shared}{H:Hp}{x:Str}
theorem gl_b (h:sc.names.lookup x=some .globalImplicit):Gl1 (blk X sc cl C Nc fp s H) x:=⟨jAL (by decide) h⟩
theorem yR (h:sc.names.lookup x=some .local):Vis1 (blk X sc cl C Nc fp s H) x:=⟨.inl (jAL (by decide) h)⟩
theorem jER (h:sc.names.lookup x=some .free):Vis1 (blk X sc cl C Nc fp s H) x:=⟨.inr (jC5 h)⟩
theorem xB (h:sc.names.lookup x=some .local):Loc1 (blk X sc cl C Nc fp s H) x:=⟨.inl (jAL (by decide) h), .inr (jAL (by decide) h)⟩
end
section
variable {P:Program}{w:World}{K:W.Frag}{mg:Str->Option Value}{base:Heap}{N:List Str}{qual:Str}{sc:Scope}{f:Addr}{cdv:Value}{A:Around}{outer:List Env}{s:Shared}{H:Hp}{E:XK}{x:Str}
theorem loc_l (h:sc.names.lookup x=some .local):Loc1 (cxOf CX0 P w K mg base N qual sc f cdv A outer s H E).nox x:=⟨.inl h, .inl rfl⟩
theorem lL (h:sc.names.lookup x=some .local:=by decide+kernel):Loc1 (cxOf CX0 P w K mg base N qual sc f cdv A outer s H E).nox x:=loc_l h
end
structure JW (X:Cx)(e:Expr)(t:TT):Prop where
 h:PW X e t
section
variable {X:Cx}{a b:Expr}{rest:List Expr}{pos:Pos}{tA tB':TT}
theorem jD6 (ha:JT X a tA):JW X (.BoolOp .And [a] pos) tA:=⟨jOG ha.h⟩
theorem yL (ha:JT X a tA):JW X (.BoolOp .Or [a] pos) tA:=⟨jQF ha.h⟩
theorem jCG (ha:JT X a tA)(hb:JW X (.BoolOp .And (b::rest) pos) tB'):JW X (.BoolOp .And (a::b::rest) pos) (tAnd tA tB'):=⟨jQG ha.h hb.h⟩
theorem yJ (ha:JT X a tA)(hb:JW X (.BoolOp .Or (b::rest) pos) tB'):JW X (.BoolOp .Or (a::b::rest) pos) (tOr tA tB'):=⟨pw_or ha.h hb.h⟩
theorem jt_w (h:JW X a tA):JT X a tA:=⟨h.h.pt⟩
theorem jGM:JGs X [] gNil:=⟨jOP⟩
structure AsOk (e:Expr):Prop where
 h:∀ es env,assignEach (e::es) env=(false,assign e env)::assignEach es env
theorem jBH {x:Str} :AsOk (.Name x pos):=⟨fun _ _=>rfl⟩
theorem jAR {e:Expr}{es:List Expr}{t:TG}{u:TGs}(h1:JG X e t)(h2:JGs X es u)(hs:AsOk e):JGs X (e::es) (xH t u):=⟨jM3 h1.h h2.h (by rw[hs.h]; rfl)⟩
theorem jKJ {es:List Expr}{k:Nat}{t:TGs}{n:Nat}(hc:X.calm=true)(h:JGs X es t)(hn:(assignEach es X.env).length=n:=by rfl)(hst:(assignEach es X.env).findIdx? (·.1)=none:=by rfl):JG X (.Tuple es k pos) (gTup X.K n t):=⟨jQN hc h.h hn hst⟩
theorem jJY {op:CmpOp}{x:Str} :behindInMarks op (.Name x pos)=false:=by cases op <;> rfl
end
theorem jFM {X:Cx}{sc:Scope}{cl:List (Str×Addr)}{C:Addr}{Nc:List Str}{fp:List Addr}{s:Shared}{H:Hp}{x y:Str}{p1 p2 pos:Pos}{k:Nat}{i j:Nat}(hc:X.calm=true)(hN:Nc.Nodup)(hi:Nc[i]?=some x)(hj:Nc[j]?=some y)(hx:sc.names.lookup x=some .local)(hy:sc.names.lookup y=some .local):
  JG (blk X sc cl C Nc fp s H) (.Tuple [.Name x p1, .Name y p2] k pos) (gTup X.K 2 (xH (yF i) (xH (yF j) gNil))):=
 jKJ (X:=blk X sc cl C Nc fp s H) hc (jAR (kU hN hi (xB hx)) (jAR (kU hN hj (xB hy)) jGM jBH) jBH)
section
variable {K:W.Frag}{m:List (Option Nat)}{g:TG}{tt:TT}{te:TE}{σ:St}{H1:Hp}{Q:VK}
theorem jHL {t1 t2:Bool}{l1 l2:Addr}{xs ys:List V}(hn:xs.length<sizeLine)(Pv:Addr->Nat->St->Hp->List V->Prop)(h0:∀ D,H1 D=none->Pv D 0 (blkσ m σ) (upd H1 D (.lst [])) [])
  (hD:∀ D i σ' H' zs,H1 D=none->Pv D i σ' H' zs->Sq t1 K H' l1 xs/\Sq t2 K H' l2 ys/\H' D=some (.lst zs)/\zs.length<=i)
  (hs:∀ D i σ' H' zs x y T,H1 D=none->xs[i]?=some x->ys[i]?=some y->H' T=none->Pv D i σ' H' zs->g (.ref T) σ' (upd H' T (.tup [x,y])) fun σ2 H2=>tt σ2 H2 fun b H3=>if b=true then te σ2 H3 fun v H4=>H4 D=some (.lst zs)/\Pv D (i+1) σ2 (upd H4 D (.lst (zs++[v]))) (zs++[v]) else Pv D (i+1) σ2 H3 zs)
  (hd:∀ D σ' H' zs,H1 D=none->Pv D (min xs.length ys.length) σ' H' zs->Q (.ref D) H'):CompW m g tt te σ Q (Itz t1 t2 K l1 l2) H1:=by
 intro D hDn
 refine⟨fun i k σ' H' zs=>k=min xs.length ys.length - i/\i<=min xs.length ys.length/\Pv D i σ' H' zs,⟨_,rfl,aJ _,h0 D hDn⟩,?_⟩
 rintro i k σ' H' zs ⟨rfl,hi,p⟩
 obtain⟨s1,s2,q1,q2⟩:=hD D i σ' H' zs hDn p
 refine⟨q1,by omega,?_⟩
 by_cases hlt:i<min xs.length ys.length
 ·have a1:i<xs.length:=by omega
  have a2:i<ys.length:=by omega
  refine .inr ⟨⟨xs,ys,xs[i],ys[i],s1,s2,by simp [a1],by simp [a2]⟩,Pv D (i+1),fun σ2 H2 zs z=>⟨min xs.length ys.length - (i+1),by omega,rfl,hlt,z⟩,fun v H'' y=>?_⟩
  obtain⟨T,x,y,e1,e2,e3,e4⟩:=y
  subst e2 e3
  obtain⟨z1,z2⟩:=e4 xs ys s1 s2
  exact hs D i σ' _ zs x y T hDn z1 z2 e1 p
 ·have e:i=min xs.length ys.length:=by omega
  subst e
  exact .inl ⟨⟨xs,ys,s1,s2,by omega⟩,hd D σ' H' zs hDn p⟩
end
section
variable {X:Cx}{sc:Scope}{cl:List (Str×Addr)}{C:Addr}{Nc:List Str}{fp:List Addr}{s:Shared}{H:Hp}
theorem jHI:IxR (blk X sc cl C Nc fp s H) (rIxT X.K):=kY
end
def Ext (H H':Hp):Prop:=∀ b o,H b=some o->H' b=some o
theorem Ext.refl (H:Hp):Ext H H:=fun _ _ h=>h
theorem Ext.trans {H H1 H2:Hp}(a:Ext H H1)(b:Ext H1 H2):Ext H H2:=fun c o h=>b c o (a c o h)
theorem Ext.new {H H1:Hp}{l:Addr}(a:Ext H H1)(hl:H1 l=none)(o:HO):Ext H (upd H1 l o):=fun c u h=>by
 have:=a c u h
 rw[jG (jD this hl)]
 exact this
theorem Ext.updNew {H H1:Hp}{l:Addr}(a:Ext H H1)(hl:H l=none)(o:HO):Ext H (upd H1 l o):=fun c u h=>by
 rw[jG (jD h hl)]
 exact a c u h
def TupR (H:Hp)(xs:List V)(Q:VK):Prop:=∀ r H',H' r=some (.tup xs)->Ext H H'->Q (.ref r) H'
theorem TupR.new {H:Hp}{xs:List V}{Q:VK}(q:TupR H xs Q){p:Addr}(hp:H p=none):Q (.ref p) (upd H p (.tup xs)):=q p _ j8 ((Ext.refl H).new hp _)
theorem TupR.old {H:Hp}{xs:List V}{Q:VK}(q:TupR H xs Q){p:Addr}(hp:H p=some (.tup xs)):Q (.ref p) H:=q p H hp (Ext.refl H)
section
variable {X:Cx}
def rCatU:R2:=fun x y H Q=>∃ a b xs ys,x= .ref a/\y= .ref b/\H a=some (.tup xs)/\H b=some (.tup ys)/\xs.length+ys.length<=sizeLine/\TupR H (xs++ys) Q
theorem jJL:OpR X (binaryOp .Add) rCatU:=by
 intro pins s σ H x y v u Q I rx ry h
 obtain⟨a,b,xs,ys,rfl,rfl,ha,hb,hz,q⟩:=h
 by_cases hx:xs=[]
 ·subst hx
  cases rx
  cases ry
  obtain⟨_,its,r1,n1,e1⟩:=I.hok a _ ha
  obtain⟨_,its2,r2,n2,e2⟩:=I.hok b _ hb
  cases r1
  exact concat_meets ⟨_,e1,rfl⟩ ⟨_,e2,rfl⟩ fZ seq_tuple_add dH dz (dj _ _) (AutoSeq1.tuple___add___tuple_tuple_0 a _ n1 b its2.toArray n2 (by simp)) ⟨e1,e2, .ref b,H,I,rfl,q.old hb⟩
 ·refine jOZ pins s σ H _ _ v u Q I rx ry ⟨a,b,xs,ys,rfl,rfl,SqT.of ha,SqT.of hb,hx,hz,fun e=>?_,fun _ p hp=>q.new hp⟩
  subst e
  rw[bL] at q
  exact q.old ha
section
variable (l:Addr)(items:Array Value)(n:Nat)(x:Int)(u:Tok)(h1:¬ (decide (x< -(2 ^ 63)) || decide (x ≥ 2 ^ 63))=true)
include h1
end
theorem jC4 {prog:Program}{w:World}{A:Around}{E:Value->Shared->Prop}{s:Shared}{t sl:Addr}{items:Array Value}{n:Nat}{vl vu:Value}{lo hi:Option Int}{Q:Value->Shared->Prop}
  (e0:s.heap.get? t=some { cls:= .type "tuple",data:= .seq items n}) (hs:s.heap.IsSliceOf sl vl vu .none) (pl:IsPart vl lo) (pu:IsPart vu hi)
  (hw:HT.sIx items.size 0 lo=0/\HT.sIx items.size items.size hi=items.size) (h:Q (.ref t) s):wpAny (model prog w) A (getItem (.ref t) (.ref sl)) Q E s:=by
 have ht:IsTup s.heap t items:=⟨_,e0,rfl,n,rfl⟩
 obtain⟨os,hos,hcs,hds⟩:=id hs
 have hTs:s.TypeIs (.ref sl) "slice" :=⟨os,hos,hcs⟩
 unfold getItem
 try with_reducible refine be ?_
 first | refine aa (ag ?_) | skip
 refine aa (wpAny_sequenceKey ht.typeIs (by decide) (aa (bF (name:=Str.ofString "__getitem__") ht.typeIs bE
  (bG bE ht.typeIs entry_tuple_getitem (?_:wpAny (model prog w) _ (Builtin.Tuple.tupleItemsOf (.ref t) >>= _) _ _ s) (args_tuple_getitem _ _)))))
 refine aa (tupleItemsOf_ ht (aa (dJ hTs ?_)))
 rw[aA (by decide)]
 refine aa (HT.sliceApplied_gen hs pl pu ?_)
 have yes:(((HT.sIx items.size 0 lo:Nat):Int)==0&&(1:Int)==1&&(HT.sIx items.size items.size hi - HT.sIx items.size 0 lo)==items.size)=true:=by
  rw[hw.1,hw.2]
  simp
 show wpAny (model prog w) _ (if (((HT.sIx items.size 0 lo:Nat):Int)==0&&(1:Int)==1&&(HT.sIx items.size items.size hi - HT.sIx items.size 0 lo)==items.size)=true then _ else _) _ _ s
 rw[aA yes]
 have ex:∀ {A:Around}{Q:Bool->Shared->Prop},Q true s->wpAny (model prog w) A (Builtin.Tuple.tupleIsExact (.ref t)) Q E s:=fun q=>by
  unfold Builtin.Tuple.tupleIsExact
  exact aa (dJ ⟨_,e0,rfl⟩ (ag q))
 refine aa (ex ?_)
 rw[aA rfl]
 exact aa (dX (ag ⟨_,rfl,ag h⟩))
def rSlU:V->Option Int->Option Int->Hp->VK->Prop:=fun x lo hi H Q=>∃ a xs,x= .ref a/\H a=some (.tup xs)/\TupR H (cutV xs lo hi) Q
theorem jO7:SlR X rSlU:=by
 intro pins s σ H x v vl vu lo hi sl Q I rx hs pl pu h
 obtain⟨a,xs,rfl,hx,q⟩:=h
 by_cases hw:HT.sIx xs.length 0 lo=0/\HT.sIx xs.length xs.length hi=xs.length
 ·cases rx
  obtain⟨_,its,r,n,e⟩:=I.hok a _ hx
  have hlen:its.toArray.size=xs.length:=by rw[ak]; exact r.length.symm
  refine⟨"tuple",_,bE.lookup,⟨_,e,rfl⟩,jC4 e hs pl pu (by rw[hlen]; exact hw) ⟨.ref a,H,I,rfl,q.old ?_⟩⟩
  rw[hx]
  congr 2
  unfold cutV
  rw[hw.1,hw.2]
  simp
 ·exact jQ9 pins s σ H _ v vl vu lo hi sl Q I rx hs pl pu ⟨a,xs,rfl,SqT.of hx,hw,fun p hp=>q.new hp⟩
theorem Inv.big' {pins:List (Addr×Obj)}{σ:St}{H:Hp}{s:Shared}(I:Inv X pins σ H s):sysModules<s.heap.objs.size:=eY (by decide) (I.mod.glob.keeps I.bk).lt
def jQ6:TE:=fun _ H Q=>∀ p,H p=none->Q (.ref p) (upd H p (.dK []))
theorem je_dict0 {pos:Pos} :JE X (.Dict [] [] pos) jQ6:=⟨fun pins s σ H Q I h=>
 wpAny_Dict_empty ⟨.ref s.heap.objs.size,_,I.laid (a:=s.heap.objs.size) (o:= .dK []) (t':=s.toks) (fun _ _ q=>ae _ q) (ao _)
  ⟨aJ _,bO.mpr (bY (aN I.big')),[], .nil,Heap.DictOf.new s.heap⟩,rfl,h _ (I.hok.fresh (ao _))⟩⟩
theorem jHH {a b c:Expr}{ta tb tc:TE}{pos:Pos}{op op':CmpOp}{r r':R2}(ho:OpR X (compareOp op) r)(ho':OpR X (compareOp op') r')(ha:JE X a ta)(hb:JE X b tb)(hc:JE X c tc)
  (hm:lastMarks [op,op'] [b,c]=false:=by with_unfolding_all rfl):JE X (.Compare a [op,op'] [b,c] pos) (jGU r r' ta tb tc):=⟨jM6 ho ho' ha.h hb.h hc.h hm⟩
theorem yM {x:Str}{v:V}{u:Value}{pos:Pos}(hg:Gl1 X x)(hm:X.mg x=some u)(r:RelV v u)(hd:(x==("__debug__" :Str))=false:=by decide):JE X (.Name x pos) (tC v):=⟨jOQ hg.a hm r hd⟩
theorem jD9 {tg a b:Expr}{t:TA}{p pos:Pos}(hg:Gl1 X "range")(hm:X.mg "range" =none)(ha:JA X [a,b] t)(hs:starEach [a,b] X.env=(false,eval a X.env)::starEach [b] X.env)(hs2:starEach [b] X.env=(false,eval b X.env)::starEach [] X.env):
  JI X tg (.Call (.Name "range" p) [a,b] [] pos) (iRng2 t):=⟨jJB hg.a hm ha.h (by rw[hs,hs2]; rfl) hs2⟩
theorem jRG {tg e:Expr}{te:TE}{g:TG}{pos:Pos}(he:JE X e te)(hg:JG X tg g)(hs:swapsWithSole [tg] e pos.line X.env=pure false:=by rfl)(hw:swappedStores [tg] e X.env=pure none:=by rfl)
  (h1:(assignEach [tg] X.env).map (·.2)=[assign tg X.env]:=by rfl):JS X (.Assign [tg] e pos) (tAsg te g):=⟨jNG he.h hg.h hs hw h1⟩
end
section
variable {K:W.Frag}{m:List (Option Nat)}{g:TG}{tt:TT}{te:TE}{σ:St}{H1:Hp}{Q:VK}
theorem jHM {a:Addr}{xs:List V}(hn:xs.length<sizeLine)(Pv:Addr->Nat->St->Hp->List V->Prop)(h0:∀ D,H1 D=none->Pv D 0 (blkσ m σ) (upd H1 D (.lst [])) [])
  (hD:∀ D i σ' H' zs,H1 D=none->Pv D i σ' H' zs->H' a=some (.tup xs)/\H' D=some (.lst zs)/\zs.length<=i)
  (hs:∀ D i σ' H' zs x,H1 D=none->xs[i]?=some x->Pv D i σ' H' zs->g x σ' H' fun σ2 H2=>tt σ2 H2 fun b H3=>if b=true then te σ2 H3 fun v H4=>H4 D=some (.lst zs)/\Pv D (i+1) σ2 (upd H4 D (.lst (zs++[v]))) (zs++[v]) else Pv D (i+1) σ2 H3 zs)
  (hd:∀ D σ' H' zs,H1 D=none->Pv D xs.length σ' H' zs->Q (.ref D) H'):CompW m g tt te σ Q (Itt K a) H1:=by
 intro D hDn
 refine⟨fun i k σ' H' zs=>k=xs.length - i/\i<=xs.length/\Pv D i σ' H' zs,⟨_,rfl,aJ _,h0 D hDn⟩,?_⟩
 rintro i k σ' H' zs ⟨rfl,hi,p⟩
 obtain⟨s1,q1,q2⟩:=hD D i σ' H' zs hDn p
 refine⟨q1,by omega,?_⟩
 by_cases hlt:i<xs.length
 ·refine .inr ⟨⟨xs,xs[i],SqT.of s1,by simp [hlt]⟩,Pv D (i+1),fun σ2 H2 zs z=>⟨xs.length - (i+1),by omega,rfl,hlt,z⟩,fun v H'' y=>?_⟩
  obtain⟨e1,e2⟩:=y
  subst e1
  exact hs D i σ' _ zs v hDn (e2 xs (SqT.of s1)) p
 ·have e:i=xs.length:=by omega
  subst e
  exact .inl ⟨⟨xs,SqT.of s1,ao _⟩,hd D σ' H' zs hDn p⟩
end
inductive Tr where
 | non
 | bl (b:Bool)
 | int (i:Int)
 | str (x:Str)
 | lst (ts:List Tr)
 | tup (ts:List Tr)
mutual
def TAt (H:Hp):Tr->V->Prop
 | .non,v=>v= .non
 | .bl b,v=>v= .bl b
 | .int i,v=>v= .int i
 | .str x,v=>v= .str x
 | .lst ts,v=>∃ a vs,v= .ref a/\H a=some (.lst vs)/\TsAt H ts vs
 | .tup ts,v=>∃ a vs,v= .ref a/\H a=some (.tup vs)/\TsAt H ts vs
def TsAt (H:Hp):List Tr->List V->Prop
 | [],vs=>vs=[]
 | t::ts,vs=>∃ v r,vs=v::r/\TAt H t v/\TsAt H ts r
end
mutual
def dep:Tr->Nat
 | .lst ts=>deps ts+1
 | .tup ts=>deps ts+1
 | _=>0
def deps:List Tr->Nat
 | []=>0
 | t::ts=>max (dep t) (deps ts)
end
mutual
def eqT:Tr->Tr->Bool
 | .non, .non=>true
 | .bl a, .bl b=>a==b
 | .bl a, .int b=>(if a then 1 else 0)==b
 | .int a, .bl b=>a==(if b then 1 else 0)
 | .int a, .int b=>a==b
 | .str a, .str b=>a==b
 | .lst a, .lst b=>eqTs a b
 | .tup a, .tup b=>eqTs a b
 | _,_=>false
def eqTs:List Tr->List Tr->Bool
 | [],[]=>true
 | a::as,b::bs=>eqT a b&&eqTs as bs
 | _,_=>false
end
mutual
theorem jEI:∀ t:Tr,eqT t t=true
 | .non=>by simp [eqT]
 | .bl b=>by simp [eqT]
 | .int i=>by simp [eqT]
 | .str x=>by simp [eqT]
 | .lst ts=>by rw[eqT]; exact jDD ts
 | .tup ts=>by rw[eqT]; exact jDD ts
theorem jDD:∀ ts:List Tr,eqTs ts ts=true
 | []=>by simp [eqTs]
 | t::ts=>by rw[eqTs,jEI t,jDD ts]; rfl
end
mutual
theorem TAt.ext {H H':Hp}(e:Ext H H'):∀ {t:Tr}{v:V},TAt H t v->TAt H' t v
 | .non,_,h=>h
 | .bl _,_,h=>h
 | .int _,_,h=>h
 | .str _,_,h=>h
 | .lst ts,_,⟨a,vs,q,h,r⟩=>⟨a,vs,q,e _ _ h,TsAt.ext e r⟩
 | .tup ts,_,⟨a,vs,q,h,r⟩=>⟨a,vs,q,e _ _ h,TsAt.ext e r⟩
theorem TsAt.ext {H H':Hp}(e:Ext H H'):∀ {ts:List Tr}{vs:List V},TsAt H ts vs->TsAt H' ts vs
 | [],_,h=>h
 | t::ts,_,⟨v,r,q,h,s⟩=>⟨v,r,q,TAt.ext e h,TsAt.ext e s⟩
end
mutual
theorem TAt.inj {H:Hp} :∀ {t u:Tr}{v:V},TAt H t v->TAt H u v->t=u
 | .non,u,_,h,h'=>by
  cases (show _=V.non from h)
  cases u with
  | non=>rfl
  | bl b=>cases (show V.non=_ from h')
  | int b=>cases (show V.non=_ from h')
  | str b=>cases (show V.non=_ from h')
  | lst ts=>obtain⟨_,_,q,_⟩:=h'; cases q
  | tup ts=>obtain⟨_,_,q,_⟩:=h'; cases q
 | .bl b,u,_,h,h'=>by
  cases (show _=V.bl b from h)
  cases u with
  | non=>cases (show V.bl b=_ from h')
  | bl b=>cases (show V.bl _=V.bl b from h'); rfl
  | int i=>cases (show V.bl b=V.int i from h')
  | str i=>cases (show V.bl b=V.str i from h')
  | lst ts=>obtain⟨_,_,q,_⟩:=h'; cases q
  | tup ts=>obtain⟨_,_,q,_⟩:=h'; cases q
 | .int b,u,_,h,h'=>by
  cases (show _=V.int b from h)
  cases u with
  | non=>cases (show V.int b=_ from h')
  | bl i=>cases (show V.int b=V.bl i from h')
  | int b=>cases (show V.int _=V.int b from h'); rfl
  | str i=>cases (show V.int b=V.str i from h')
  | lst ts=>obtain⟨_,_,q,_⟩:=h'; cases q
  | tup ts=>obtain⟨_,_,q,_⟩:=h'; cases q
 | .str b,u,_,h,h'=>by
  cases (show _=V.str b from h)
  cases u with
  | non=>cases (show V.str b=_ from h')
  | bl i=>cases (show V.str b=V.bl i from h')
  | int i=>cases (show V.str b=V.int i from h')
  | str b=>cases (show V.str _=V.str b from h'); rfl
  | lst ts=>obtain⟨_,_,q,_⟩:=h'; cases q
  | tup ts=>obtain⟨_,_,q,_⟩:=h'; cases q
 | .lst ts,u,_,⟨a,vs,q,h,r⟩,h'=>by
  subst q
  cases u with
  | non=>cases (show V.ref a=_ from h')
  | bl i=>cases (show V.ref a=V.bl i from h')
  | int i=>cases (show V.ref a=V.int i from h')
  | str i=>cases (show V.ref a=V.str i from h')
  | lst us=>
   obtain⟨a',vs',q',h2,r'⟩:=h'
   cases q'
   rw[h] at h2
   cases h2
   rw[TsAt.inj r r']
  | tup us=>
   obtain⟨a',vs',q',h2,r'⟩:=h'
   cases q'
   rw[h] at h2
   cases h2
 | .tup ts,u,_,⟨a,vs,q,h,r⟩,h'=>by
  subst q
  cases u with
  | non=>cases (show V.ref a=_ from h')
  | bl i=>cases (show V.ref a=V.bl i from h')
  | int i=>cases (show V.ref a=V.int i from h')
  | str i=>cases (show V.ref a=V.str i from h')
  | lst us=>
   obtain⟨a',vs',q',h2,r'⟩:=h'
   cases q'
   rw[h] at h2
   cases h2
  | tup us=>
   obtain⟨a',vs',q',h2,r'⟩:=h'
   cases q'
   rw[h] at h2
   cases h2
   rw[TsAt.inj r r']
theorem TsAt.inj {H:Hp} :∀ {ts us:List Tr}{vs:List V},TsAt H ts vs->TsAt H us vs->ts=us
 | [],us,_,h,h'=>by
  cases (show _=[] from h)
  cases us with
  | nil=>rfl
  | cons u us=>obtain⟨_,_,q,_⟩:=h'; cases q
 | t::ts,us,_,⟨v,r,q,h,s⟩,h'=>by
  subst q
  cases us with
  | nil=>cases (show v::r=[] from h')
  | cons u us=>
   obtain⟨v',r',q,h2,s2⟩:=h'
   cases q
   rw[TAt.inj h h2,TsAt.inj s s2]
end
theorem TsAt.len {H:Hp} :∀ {ts:List Tr}{vs:List V},TsAt H ts vs->vs.length=ts.length
 | [],_,h=>by cases (show _=[] from h); rfl
 | t::ts,_,⟨v,r,q,_,s⟩=>by rw[q,aC,aC,TsAt.len s]
theorem TsAt.get {H:Hp} :∀ {ts:List Tr}{vs:List V},TsAt H ts vs->∀ {i:Nat}{v:V},vs[i]?=some v->∃ t,ts[i]?=some t/\TAt H t v
 | [],_,h,i,v,e=>by cases (show _=[] from h); cases e
 | t::ts,_,⟨v,r,q,h,s⟩,0,v',e=>by subst q; cases e; exact⟨t,rfl,h⟩
 | t::ts,_,⟨v,r,q,h,s⟩,i+1,v',e=>by subst q; exact TsAt.get s (i:=i) e
theorem jGO:∀ ts us:List Tr,eqTs ts us=((List.range (min ts.length us.length)).all (fun j=>eqT (ts.getD j .non) (us.getD j .non))&&ts.length==us.length)
 | [],[]=>by simp [eqTs]
 | [],u::us=>by simp [eqTs]
 | t::ts,[]=>by simp [eqTs]
 | t::ts,u::us=>by
  rw[eqTs,jGO ts us,aC,aC,show min (ts.length+1) (us.length+1)=min ts.length us.length+1 by omega,List.range_succ_eq_map,dn,g9]
  have e:(ts.length+1==us.length+1)=(ts.length==us.length):=by
   rw[bP]
   simp
  rw[e,Bool.and_assoc]
  rfl
theorem jEL {ts:List Tr}{t:Tr}(h:t∈ts):dep t<=deps ts:=by
 induction ts with
 | nil=>cases h
 | cons a r ih=>
  rw[deps]
  rcases av.mp h with q | q
  ·subst q; omega
  ·have:=ih q; omega
def flatT:Tr->Bool
 | .lst _=>false
 | .tup _=>false
 | _=>true
theorem jKW {H:Hp}{t:Tr}{x:V}(h:TAt H t x)(f:flatT t=true):flatV x=true:=by
 cases t with
 | non=>cases (show x=_ from h); rfl
 | bl b=>cases (show x=V.bl b from h); rfl
 | int b=>cases (show x=V.int b from h); rfl
 | str b=>cases (show x=V.str b from h); rfl
 | lst ts=>cases f
 | tup ts=>cases f
theorem jPR {H:Hp}{t u:Tr}{x y:V}(h:TAt H t x)(h':TAt H u y)(f:flatT t=true)(f':flatT u=true):eqV x y=eqT t u:=by
 cases t with
 | non=>
  cases (show x=_ from h)
  cases u with
  | non=>cases (show y=_ from h'); simp [eqV,eqT]
  | bl b=>cases (show y=V.bl b from h'); simp [eqV,eqT]
  | int b=>cases (show y=V.int b from h'); simp [eqV,eqT]
  | str b=>cases (show y=V.str b from h'); simp [eqV,eqT]
  | lst ts=>cases f'
  | tup ts=>cases f'
 | bl c=>
  cases (show x=V.bl c from h)
  cases u with
  | non=>cases (show y=_ from h'); simp [eqV,eqT]
  | bl b=>cases (show y=V.bl b from h'); simp [eqV,eqT]
  | int b=>cases (show y=V.int b from h'); simp [eqV,eqT]
  | str b=>cases (show y=V.str b from h'); simp [eqV,eqT]
  | lst ts=>cases f'
  | tup ts=>cases f'
 | int c=>
  cases (show x=V.int c from h)
  cases u with
  | non=>cases (show y=_ from h'); simp [eqV,eqT]
  | bl b=>cases (show y=V.bl b from h'); simp [eqV,eqT]
  | int b=>cases (show y=V.int b from h'); simp [eqV,eqT]
  | str b=>cases (show y=V.str b from h'); simp [eqV,eqT]
  | lst ts=>cases f'
  | tup ts=>cases f'
 | str c=>
  cases (show x=V.str c from h)
  cases u with
  | non=>cases (show y=_ from h'); simp [eqV,eqT]
  | bl b=>cases (show y=V.bl b from h'); simp [eqV,eqT]
  | int b=>cases (show y=V.int b from h'); simp [eqV,eqT]
  | str b=>cases (show y=V.str b from h'); simp [eqV,eqT]
  | lst ts=>cases f'
  | tup ts=>cases f'
 | lst ts=>cases f
 | tup ts=>cases f
section
variable {X:Cx}{pins:List (Addr×Obj)}{σ:St}{H:Hp}{s:Shared}
theorem TsAt.both {ts us:List Tr}{vs ws:List V}{its its2:List Value}(h1:TsAt H ts vs)(h2:TsAt H us ws)(r1:Vals vs its)(r2:Vals ws its2){j:Nat}(a1:j<its.toArray.size)(a2:j<its2.toArray.size):
  ∃ t u x y,ts.getD j .non=t/\us.getD j .non=u/\t∈ts/\TAt H t x/\TAt H u y/\RelV x its.toArray[j]/\RelV y its2.toArray[j]:=by
 have l1:=r1.length
 have l2:=r2.length
 rw[ak] at a1 a2
 obtain⟨x,hx⟩:∃ x,vs[j]?=some x:=⟨vs[j]'(by omega),by simp [show j<vs.length by omega]⟩
 obtain⟨y,hy⟩:∃ y,ws[j]?=some y:=⟨ws[j]'(by omega),by simp [show j<ws.length by omega]⟩
 obtain⟨t,ht,hxt⟩:=h1.get hx
 obtain⟨u,hu,hyu⟩:=h2.get hy
 obtain⟨v,hv,rv⟩:=r1.get hx
 obtain⟨w,hw,rw'⟩:=r2.get hy
 have e1:its.toArray[j]=v:=by
  have:its[j]?=some its[j]:=by simp [a1]
  rw[hv] at this
  simpa using (aF this).symm
 have e2:its2.toArray[j]=w:=by
  have:its2[j]?=some its2[j]:=by simp [a2]
  rw[hw] at this
  simpa using (aF this).symm
 refine⟨t,u,x,y,by rw[aK,ht]; rfl,by rw[aK,hu]; rfl,bq ht,hxt,hyu,by rw[e1]; exact rv,by rw[e2]; exact rw'⟩
theorem jRO (I:Inv X pins σ H s):∀ (n:Nat) (t u:Tr) (x y:V) (vx vy:Value) (A:Around),dep t=n->TAt H t x->TAt H u y->RelV x vx->RelV y vy->A.units+n<cLine->SeqAt.EqAt A s vx vy (eqT t u):=by
 intro n
 induction n using strongRecOn with
 | ind n ih=>
  intro t u x y vx vy A hn ht hu rx ry hc
  have hcu:A.units<cLine:=by omega
  cases ft:flatT t with
  | true=>
   cases fu:flatT u with
   | true=>
    rw[<- jPR ht hu ft fu]
    exact jNU rx ry (jKW ht ft) (jKW hu fu)
   | false=>
    cases u with
    | lst us=>
     obtain⟨b,ws,rfl,hb,_⟩:=hu
     cases ry
     obtain⟨its,_,pl,_⟩:=I.list (SqL.of hb)
     cases t with
     | non=>cases (show x=_ from ht); cases rx; rw[show eqT .non (.lst us)=false by simp [eqT]]; exact .none_list pl.isList hcu
     | bl c=>cases (show x=V.bl c from ht); cases rx; rw[show eqT (.bl c) (.lst us)=false by simp [eqT]]; exact .bool_list c pl.isList hcu
     | int c=>cases (show x=V.int c from ht); obtain⟨k,rfl⟩:=rx; rw[show eqT (.int c) (.lst us)=false by simp [eqT]]; exact .int_list c k pl.isList hcu
     | str c=>cases (show x=V.str c from ht); obtain⟨k,rfl⟩:=rx; rw[show eqT (.str c) (.lst us)=false by simp [eqT]]; exact .str_list c k pl.isList hcu
     | lst ts=>cases ft
     | tup ts=>cases ft
    | tup us=>
     obtain⟨b,ws,rfl,hb,_⟩:=hu
     cases ry
     obtain⟨its,_,pl,_⟩:=I.tuple (SqT.of hb)
     cases t with
     | non=>cases (show x=_ from ht); cases rx; rw[show eqT .non (.tup us)=false by simp [eqT]]; exact .none_tuple pl hcu
     | bl c=>cases (show x=V.bl c from ht); cases rx; rw[show eqT (.bl c) (.tup us)=false by simp [eqT]]; exact .bool_tuple c pl hcu
     | int c=>cases (show x=V.int c from ht); obtain⟨k,rfl⟩:=rx; rw[show eqT (.int c) (.tup us)=false by simp [eqT]]; exact .int_tuple c k pl hcu
     | str c=>cases (show x=V.str c from ht); obtain⟨k,rfl⟩:=rx; rw[show eqT (.str c) (.tup us)=false by simp [eqT]]; exact .str_tuple c k pl hcu
     | lst ts=>cases ft
     | tup ts=>cases ft
    | non=>cases fu
    | bl c=>cases fu
    | int c=>cases fu
    | str c=>cases fu
  | false=>
   cases t with
   | non=>cases ft
   | bl c=>cases ft
   | int c=>cases ft
   | str c=>cases ft
   | lst ts=>
    have ht0:=ht
    obtain⟨a,vs,rfl,ha,hts⟩:=ht
    cases rx
    obtain⟨its,r1,pl,_⟩:=I.list (SqL.of ha)
    cases u with
    | non=>cases (show y=_ from hu); cases ry; rw[show eqT (.lst ts) .non=false by simp [eqT]]; exact .list_none pl.isList hcu
    | bl c=>cases (show y=V.bl c from hu); cases ry; rw[show eqT (.lst ts) (.bl c)=false by simp [eqT]]; exact .list_bool c pl.isList hcu
    | int c=>cases (show y=V.int c from hu); obtain⟨k,rfl⟩:=ry; rw[show eqT (.lst ts) (.int c)=false by simp [eqT]]; exact .list_int c k pl.isList hcu
    | str c=>cases (show y=V.str c from hu); obtain⟨k,rfl⟩:=ry; rw[show eqT (.lst ts) (.str c)=false by simp [eqT]]; exact .list_str c k pl.isList hcu
    | tup us=>
     obtain⟨b,ws,rfl,hb,_⟩:=hu
     cases ry
     obtain⟨its2,_,pl2,_⟩:=I.tuple (SqT.of hb)
     rw[show eqT (.lst ts) (.tup us)=false by simp [eqT]]
     exact .list_tuple pl.isList pl2 hcu
    | lst us=>
     have hu0:=hu
     obtain⟨b,ws,rfl,hb,hus⟩:=hu
     cases ry
     by_cases e:a=b
     ·subst e
      rw[<- TAt.inj ht0 hu0,jEI]
      exact .same _
     ·obtain⟨its2,r2,pl2,_⟩:=I.list (SqL.of hb)
      refine .of_refs e ?_
      have l1:=r1.length
      have l2:=r2.length
      have m1:=hts.len
      have m2:=hus.len
      rw[eqT,jGO]
      by_cases hl:ts.length=us.length
      ·have key:=SeqAt.RcAt.lists (e:=fun j=>eqT (ts.getD j .non) (us.getD j .non)) pl.isList pl2.isList (by rw[ak,ak]; omega) hcu fun j a1 a2=>by
        obtain⟨t',u',x',y',e1,e2,hm,q1,q2,q3,q4⟩:=TsAt.both hts hus r1 r2 a1 a2
        rw[e1,e2]
        have hd:=jEL hm
        have hn':deps ts+1=n:=by rw[<- hn,dep]
        exact ih (dep t') (by omega) t' u' x' y' _ _ _ rfl q1 q2 q3 q4 (by rw[ge]; omega)
       have ez:its.toArray.size=min ts.length us.length:=by rw[ak]; omega
       rw[ez] at key
       rw[show (ts.length==us.length)=true by simp [hl],eg]
       exact key
      ·rw[show (ts.length==us.length)=false by simp [hl],aX]
       refine SeqAt.RcAt.lists_lengths pl.isList pl2.isList ?_ hcu
       rw[ak,ak]
       simp
       omega
   | tup ts=>
    have ht0:=ht
    obtain⟨a,vs,rfl,ha,hts⟩:=ht
    cases rx
    obtain⟨its,r1,pl,_⟩:=I.tuple (SqT.of ha)
    cases u with
    | non=>cases (show y=_ from hu); cases ry; rw[show eqT (.tup ts) .non=false by simp [eqT]]; exact .tuple_none pl hcu
    | bl c=>cases (show y=V.bl c from hu); cases ry; rw[show eqT (.tup ts) (.bl c)=false by simp [eqT]]; exact .tuple_bool c pl hcu
    | int c=>cases (show y=V.int c from hu); obtain⟨k,rfl⟩:=ry; rw[show eqT (.tup ts) (.int c)=false by simp [eqT]]; exact .tuple_int c k pl hcu
    | str c=>cases (show y=V.str c from hu); obtain⟨k,rfl⟩:=ry; rw[show eqT (.tup ts) (.str c)=false by simp [eqT]]; exact .tuple_str c k pl hcu
    | lst us=>
     obtain⟨b,ws,rfl,hb,_⟩:=hu
     cases ry
     obtain⟨its2,_,pl2,_⟩:=I.list (SqL.of hb)
     rw[show eqT (.tup ts) (.lst us)=false by simp [eqT]]
     exact .tuple_list pl pl2.isList hcu
    | tup us=>
     have hu0:=hu
     obtain⟨b,ws,rfl,hb,hus⟩:=hu
     cases ry
     by_cases e:a=b
     ·subst e
      rw[<- TAt.inj ht0 hu0,jEI]
      exact .same _
     ·obtain⟨its2,r2,pl2,_⟩:=I.tuple (SqT.of hb)
      refine .of_refs e ?_
      have l1:=r1.length
      have l2:=r2.length
      have m1:=hts.len
      have m2:=hus.len
      rw[eqT,jGO]
      have key:=SeqAt.RcAt.tuples (e:=fun j=>eqT (ts.getD j .non) (us.getD j .non)) pl pl2 hcu fun j a1 a2=>by
       obtain⟨t',u',x',y',e1,e2,hm,q1,q2,q3,q4⟩:=TsAt.both hts hus r1 r2 a1 a2
       rw[e1,e2]
       have hd:=jEL hm
       have hn':deps ts+1=n:=by rw[<- hn,dep]
       exact ih (dep t') (by omega) t' u' x' y' _ _ _ rfl q1 q2 q3 q4 (by rw[ge]; omega)
      have z1:its.toArray.size=ts.length:=by rw[ak]; omega
      have z2:its2.toArray.size=us.length:=by rw[ak]; omega
      rw[z1,z2] at key
      exact key
theorem Room.units101 {k:Nat}{A:Around}(r:Room k A):A.units+101<cLine:=by have:=r.un; omega
end
section
variable {X:Cx}{tg iter elt:Expr}{ifs:List Expr}{sc:Scope}{pos:Pos}{wi:TI}{g:TG}{tt:TT}{te:TE}{m:List (Option Nat)}{Nc:List Str}
end
section
variable {X:Cx}{sc:Scope}{cl:List (Str×Addr)}{C:Addr}{Nc:List Str}{fp:List Addr}{s:Shared}{H:Hp}{x:Str}
variable {sc2:Scope}{cl2:List (Str×Addr)}{C2:Addr}{Nc2:List Str}{fp2:List Addr}{s2:Shared}{H2:Hp}
end
section
variable {X:Cx}
theorem jOY (hu:X.A.units<cLine):OpR X (compareOp .NotEq) (fun x y H Q=>∃ p q xs,x= .ref p/\y= .ref q/\H p=some (.lst xs)/\H q=some (.lst [])/\Q (.bl (!decide (xs=[]))) H):=by
 intro pins s σ H x y v u Q I rx ry h
 obtain⟨p,q,xs,rfl,rfl,hp,hq,k⟩:=h
 cases rx
 cases ry
 obtain⟨its,r1,p1,_⟩:=I.list (SqL.of hp)
 obtain⟨its2,r2,p2,_⟩:=I.list (SqL.of hq)
 have l1:=r1.length
 have l2:its2.length=0:=r2.length.symm
 by_cases hl:xs=[]
 ·subst hl
  have l1:its.length=0:=r1.length.symm
  refine SeqAt.RcNeAt.lists (e:=fun _=>true) p1.isList p2.isList (by rw[ak,ak]; omega) hu (fun j a1 a2=>absurd a2 (by rw[ak]; omega)) _ _ _ _ ⟨.bl _,H,I,rfl,?_⟩
  have ez:its.toArray.size=0:=by rw[ak]; omega
  rw[ez]
  exact k
 ·refine SeqAt.RcNeAt.lists_lengths p1.isList p2.isList ?_ hu _ _ _ _ ⟨.bl _,H,I,rfl,?_⟩
  ·rw[ak,ak]
   have:xs.length≠0:=fun e=>hl (bc.mp e)
   simp
   omega
  ·rw[aq hl] at k
   exact k
end
section
variable {X:Cx}{sc:Scope}{cl:List (Str×Addr)}{C:Addr}{Nc:List Str}{fp:List Addr}{s:Shared}{H:Hp}
end
end L2
end
section
namespace L2
open PySem
theorem jO9 {es:List Expr}{env:Env}{pos:Pos}{ks:List (Option Expr)}{vs:List Expr} :starEach (.Dict ks vs pos::es) env=(false,eval (.Dict ks vs pos) env)::starEach es env:=rfl
def LstR (H:Hp)(xs:List V)(Q:VK):Prop:=∀ r H',H' r=some (.lst xs)->Ext H H'->H r=none->Q (.ref r) H'
theorem LstR.new {H:Hp}{xs:List V}{Q:VK}(q:LstR H xs Q){p:Addr}(hp:H p=none):Q (.ref p) (upd H p (.lst xs)):=q p _ j8 ((Ext.refl H).new hp _) hp
def tTupU (t:TA):TE:=fun σ H Q=>t σ H fun xs H1=>xs.length<=sizeLine/\TupR H1 xs Q
def tLstU (t:TA):TE:=fun σ H Q=>t σ H fun xs H1=>xs.length<=sizeLine/\LstR H1 xs Q
def jQ5:TE:=fun _ H Q=>∀ r H',H' r=some (.dK [])->Ext H H'->Q (.ref r) H'
section
variable {X:Cx}{es:List Expr}{t:TA}{pos:Pos}
theorem y8 {x1}(h:JA X es t):JE X (.Tuple es x1 pos) (tTupU t):=⟨fun pins s σ H Q I hq=>by
 refine wpAny_Tuple_spliced (thn (h.h pos pins s σ H _ I hq) fun us s1 ⟨xs,H1,I1,r,z,q⟩=>⟨by rw[<- r.length]; exact z,?_⟩)
 have hf:H1 s1.heap.objs.size=none:=I1.hok.fresh (ao _)
 exact⟨.ref s1.heap.objs.size,upd H1 s1.heap.objs.size (.tup xs),I1.laid (t':=s1.toks) (fun b u e=>ae _ e) (ao _) ⟨z,us,r,TupO.new _ _⟩,rfl,q.new hf⟩⟩
theorem yU (h:JA X es t):JE X (.List es pos) (tLstU t):=⟨fun pins s σ H Q I hq=>by
 refine wpAny_List_spliced (thn (h.h pos pins s σ H _ I hq) fun us s1 ⟨xs,H1,I1,r,z,q⟩=>⟨by rw[<- r.length]; exact z,?_⟩)
 have hf:H1 s1.heap.objs.size=none:=I1.hok.fresh (ao _)
 exact⟨.ref s1.heap.objs.size,upd H1 s1.heap.objs.size (.lst xs),I1.laid (t':=s1.toks) (fun b u e=>ae _ e) (ao _) ⟨z,us,0,r,ay _ rfl⟩,rfl,q.new hf⟩⟩
theorem jMR:JE X (.Dict [] [] pos) jQ5:=⟨fun pins s σ H Q I h=>je_dict0.h pins s σ H Q I fun p hp=>h p _ j8 ((Ext.refl H).new hp _)⟩
theorem jA5:OpR X (binaryOp .Add) (fun x y H Q=>∃ l b xs zs,x= .ref l/\y= .ref b/\H l=some (.lst xs)/\H b=some (.lst zs)/\xs.length+zs.length<=sizeLine/\LstR H (xs++zs) Q):=by
 intro pins s σ H x y v u Q I rx ry h
 obtain⟨l,b,xs,zs,rfl,rfl,h1,h2,h3,q⟩:=h
 exact jQY pins s σ H _ _ v u Q I rx ry ⟨l,b,xs,zs,rfl,rfl,h1,h2,h3,fun p hp=>q.new hp⟩
end
end L2
end
section
namespace L2
open PySem PySem.Spec PyProof.Rows
section
variable {X:Cx}
end
section
variable {X:Cx}
variable {sc:Scope}{cl:List (Str×Addr)}{C:Addr}{Nc:List Str}{fp:List Addr}{s:Shared}{H:Hp}
end
end L2
end
section
namespace L2
open PySem
section
variable {X:Cx}{tg iter elt:Expr}{ifs:List Expr}{sc:Scope}{pos:Pos}{wi:TI}{g:TG}{tt:TT}{te:TE}{m:List (Option Nat)}{Nc:List Str}
theorem jN0 (hc:X.calm=true)(hi:PI X tg iter wi)(hkind:sc.kind= .function)(hcell:∀ y∈sc.names,y.2≠ .cell)(hnames:∀ y∈sc.names,y.2= .local->sc.names.lookup y.1=some .local)
  (hfree:∀ y∈sc.names,y.2= .free->X.env.scope.names.lookup y.1=some .cell\/X.env.scope.names.lookup y.1=some .free) (hm:jCL X sc Nc m)
  (hg:∀ cl C fp s H,PG (blk X sc cl C Nc fp s H) tg g) (ht:∀ cl C fp s H,PTs (blk X sc cl C Nc fp s H) ifs tt) (he:∀ cl C fp s H,PE (blk X sc cl C Nc fp s H) elt te)
  (hs:∀ x,foldedSetIterable iter X.env x=pure x) {fpos:Pos}{use:Option (Value->Sem Unit)}{R:Value->Shared->Prop}{pins:List (Addr×Obj)}{s:Shared}{σ:St}{H:Hp}{Q:VK}(I:Inv X pins σ H s) (h:tComp m wi g tt te σ H Q)
  (fin:∀ (D C:Addr) (H5:Hp) (z1:Shared) (r:Flow),(∃ mm,z1.heap.Ns C mm)->FpOk X pins H5 C->(∀ h',Heap.SameBut C z1.heap h'->Inv X pins σ H5 { z1 with heap:=h'})->Q (.ref D) H5->compPost (model X.prog X.w) X.A X.xe use R (.ref D) C (.ok r) z1):
  wpAny (model X.prog X.w) X.A (comprehension (.ListComp elt [⟨tg,iter,ifs,0⟩] sc pos) sc X.env fpos (newList []) false (eval iter X.env) use) R X.xe s:=
 jHP (tf:=fun _=>te) hc hi hkind hcell hnames hfree hm hg ht (fun cl C fp s H _ _ _ _=>he cl C fp s H) hs I h fin
theorem jOI {i:Nat}{x:Str}{pos' spos:Pos}(hN:X.N.Nodup)(hi':X.N[i]?=some x)(hx:Loc X.env.scope x)(hf:X.fn x=true\/X.env.scope.names.lookup x=some .local)(hsw:swapsWith (.ListComp elt [⟨tg,iter,ifs,0⟩] sc pos) (some (.Name x pos')) spos.line X.env=pure true)
  (hc:X.calm=true) (hi:PI X tg iter wi) (hkind:sc.kind= .function) (hcell:∀ y∈sc.names,y.2≠ .cell) (hnames:∀ y∈sc.names,y.2= .local->sc.names.lookup y.1=some .local)
  (hfree:∀ y∈sc.names,y.2= .free->X.env.scope.names.lookup y.1=some .cell\/X.env.scope.names.lookup y.1=some .free) (hm:jCL X sc Nc m)
  (hg:∀ cl C fp s H,PG (blk X sc cl C Nc fp s H) tg g) (ht:∀ cl C fp s H,PTs (blk X sc cl C Nc fp s H) ifs tt) (he:∀ cl C fp s H,PE (blk X sc cl C Nc fp s H) elt te)
  (hs:∀ x,foldedSetIterable iter X.env x=pure x):PS X (.Assign [.Name x pos'] (.ListComp elt [⟨tg,iter,ifs,0⟩] sc pos) spos) (tAsg (tComp m wi g tt te) (yF i)):=by
 intro pins s σ H D I h
 rw[exec_Assign_Name_used _ _ _ _ hsw]
 refine aa (bQ (aa ?_))
 show wpAny _ _ (do let _ <- comprehension (.ListComp elt [⟨tg,iter,ifs,0⟩] sc pos) sc X.env _ (newList []) false (eval iter X.env) (some (assign (.Name x pos') X.env))) _ _ _
 refine aa (aZ (jN0 (R:=fun _ s'=>SP X pins D .next s') hc hi hkind hcell hnames hfree hm hg ht he hs ⟨I.ok,I.os,I.bare,I.base,I.loc,I.cell,I.free,I.freeC,I.pin,I.hok,I.len⟩ h ?_) (fun _ s' hq=>ag (ag hq)) fun _ _ e=>e)
 intro D' C H5 z1 r ⟨mm,hn⟩ fC sb q
 have I1:=sb _ (Heap.SameBut.refl C z1.heap)
 refine wpAny_assign_Name (jF0 (v:= .ref D') I1 hN hi' hx rfl (fun s2 I2 ⟨a,sa,ha⟩=>?_) hf)
 obtain⟨f0,f1,f2,f3,f4,f5⟩:=fC
 have hCa:C≠a:=by
  rcases ha with rfl | ha
  ·exact f1
  ·exact(f4 _ _ ha).symm
 refine⟨mm,hn.sameBut sa hCa,fun h' sb2=>⟨_,H5,?_,q⟩⟩
 refine I2.call' (s':= { s2 with heap:=h'}) (ch:=[C]) rfl ?_ (I2.hok.sameBut sb2 f0) I2.bare (fun b hb=>?_)
 ·have ne:∀ {b:Addr},b∉ [C]->b≠C:=fun h e=>h (by rw[e]; exact aQ.mpr rfl)
  refine⟨fun b o e n hf hx=>(sb2.2 b (ne hx)).trans e,fun b o e n hf hx=>⟨o.slots,(sb2.2 b (ne hx)).trans e⟩,fun b o e n hx=>n,fun b o e hx=>⟨o,(sb2.2 b (ne hx)).trans e⟩,fun b xs e=>e,fun b o u e=>e,fun b ps e=>⟨#[],by rw[Array.append_empty]; exact e⟩⟩
 ·cases aQ.mp hb
  exact⟨f3,f1,f4,f5⟩
end
section
variable {X:Cx}
structure SwC (e:Expr)(x:Str)(pos' spos:Pos)(X:Cx):Prop where
 h:swapsWith e (some (.Name x pos')) spos.line X.env=pure true
theorem jPJ {i:Nat}{x:Str}{pos' spos pos:Pos}{tg iter elt:Expr}{ifs:List Expr}{sc:Scope}{wi:TI}{g:TG}{tt:TT}{te:TE}{m:List (Option Nat)}{Nc:List Str}(hN:X.N.Nodup)(hi':X.N[i]?=some x)(hx:Loc1 X x)(hsw:SwC (.ListComp elt [⟨tg,iter,ifs,0⟩] sc pos) x pos' spos X)
  (hc:X.calm=true) (hi:JI X tg iter wi) (hkind:sc.kind= .function) (hcell:∀ y∈sc.names,y.2≠ .cell) (hnames:∀ y∈sc.names,y.2= .local->sc.names.lookup y.1=some .local)
  (hfree:∀ y∈sc.names,y.2= .free->X.env.scope.names.lookup y.1=some .cell\/X.env.scope.names.lookup y.1=some .free) (hm:jCL X sc Nc m)
  (hg:∀ cl C fp s H,JG (blk X sc cl C Nc fp s H) tg g) (ht:∀ cl C fp s H,JTs (blk X sc cl C Nc fp s H) ifs tt) (he:∀ cl C fp s H,JE (blk X sc cl C Nc fp s H) elt te)
  (hs:FoOk iter):JS X (.Assign [.Name x pos'] (.ListComp elt [⟨tg,iter,ifs,0⟩] sc pos) spos) (tAsg (tComp m wi g tt te) (yF i)):=
 ⟨jOI hN hi' hx.a hx.b hsw.h hc hi.h hkind hcell hnames hfree hm (fun cl C fp s H=>(hg cl C fp s H).h) (fun cl C fp s H=>(ht cl C fp s H).h) (fun cl C fp s H=>(he cl C fp s H).h) (hs.h _)⟩
end
end L2
end
section
namespace L2
open PySem PySem.Spec PyProof.Rows
section
variable {prog:Program}{w:World}{A:Around}{E:Value->Shared->Prop}
end
section
variable {X:Cx}
end
open PySem.AutoSeq1 (wpAny_loadPart')
section
variable {prog:Program}{w:World}{A:Around}{E:Value->Shared->Prop}{s:Shared}
end
section
variable {X:Cx}
variable {sc:Scope}{cl:List (Str×Addr)}{C:Addr}{Nc:List Str}{fp:List Addr}{s:Shared}{H:Hp}
end
section
variable {X:Cx}
end
section
variable {X:Cx}
end
end L2
end
section
namespace L2
open PySem PySem.Spec PyProof.Rows Builtin Builtin.Str
def Its (z:PySem.Str):It:=⟨fun i _=>i<z.cps.size,fun i H x H'=>H'=H/\∃ c,z.cps[i]?=some c/\x= .str ⟨#[c]⟩,fun i _=>z.cps.size<=i⟩
theorem jLV {P:Program}{w:World}{K:W.Frag}{tg:Expr}(it:Addr)(z:PySem.Str)(t:Tok):Turn P w K tg (Its z) [it] it (fun i h=>h.IsStrIter it "str_ascii_iterator" z t i) where
 mem:=by simp
 obj:=fun i h st b hb=>by
  have e:b=it:=by simpa using hb
  subst e
  obtain⟨o,e,c,d⟩:=st
  exact⟨o,e,fun v z=>by rw[d] at z; cases z⟩
 keep:=fun i h h' st k=>let ⟨o,ho,r⟩:=st; ⟨o,k it (by simp) o ho,r⟩
 item:=by
  intro X hP hw hK hc i pins s σ H E I hf st hg
  subst hP hw hK
  obtain⟨f0,f1,f2,f3,f4,f5⟩:=hf it (by simp)
  have hg:i<z.cps.size:=hg
  refine wpAny_pyNext_ascii_item st (c:=z.cps[i]) (by simp [hg]) fun h' st' sb=>?_
  have I1:Inv X pins σ H { s with heap:=h',toks:=s.toks+1} :=I.turned (fun b o hb e=>(sb.2 b hb).trans e) f0 f1 f3 f4 f5
  obtain⟨o,e,c,d⟩:=id st'
  exact⟨_,rfl,go_of (s:= { s with heap:=h',toks:=s.toks+1}) e c d (by decide) ⟨.str ⟨#[z.cps[i]]⟩,H,I1,⟨_,rfl⟩,⟨rfl,_,by simp [hg],rfl⟩,st',fun b hb=>(hf b hb).1⟩⟩
 done:=by
  intro X hP hw hK hc i pins s σ H E I hf st hg
  subst hP hw hK
  obtain⟨f0,f1,f2,f3,f4,f5⟩:=hf it (by simp)
  have hg:z.cps.size<=i:=hg
  exact wpAny_pyNext_ascii_end (I.ok.hd hc) st (by simp [hg]) fun h' eb=>⟨rfl,I.turned (t':=s.toks) (fun b o hb e=>eb b o hb e) f0 f1 f3 f4 f5⟩
 self:=fun _ _ _ _ _ st h=>wpAny_pyIter_striter_ascii st h
section
variable {X:Cx}{tg:Expr}
def iStr (tl:TE):TI:=fun σ H R=>tl σ H fun x H1=>∃ z,x= .str z/\z.cps.all (· <128)=true/\R (Its z) H1
theorem jQM {l:Expr}{tl:TE}(hl:PE X l tl):PI X tg l (iStr tl):=by
 intro pins s σ H R I h
 refine thn (hl pins s σ H _ I h) fun v s1 ⟨x,H1,I1,r1,q1⟩=>?_
 obtain⟨z,e,ha,q⟩:=q1
 subst e
 obtain⟨t,rfl⟩:=r1
 refine wpAny_pyIter_ascii ha ?_
 refine⟨s1.heap.objs.size,[s1.heap.objs.size],_,_,H1,rfl,I1.kept (t':=s1.toks) fun b o e=>ae _ e,jLV _ z t,⟨_,ay _ rfl,rfl,rfl⟩,fun b hb=>?_,q⟩
 have e:b=s1.heap.objs.size:=by simpa using hb
 subst e
 exact I1.fpOk (ao _) (I1.hok.fresh (ao _))
theorem jNP {a:Expr}{ta:TE}(hl:JE X a ta):JI X tg a (iStr ta):=⟨jQM hl.h⟩
end
section
variable {K:W.Frag}{m:List (Option Nat)}{g:TG}{tt:TT}{te:TE}{σ:St}{H1:Hp}{Q:VK}
theorem jHN {z:PySem.Str}(hn:z.cps.size<sizeLine)(Pv:Addr->Nat->St->Hp->List V->Prop)(h0:∀ D,H1 D=none->Pv D 0 (blkσ m σ) (upd H1 D (.lst [])) [])
  (hD:∀ D i σ' H' zs,H1 D=none->Pv D i σ' H' zs->H' D=some (.lst zs)/\zs.length<=i)
  (hs:∀ D i σ' H' zs c,H1 D=none->z.cps[i]?=some c->Pv D i σ' H' zs->g (.str ⟨#[c]⟩) σ' H' fun σ2 H2=>tt σ2 H2 fun b H3=>if b=true then te σ2 H3 fun v H4=>H4 D=some (.lst zs)/\Pv D (i+1) σ2 (upd H4 D (.lst (zs++[v]))) (zs++[v]) else Pv D (i+1) σ2 H3 zs)
  (hd:∀ D σ' H' zs,H1 D=none->Pv D z.cps.size σ' H' zs->Q (.ref D) H'):CompW m g tt te σ Q (Its z) H1:=by
 intro D hDn
 refine⟨fun i k σ' H' zs=>k=z.cps.size - i/\i<=z.cps.size/\Pv D i σ' H' zs,⟨_,rfl,aJ _,h0 D hDn⟩,?_⟩
 rintro i k σ' H' zs ⟨rfl,hi,p⟩
 obtain⟨q1,q2⟩:=hD D i σ' H' zs hDn p
 refine⟨q1,by omega,?_⟩
 by_cases hlt:i<z.cps.size
 ·refine .inr ⟨hlt,Pv D (i+1),fun σ2 H2 zs z'=>⟨z.cps.size - (i+1),by omega,rfl,hlt,z'⟩,fun v H'' y=>?_⟩
  obtain⟨e1,c,e2,e3⟩:=y
  subst e1 e3
  exact hs D i σ' _ zs c hDn e2 p
 ·have e:i=z.cps.size:=by omega
  subst e
  exact .inl ⟨ao _,hd D σ' H' zs hDn p⟩
end
section
variable {X:Cx}
def jQD:V->List V->Hp->VK->Prop:=fun x vs H Q=>∃ a y,x= .str a/\vs=[.str y]/\(y.length==0)=false/\a.length+2<=sizeLine/\∀ p,H p=none->Q (.ref p) (upd H p (.lst ((Txt.split a y).map V.str)))
theorem jES:∀ (l:List (PySem.Str×Tok)),Vals ((l.map (·.1)).map V.str) (strValues l)
 | []=> .nil
 | (a,t)::r=> .cons ⟨t,rfl⟩ (jES r)
theorem jA6:MtM X "str.split" jQD:=by
 intro pins s σ H x vs v us Q I rx rv h
 obtain⟨a,y,rfl,rfl,hy,hz,q⟩:=h
 obtain⟨t,rfl⟩:=rx
 obtain⟨u,rfl,ru⟩:=rv.one
 obtain⟨t',rfl⟩:=ru
 have hle:=split_le a y
 have fin:∀ (l:List (PySem.Str×Tok)) (k:Nat),l.map (·.1)=Txt.split a y->EP X pins σ Q (.ref s.heap.objs.size) { s with heap:=s.heap.push { cls:= .type "list",data:= .seq (strValues l).toArray},toks:=k} :=fun l k e=>by
  have hl:l.length=(Txt.split a y).length:=by rw[<- e,af]
  refine⟨.ref s.heap.objs.size,_,I.laid (t':=k) (o:= .lst ((Txt.split a y).map V.str)) (fun b o e=>ae _ e) (ao _) ⟨by rw[af]; omega,strValues l,0,by rw[<- e]; exact jES l,ay _ rfl⟩,rfl,q _ (I.hok.fresh (ao _))⟩
 cases h1:(decide (a.length<y.length) || decide (strKind a<strKind y)) with
 | false=>
  cases hf:(occurrences a y 0 a.length (a.length+1)).isEmpty with
  | false=>
   have es:partsBetween a (occurrences a y 0 a.length (a.length+1)) y.length=Txt.split a y:=((aB (eW h1)).trans (aB (eW hf))).symm
   refine dW F.slot_str_split (cy _ _ _) F.entry_str_split (F.args_str_split_2 _ _) (meets_str_split_sep a y t t' h1 hy hf (by omega) (by rw[es]; omega)) ?_
   show wants _ _ _ { s with toks:=_,heap:=s.heap.push { cls:= .type "list",data:= .seq (strsFrom s.toks (partsBetween a (occurrences a y 0 a.length (a.length+1)) y.length)).toArray}}
   rw[strsFrom_eq]
   exact fin (numbered s.toks _) _ ((numbered_texts _ _).trans es)
  | true=>
   exact dW F.slot_str_split (cy _ _ _) F.entry_str_split (F.args_str_split_2 _ _) (meets_str_split_not_found a y t t' h1 hy hf) (fin [(a,t)] s.toks ((aB (eW h1)).trans (aA hf)).symm)
 | true=>
  exact dW F.slot_str_split (cy _ _ _) F.entry_str_split (F.args_str_split_2 _ _) (meets_str_split_cannot_occur a y t t' h1) (fin [(a,t)] s.toks (aA h1).symm)
def jEY (sep:PySem.Str)(ss:List PySem.Str):Nat:=ss.foldl (· + ·.length+sep.length) 0
def rJoin:V->List V->Hp->VK->Prop:=fun x vs H Q=>∃ sep p ss,x= .str sep/\vs=[.ref p]/\H p=some (.lst (ss.map V.str))/\jEY sep ss<=sizeLine/\(PySem.Str.join sep ss).length<=sizeLine/\Q (.str (PySem.Str.join sep ss)) H
theorem jIT:∀ {ss:List PySem.Str}{us:List Value},Vals (ss.map V.str) us->∃ l:List (PySem.Str×Tok),us=strValues l/\l.map (·.1)=ss
 | [],_, .nil=>⟨[],rfl,rfl⟩
 | a::r,_, .cons ⟨t,e⟩ h=>by
  obtain⟨l,e1,e2⟩:=jIT h
  subst e
  exact⟨(a,t)::l,by rw[e1]; rfl,by rw[bi,e2]⟩
theorem jGI:MtM X "str.join" rJoin:=by
 intro pins s σ H x vs v us Q I rx rv h
 obtain⟨sep,p,ss,rfl,rfl,hp,hz,hz2,q⟩:=h
 obtain⟨t,rfl⟩:=rx
 obtain⟨u,rfl,ru⟩:=rv.one
 cases ru
 obtain⟨its,r,pl,_⟩:=I.list (SqL.of hp)
 obtain⟨l,rfl,el⟩:=jIT r
 refine dW F.slot_str_join (cy _ _ _) F.entry_str_join (F.args_str_join_2 _ _) (meets_str_join_list sep t p l ?_) ⟨pl.isList,?_⟩
 ·rw[el]
  show decide (_>sizeLine)=false
  refine aq ?_
  rw[List.foldl_toArray]
  exact Nat.not_lt.mpr hz
 ·match l,el with
  | [],el=>
   subst el
   exact⟨hz2, .str _,H,I.tok _,⟨_,rfl⟩,q⟩
  | [(a,t1)],el=>
   subst el
   exact⟨.str a,H,I,⟨t1,rfl⟩,q⟩
  | a::b::r,el=>
   show (glued sep ((a::b::r).map (·.1))).length<=sizeLine/\_
   rw[el,StrLaws.glued_eq_join]
   exact⟨hz2, .str _,H,I.tok _,⟨_,rfl⟩,q⟩
def jOD:V->List V->Hp->VK->Prop:=fun x vs H Q=>∃ a y,x= .str a/\vs=[.str y]/\Q (.bl (decide (0+y.length<=a.length)&&subAt a y 0)) H
theorem jK5:MtM X "str.startswith" jOD:=by
 intro pins s σ H x vs v us Q I rx rv h
 obtain⟨a,y,rfl,rfl,q⟩:=h
 obtain⟨t,rfl⟩:=rx
 obtain⟨u,rfl,ru⟩:=rv.one
 obtain⟨t',rfl⟩:=ru
 exact dW F.slot_str_startswith (cy _ _ _) F.entry_str_startswith (F.args_str_startswith_2 _ _) (gives_str_startswith a y t t').meets ⟨.bl _,H,I,rfl,q⟩
def rSlS:V->Option Int->Option Int->Hp->VK->Prop:=fun x lo hi H Q=>∃ z,x= .str z/\z.length<=sizeLine/\Q (.str (Txt.slice z lo hi)) H
theorem jBM:SlR X rSlS:=by
 intro pins s σ H x v vl vu lo hi sl Q I rx hs pl pu h
 obtain⟨z,rfl,hz,q⟩:=h
 obtain⟨t,rfl⟩:=rx
 have fin:∀ t' k,EP X pins σ Q (.str (Txt.slice z lo hi) t') { s with toks:=k} :=fun t' k=>⟨.str _,H,I.tok _,⟨_,rfl⟩,q⟩
 have hsl:=aO (Txt.slice_le z lo hi) hz
 refine⟨"str",_,F.slot_str_getitem.lookup,cy _ _ _,?_⟩
 cases pl with
 | none=>
  cases pu with
  | none=>exact cB (l:=none) (u:=none) (st:=none) hs rfl (eQ ⟨hsl,fin⟩)
  | int j uj=>exact cB (l:=none) (u:=some (j,uj)) (st:=none) hs rfl (eQ ⟨hsl,fin⟩)
 | int i ui=>
  cases pu with
  | none=>exact cB (l:=some (i,ui)) (u:=none) (st:=none) hs rfl (eQ ⟨hsl,fin⟩)
  | int j uj=>exact cB (l:=some (i,ui)) (u:=some (j,uj)) (st:=none) hs rfl (eQ ⟨hsl,fin⟩)
theorem jDI:qC X (.type "int") (fun xs H Q=>∃ z n,xs=[.str z]/\PySem.intText? z=some n/\z.length<=640/\Q (.int n) H):=by
 intro pins s σ H xs us Q I r h
 obtain⟨z,n,rfl,hn,hl,q⟩:=h
 obtain⟨u,rfl,t,rfl⟩:=r.one
 exact PySem.W.KIN.call_text hn hl ⟨.int n,H,I.tok _,⟨_,rfl⟩,q⟩
section
variable {a b e:Expr}{ta tb te:TE}{pos:Pos}
theorem jRH {c:Expr}{tc:TT}(hc:JT X c tc)(ha:JE X a ta)(hb:JE X b tb):JE X (.IfExp c a b pos) (tIf tc ta tb):=⟨jM5 hc.h ha.h hb.h⟩
theorem jQ8 {c:Expr}{o:Option Expr} :SwOk (.IfExp c a b pos) o:=⟨fun _ _=>rfl⟩
end
end
section
variable {X:Cx}{sc:Scope}{cl:List (PySem.Str×Addr)}{C:Addr}{Nc:List PySem.Str}{fp:List Addr}{s:Shared}{H:Hp}
end
end L2
end
section
namespace Tx
open PySem PyProof.Rows PySem.NumText
def jl (c:Nat):List (List Nat)->List Nat
 | []=> []
 | [a]=>a
 | a::b::r=>a++c::jl c (b::r)
theorem yH (c:Nat):∀ ss:List PySem.Str,(PySem.Str.join ⟨#[c]⟩ ss).cps.toList=jl c (ss.map (·.cps.toList))
 | []=>rfl
 | [a]=>rfl
 | a::b::r=>by
  show (a++⟨#[c]⟩++PySem.Str.join ⟨#[c]⟩ (b::r)).cps.toList=_
  rw[cX,cX,di,di,yH c (b::r)]
  show (a.cps.toList++[c])++_=a.cps.toList++c::_
  rw[fz]
  rfl
theorem jIZ {c:Nat}{X Y:List Nat} :∀ {a b:List Nat},c∉a->c∉b->a++c::X=b++c::Y->a=b/\X=Y
 | [],[],_,_,h=>⟨rfl,(bZ h).2⟩
 | [],y::b,_,hb,h=>absurd (by rw[(bZ h).1]; exact am) hb
 | x::a,[],ha,_,h=>absurd (by rw[<- (bZ h).1]; exact am) ha
 | x::a,y::b,ha,hb,h=>by
  obtain⟨h1,h2⟩:=bZ h
  obtain⟨e1,e2⟩:=jIZ (fun q=>ha (ar _ q)) (fun q=>hb (ar _ q)) h2
  exact⟨by rw[h1,e1],e2⟩
theorem jNM {c:Nat} :∀ {A B:List (List Nat)},A≠ []->B≠ []->(∀ a∈A,c∉a)->(∀ b∈B,c∉b)->jl c A=jl c B->A=B
 | [],_,h,_,_,_,_=>absurd rfl h
 | _,[],_,h,_,_,_=>absurd rfl h
 | [a],[b],_,_,_,_,h=>by rw[show a=b from h]
 | [a],b::b'::r,_,_,ha,_,h=>by
  have h:a=b++c::jl c (b'::r):=h
  exact absurd (by rw[h]; exact aW _ am) (ha a am)
 | a::a'::r,[b],_,_,_,hb,h=>by
  have h:a++c::jl c (a'::r)=b:=h
  exact absurd (by rw[<- h]; exact aW _ am) (hb b am)
 | a::a'::r,b::b'::r',_,_,ha,hb,h=>by
  obtain⟨e1,e2⟩:=jIZ (ha a am) (hb b am) h
  rw[e1,jNM (by simp) (by simp) (fun x hx=>ha x (ar _ hx)) (fun x hx=>hb x (ar _ hx)) e2]
theorem jBA {a b:PySem.Str}(h:a.cps.toList=b.cps.toList):a=b:=PySem.Str.ext' (ext' h)
theorem jK8:∀ {A B:List PySem.Str},A.map (·.cps.toList)=B.map (·.cps.toList)->A=B
 | [],[],_=>rfl
 | [],_::_,h=>by cases h
 | _::_,[],h=>by cases h
 | a::A,b::B,h=>by
  obtain⟨h1,h2⟩:=bZ h
  rw[jBA h1,jK8 h2]
theorem jAK {c:Nat}{ss:List PySem.Str}(hne:ss≠ [])(h:∀ s∈ss,c∉s.cps.toList):Txt.split (PySem.Str.join ⟨#[c]⟩ ss) ⟨#[c]⟩=ss:=by
 have e:=bn (fun s:PySem.Str=>s.cps.toList) (cI (PySem.Str.join ⟨#[c]⟩ ss) ⟨#[c]⟩)
 have f:=StrLaws.split_free (PySem.Str.join ⟨#[c]⟩ ss) c
 have p:=split_pos (PySem.Str.join ⟨#[c]⟩ ss) ⟨#[c]⟩
 simp only [yH] at e
 refine jK8 (jNM (fun q=>?_) (fun q=>hne (bV.mp q)) (fun a ha=>?_) (fun a ha=>?_) e)
 ·rw[bV.mp q] at p
  exact absurd p (by decide)
 ·obtain⟨s,hs,rfl⟩:=aP.mp ha
  exact f s hs
 ·obtain⟨s,hs,rfl⟩:=aP.mp ha
  exact h s hs
def numS (i:Int):PySem.Str:=PySem.Str.ofString (toString i)
def dl (n:Nat):List Nat:=(toDigits 10 n).map Char.toNat
theorem yQ (n:Nat):(numS (n:Int)).cps.toList=dl n:=PySem.W.KIN.signs_num n
theorem jD1 (n:Nat):(numS (Int.negSucc n)).cps.toList=45::dl (n+1):=by
 unfold numS dl
 rw[signs_ofString]
 show (("-" ++Nat.repr (n+1):String).toList).map Char.toNat=_
 rw[String.toList_append,aS,Nat.toList_repr]
 rfl
theorem jFR {n:Nat}(h:10<=n):dl n=dl (n / 10)++[48+n % 10]:=by
 have hm:n % 10<10:=Nat.mod_lt n (by decide)
 have t:toDigits 10 (n / 10)++toDigits 10 (n % 10)=toDigits 10 (10*(n / 10)+n % 10):=Nat.toDigits_append_toDigits (by decide) (by omega) hm
 rw[Nat.div_add_mod] at t
 unfold dl
 rw[<- t,aS,gf hm]
 congr 1
 have:∀ d,d<10-> [(Nat.digitChar d)].map Char.toNat=[48+d]:=by decide
 exact this _ hm
theorem jB4 {n:Nat}(h:n<10):dl n=[48+n]:=by
 unfold dl
 rw[gf h]
 have:∀ d,d<10-> [(Nat.digitChar d)].map Char.toNat=[48+d]:=by decide
 exact this _ h
theorem jA4:∀ (n:Nat),∀ c∈dl n,48<=c/\c<=57:=by
 intro n
 induction n using strongRecOn with
 | _ n ih=>
  intro c hc
  by_cases h:n<10
  ·rw[jB4 h] at hc
   have:c=48+n:=by simpa using hc
   omega
  ·rw[jFR (by omega)] at hc
   rcases bJ.mp hc with q | q
   ·exact ih (n / 10) (by omega) c q
   ·have:c=48+n % 10:=by simpa using q
    omega
theorem dl_ne (n:Nat):dl n≠ []:=by
 by_cases h:n<10
 ·rw[jB4 h]; simp
 ·rw[jFR (by omega)]; simp
theorem jDX:∀ (k n:Nat),n<10 ^ (k+1)->(dl n).length<=k+1
 | 0,n,h=>by rw[jB4 (by simpa using h)]; simp
 | k+1,n,h=>by
  by_cases h':n<10
  ·rw[jB4 h']; simp
  ·rw[jFR (by omega),aI]
   have:=jDX k (n / 10) (by rw[Nat.pow_succ] at h; omega)
   show (dl (n / 10)).length+1<=_
   omega
theorem jKZ:∀ (n:Nat),1<=n->∃ c r,dl n=c::r/\c≠48:=by
 intro n
 induction n using strongRecOn with
 | _ n ih=>
  intro h1
  by_cases h:n<10
  ·exact⟨48+n,[],jB4 h,by omega⟩
  ·obtain⟨c,r,e,hc⟩:=ih (n / 10) (by omega) (by omega)
   exact⟨c,r++[48+n % 10],by rw[jFR (by omega),e]; rfl,hc⟩
theorem jB1 {i:Int}{k:Nat}(h:k≠45/\(k<48\/57<k)):k∉(numS i).cps.toList:=fun q=>by
 cases i with
 | ofNat n=>
  have q:k∈(numS (n:Int)).cps.toList:=q
  rw[yQ] at q
  have:=jA4 n k q
  omega
 | negSucc n=>
  rw[jD1] at q
  rcases av.mp q with e | e
  ·exact h.1 e
  ·have:=jA4 (n+1) k e
   omega
theorem jH9 (i:Int)(hl:(numS i).length<=4300):PySem.intText? (numS i)=some i:=by
 cases i with
 | ofNat n=>
  have e:(numS ((n:Nat):Int)).cps.toList=dl n:=yQ n
  have q:=cY (x:=numS ((n:Nat):Int)) (by rw[e]; exact jA4 n) (by rw[e]; exact dl_ne n) hl
  rw[e,show digitsVal (dl n)=n from gN n] at q
  exact q
 | negSucc n=>
  have q:=intText_neg (jD1 n) (jA4 (n+1)) (dl_ne (n+1)) hl
  rw[show digitsVal (dl (n+1))=n+1 from gN (n+1)] at q
  exact q
theorem jIS (sep:PySem.Str)(L:Nat):∀ (ss:List PySem.Str) (k:Nat),(∀ s∈ss,s.length<=L)->ss.foldl (· + ·.length+sep.length) k<=k+ss.length*(L+sep.length)
 | [],k,_=>by show k<=k+0*_; omega
 | a::r,k,h=>by
  have ih:=jIS sep L r (k+a.length+sep.length) fun s hs=>h s (ar _ hs)
  have ha:=h a am
  rw[gA,aC,Nat.add_mul,Nat.one_mul]
  omega
theorem jCQ (sep:PySem.Str)(L:Nat):∀ (ss:List PySem.Str),(∀ s∈ss,s.length<=L)->(PySem.Str.join sep ss).length<=ss.length*(L+sep.length)
 | [],_=>by show (PySem.Str.empty).length<=_; simp [PySem.Str.empty,PySem.Str.length]
 | [a],h=>by
  show a.length<=1*(L+sep.length)
  have:=h a am
  omega
 | a::b::r,h=>by
  have ih:=jCQ sep L (b::r) fun s hs=>h s (ar _ hs)
  have ha:=h a am
  show (a++sep++PySem.Str.join sep (b::r)).length<=_
  rw[aE,aE,aC,Nat.add_mul,Nat.one_mul]
  omega
def yP (l:List Int):PySem.Str:=PySem.Str.join "," (l.map numS)
def rowS (pc:List Int×Int):PySem.Str:=yP pc.1++ " " ++numS pc.2
def headS (w:Int)(ms:List Int):PySem.Str:=if ms=[] then "things " ++numS w else "things " ++numS w++ " may " ++yP ms
def yI (w:Int)(ms:List Int)(pcs:List (List Int×Int)):PySem.Str:=PySem.Str.join "\n" (headS w ms::pcs.map rowS)
end Tx
end
section
namespace L2
open PySem PySem.Spec PyProof.Rows
section
variable {prog:Program}{w:World}{A:Around}{E:Value->Shared->Prop}{s:Shared}
structure NoteX (fs R:List Addr)(h h':Heap):Prop where
 keep:∀ b o,h.get? b=some o->b∉fs->b∉R->h'.get? b=some o
 slot:∀ b o,h.get? b=some o->b∉R->∃ sl,h'.get? b=some { o with slots:=sl}
 size:h.objs.size<=h'.objs.size
end
end L2
namespace L2
open PySem PySem.Spec PyProof.Rows
abbrev bmVE:List Value:=[.type "ValueError", .type "Exception", .type "BaseException", .type "object"]
section
variable {X:Cx}{x:Str}{C:Addr}{W:Hp->Prop}{e:Expr}{t:TA}{np cpos pos:Pos}
end
end L2
namespace L2
open PySem PySem.Spec PyProof.Rows
theorem HOk.note {P:Program}{w:World}{H:Hp}{h h':Heap}{fs R:List Addr}(x:HOk P w H h)(n:NoteX fs R h h')(hf:∀ b∈fs,H b=none)(hR:∀ b∈R,H b=none):HOk P w H h':=fun a o e=>
 (x a o e).stay (fun b u hb q=>n.keep b u q (fun z=>by
   have:=hf b z
   rcases hb with rfl | hb
   ·rw[e] at this; cases this
   ·rw[hb] at this; cases this) (fun z=>by
   have:=hR b z
   rcases hb with rfl | hb
   ·rw[e] at this; cases this
   ·rw[hb] at this; cases this)) (fun _ q=>q) fun _ _ q=>q
theorem ObjOk.is {P:Program}{w:World}{H:Hp}{h:Heap}{a:Addr}{o:HO}(x:ObjOk P w H h a o):∃ u,h.get? a=some u:=by
 cases o with
 | lst xs=>obtain⟨_,_,_,_,e⟩:=x; exact⟨_,e⟩
 | tup xs=>obtain⟨_,_,_,_,e⟩:=x; exact⟨_,e⟩
 | dK kvs=>obtain⟨_,_,_,_,o,_,_,e,_⟩:=x; exact⟨_,e⟩
 | dT kvs=>obtain⟨_,_,_,_,o,_,_,e,_⟩:=x; exact⟨_,e⟩
 | set S n=>obtain⟨o,_,_,_,e,_⟩:=x; exact⟨_,e⟩
 | ins C dx fs=>obtain⟨_,_,_,e,_⟩:=x; exact⟨_,e⟩
 | own y=>exact x
 | xd fs=>obtain⟨_,⟨_,_,_,e,_⟩,_⟩:=x; exact⟨_,e⟩
 | rng lo hi=>obtain⟨_,_,_,e⟩:=x; exact⟨_,e⟩
 | frz ob u=>obtain⟨e,_⟩:=x; exact⟨_,e⟩
 | tbl ps=>exact⟨_,x⟩
 | met f y=>exact⟨_,x⟩
 | ext φ=>obtain⟨_,q,_⟩:=x; exact q
end L2
namespace L2
open PySem PySem.Spec PyProof.Rows
section
variable {M:Model}{A:Around}{E:Value->Shared->Prop}{h:Heap}{g:Array GenState}{d:Drawn}{tk:Nat}{os:OsState}
theorem jMJ {nm q nm' q':Str}{C N B N' x:Addr}{bs bm bs' bm':List Value}{hdct hdct':Bool}{sn sn':List Str}{sub sub':List Value}{ab ab':Bool}{col col':Option Bool}{dd dd':Option Addr}{k0 k1 k2 k3 k5 j0 j1 j2 j3 j5:Option Value}{ni ni':String}{ox:Obj}{Q:Bool->Shared->Prop}
  (hC:h.get? C=some (excClassObj nm q C N bs bm hdct sn sub ab col dd k0 k1 k2 k3 k5 ni)) (hB:h.get? B=some (excClassObj nm' q' B N' bs' bm' hdct' sn' sub' ab' col' dd' j0 j1 j2 j3 j5 ni')) (hx:h.get? x=some ox) (hc:ox.cls= .ref C)
  (hb:bm'.contains (.type "BaseException")=true) (hin:bm.contains (.ref B)=true) (z:Q true ⟨h,g,d,tk,os⟩):wpAny M A (excMatches (.ref x) (.ref B)) Q E ⟨h,g,d,tk,os⟩:=by
 have b1:(Value.ref B::bm').contains (.type "BaseException")=true:=by rw[dy,hb,eZ]
 have b2:(Value.ref C::bm).contains (.ref B)=true:=by rw[dy,hin,eZ]
 have f0:=tc_notTuple
 unfold excMatches
 repeat (first | (with_reducible refine bM hx ?_; rw[hc]) | with_reducible refine bM hB ?_ | (with_reducible refine cA hB ?_; rw[b1]) | (with_reducible refine cA hC ?_; rw[b2]) | wp_step)
 exact z
end
end L2
namespace L2
open PySem PySem.Spec PyProof.Rows
structure ExcIs (K:W.Frag)(C:Addr):Prop where
 ga:findIn K (.ref C) "__getattribute__" =some (some (.builtin "BaseException.__getattribute__"))
 gr:findIn K (.ref C) "__getattr__" =some none
 hc:(clsIn K C).isSome=true
 ha:findIn K (.ref C) "__class__" =some (some (.builtin "object.__class__"))
 hn:specialIn K (.builtin "object.__class__") "__get__" =some (some (.builtin "getset_descriptor.__get__"))
 tk:takesIn K (.builtin "object.__class__")=some true
 hm:mroIn K C (.type "object")=some true
 hb:mroIn K C (.type "BaseException")=some true
end L2
namespace L2
open PySem PySem.Spec PyProof.Rows
section
variable {X:Cx}{pins:List (Addr×Obj)}{σ:List (Option V)}{H H':Hp}{s:Shared}{h':Heap}
theorem Inv.stepX {g':Array GenState}{t':Nat}{d':Drawn}{ch:List Addr}(I:Inv X pins σ H s)
  (hch:∀ b∈ch,X.s₀.heap.get? b=none/\b≠X.env.locals/\(∀ x c,X.env.cells.lookup x=some c->c≠b)/\∀ p∈X.pn++pins,p.1≠b)
  (keep:∀ b o,b≠X.env.locals->b∉X.fs->b∉ch->s.heap.get? b=some o->H b=none->h'.get? b=some o)
  (slot:∀ b o,b≠X.env.locals->b∈X.fs->b∉ch->s.heap.get? b=some o->H b=none->∃ sl,h'.get? b=some { o with slots:=sl}) (free:∀ b o,b∉ch->s.heap.get? b=some o->H b=none->H' b=none)
  (there:∀ b o,b∉ch->s.heap.get? b=some o->∃ o',h'.get? b=some o')
  (tups:∀ b xs,H b=some (.tup xs)->H' b=some (.tup xs)) (frzs:∀ b o u,H b=some (.frz o u)->H' b=some (.frz o u)) (tbls:∀ b ps,H b=some (.tbl ps)->∃ more,H' b=some (.tbl (ps++more)))
  (ns:∀ m,s.heap.Ns X.env.locals m->h'.Ns X.env.locals m) (hok:HOk X.prog X.w H' h') (hg:AllBare g'):
  Inv X pins σ H' { s with heap:=h',gens:=g',drawn:=d',toks:=t'} :=by
 have neL:∀ b o,X.s₀.heap.get? b=some o->b≠X.env.locals:=fun b o e=>aN (aG (au e) I.ok.above)
 have neC:∀ b o,X.s₀.heap.get? b=some o->b∉X.ex->b∉ch:=fun b o e hx hb=>by
  have z:=(hch b hb).1
  rw[e] at z
  cases z
 have cellK:∀ x c,X.env.cells.lookup x=some c->∀ v,s.heap.IsCell c v->h'.IsCell c v:=fun x c e v ⟨o,ho,hd⟩=>by
  have nch:c∉ch:=fun z=>(hch c z).2.2.1 x c e rfl
  by_cases hc:c∈X.fs
  ·obtain⟨sl,q⟩:=slot c o (I.cne x c e) hc nch ho (I.freeC x c e)
   exact⟨_,q,hd⟩
  ·exact⟨o,keep c o (I.cne x c e) hc nch ho (I.freeC x c e),hd⟩
 refine⟨I.ok,I.os,hg,⟨fun b o e n hb hx=>?_,fun b o e n hb hx=>?_,fun b o e n hx=>?_,fun b o e hx=>?_,fun b xs e=>tups b xs (I.base.tups b xs e),fun b o xs e=>frzs b o xs (I.base.frzs b o xs e),fun b ps e=>?_⟩,?_,fun x c e=>?_,?_,fun x c e=>?_,fun p hp=>?_,hok,I.len⟩
 ·exact keep b o (neL b o e) hb (neC b o e hx) (I.base.keep b o e n hb hx) (I.base.free b o e n hx)
 ·obtain⟨sl,e1⟩:=I.base.slot b o e n hb hx
  obtain⟨sl',e2⟩:=slot b _ (neL b o e) hb (neC b o e hx) e1 (I.base.free b o e n hx)
  exact⟨sl',e2⟩
 ·obtain⟨o',e1⟩:=I.base.there b o e hx
  exact free b o' (neC b o e hx) e1 (I.base.free b o e n hx)
 ·obtain⟨o',e1⟩:=I.base.there b o e hx
  exact there b o' (neC b o e hx) e1
 ·obtain⟨m1,e1⟩:=I.base.tbls b ps e
  obtain⟨m2,e2⟩:=tbls b _ e1
  exact⟨m1++m2,by rw[e2,gT]⟩
 ·obtain⟨m,hn,hl⟩:=I.loc
  refine⟨m,ns m hn,fun i x v e1 e2 e3=>?_⟩
  obtain⟨u,r,l⟩:=hl i x v e1 e2 e3
  refine⟨u,r,?_⟩
  rcases l with l | ⟨k,c,e,z⟩
  ·exact .inl l
  ·exact .inr ⟨k,c,e,cellK x c e _ z⟩
 ·obtain⟨v,z⟩:=I.cell x c e
  exact⟨v,cellK x c e v z⟩
 ·obtain⟨m,⟨o,_,_,ho,_⟩,_⟩:=I.loc
  exact free _ o (fun z=>(hch _ z).2.1 rfl) ho I.free
 ·obtain⟨v,o,ho,hd⟩:=I.cell x c e
  exact free c o (fun z=>(hch c z).2.2.1 x c e rfl) ho (I.freeC x c e)
 ·obtain⟨e,n,ne,nf,d⟩:=I.pin p hp
  have nch:p.1∉ch:=fun z=>(hch p.1 z).2.2.2 p hp rfl
  exact⟨keep p.1 p.2 ne nf nch e n,free p.1 p.2 nch e n,ne,nf,d⟩
theorem Inv.callX {g':Array GenState}{t':Nat}{d':Drawn}{ch:List Addr}(I:Inv X pins σ H s)(u:Un (frs X.stack) ch H H' s.heap h')(hok:HOk X.prog X.w H' h')(hg:AllBare g')
  (hch:∀ b∈ch,X.s₀.heap.get? b=none/\b≠X.env.locals/\(∀ x c,X.env.cells.lookup x=some c->c≠b)/\∀ p∈X.pn++pins,p.1≠b):
  Inv X pins σ H' { s with heap:=h',gens:=g',drawn:=d',toks:=t'} :=by
 obtain⟨m,⟨o,es,ep,ho,r⟩,_⟩:=id I.loc
 obtain⟨sl,hL⟩:=u.any ho I.free fun z=>(hch _ z).2.1 rfl
 exact I.stepX (ch:=ch) hch (fun b o hL hb hc e n=>u.keep b o e n (fun z=>(av.mp (I.stkSub b z)).elim hL hb) hc) (fun b o _ _ hc e n=>u.any e n hc) (fun b o hc e n=>u.free b o e n hc) (fun b o hc e=>u.there b o e hc) u.tups u.frzs u.tbls (fun m' hm=>by
  obtain⟨o',es',ep',ho',r'⟩:=hm
  rw[ho] at ho'; cases ho'
  exact⟨_,es',ep',hL,r'⟩) hok hg
end
end L2
namespace L2
open PySem PySem.Spec PyProof.Rows
section
variable {X:Cx}{pins:List (Addr×Obj)}{σ:St}{H H':Hp}{s:Shared}{h2:Heap}{x C T T':Addr}
theorem Inv.apart (I:Inv X pins σ H s)(hex:X.ex=[]){b:Addr}(hb:s.heap.get? b=none):X.s₀.heap.get? b=none/\b≠X.env.locals/\(∀ y c,X.env.cells.lookup y=some c->c≠b)/\∀ p∈X.pn++pins,p.1≠b:=by
 refine⟨?_,fun z=>?_,fun y c e z=>?_,fun p hp z=>?_⟩
 ·cases q:X.s₀.heap.get? b with
  | none=>rfl
  | some o=>
   obtain⟨o',e⟩:=I.base.there b o q (by rw[hex]; simp)
   rw[hb] at e
   cases e
 ·obtain⟨m,⟨o,es,ep,hL,_⟩,_⟩:=I.loc
  rw[<- z,hb] at hL
  cases hL
 ·obtain⟨v,o,ho,_⟩:=I.cell y c e
  rw[z,hb] at ho
  cases ho
 ·have:=(I.pin p hp).1
  rw[z,hb] at this
  cases this
end
def jAE (X:Cx)(x:Addr):Cx:= { X with A:=X.A.mark (some (.ref x)),calm:=false,xe:=fun _ _=>False}
section
variable {X:Cx}{pins:List (Addr×Obj)}{σ:St}{H:Hp}{s:Shared}{x:Addr}
theorem Cx.Ok.suite (ok:X.Ok)(x:Addr):(jAE X x).Ok:=
 ⟨ok.mod,ok.kind,ok.glob,ok.blt,ok.above,ok.inj,ok.has,ok.cab,fun z=>(nomatch z),ok.frames,ok.stk,ok.exf,ok.bs,ok.bsz,ok.noex,ok.exfs,ok.funs,ok.frf⟩
theorem Inv.suite (I:Inv X pins σ H s)(x:Addr):Inv (jAE X x) pins σ H s:=⟨I.ok.suite x,I.os,I.bare,I.base,I.loc,I.cell,I.free,I.freeC,I.pin,I.hok,I.len⟩
theorem Inv.unsuite (ok:X.Ok)(I:Inv (jAE X x) pins σ H s):Inv X pins σ H s:=⟨ok,I.os,I.bare,I.base,I.loc,I.cell,I.free,I.freeC,I.pin,I.hok,I.len⟩
end
section
variable {M:Model}{A:Around}{E:Value->Shared->Prop}{s:Shared}{x C T:Addr}{Q:Unit->Shared->Prop}
end
def Above (K:W.Frag)(C B:Addr):Prop:=∃ (nm q nm' q':Str) (N N':Addr) (bs bm bs' bm':List Value) (hdct hdct':Bool) (sn sn':List Str) (sub sub':List Value) (ab ab':Bool) (col col':Option Bool) (dd dd':Option Addr) (k0 k1 k2 k3 k5 j0 j1 j2 j3 j5:Option Value) (ni ni':String),
 bm'.contains (.type "BaseException")=true/\bm.contains (.ref B)=true/\∀ h:Heap,K.In h->h.get? C=some (excClassObj nm q C N bs bm hdct sn sub ab col dd k0 k1 k2 k3 k5 ni)/\h.get? B=some (excClassObj nm' q' B N' bs' bm' hdct' sn' sub' ab' col' dd' j0 j1 j2 j3 j5 ni')
section
variable {X:Cx}{y n g c:Str}{i j k:Nat}{f B C:Addr}{fd:FuncData}{ps:List Str}{sp:Sp}{e r:Expr}{es:List Expr}{t:TA}{te:Addr->TE}{yp gp cp ap np rp hp tp:Pos}
end
section
variable {prog:Program}{w:World}{A:Around}{E:Value->Shared->Prop}{s:Shared}
end
section
variable {X:Cx}{tg:Expr}
end
section
variable {X:Cx}{tg iter elt:Expr}{ifs:List Expr}{sc:Scope}{pos:Pos}{wi:TI}{g:TG}{tt:TT}{te:TE}{m:List (Option Nat)}{Nc:List Str}
end
structure RoomS (k:Nat)(A:Around)(x:Addr):Prop where
 hd:A.handled=some (.ref x)
 dp:A.depth+3*k+5<recursionLimit
 un:A.units+16*k+200<cLine
theorem Room.suite {k:Nat}{A:Around}(r:Room k A)(x:Addr):RoomS k (A.mark (some (.ref x))) x:=⟨rfl,r.dp,r.un⟩
theorem RoomS.deeper {k:Nat}{A:Around}{x:Addr}(r:RoomS (k+1) A x)(env:Env):RoomS k (A.deeper env) x:=
 ⟨r.hd,by have:=r.dp; show A.depth+1+3*k+5<_; omega,by have:=r.un; show A.units+3+16*k+200<_; omega⟩
structure FnS (P:Program)(w:World)(K:W.Frag)(mg:Str->Option Value)(base:Heap)(k:Nat)(f:Addr)(fd:FuncData)(ps:List Str)(sp:Addr->Sp):Prop where
 len:∀ x vs H Q E,sp x vs H Q E->vs.length=ps.length
 run:∀ (A:Around) (outer:List Env) (s:Shared) (H:Hp) (args:Args) (us:List Value) (vs:List V) (Q:VK) (E:XK) (x:Addr),RoomS k A x->Env0 P w K mg base A outer s H->BindsTo s fd args (ps.zip us)->Vals vs us->sp x vs H Q E->
  codeAny (model P w) A (.call (.ref f) args) (CR CX0 outer P w H s Q E) s
def cxS (P:Program)(w:World)(K:W.Frag)(mg:Str->Option Value)(base:Heap)(N:List Str)(qual:Str)(scope:Scope)(f:Addr)(cd:Value)(A:Around)(outer:List Env)(s:Shared)(H:Hp)(E:XK):Cx:= { (cxOf CX0 P w K mg base N qual scope f cd A outer s H E).nox with calm:=false}
theorem jRM {P:Program}{w:World}{K:W.Frag}{mg:Str->Option Value}{base:Heap}{k:Nat}{x qual:Str}{st:Stmt}{f:Addr}{fd:FuncData}{N ps:List Str}{sp:Addr->Sp}(F:Fun K x qual st f fd)(S:FnScope N ps (j9 st))(len:∀ x vs H Q E,sp x vs H Q E->vs.length=ps.length)
  (hbody:∀ (cdv:Value) (A:Around) (outer:List Env) (s:Shared) (H:Hp) (vs:List V) (Q:VK) (E:XK) (x:Addr),RoomS k (A.deeper (envOfC qual (j9 st) s.heap.objs.size f cdv)) x->sp x vs H Q E->
   ∃ t,PSs (cxS P w K mg base N qual (j9 st) f cdv A outer s H E) (jE st) t/\t { nx:=fun _ H'=>Q .non H',rt:=Q} (start N vs) H):
  FnS P w K mg base (k+1) f fd ps sp:=by
 obtain⟨oc,od,kV,doc,pm,an,cdv,ct,osl,rfl,lk,hcd⟩:=F.ex
 refine⟨len,fun A outer s H args us vs Q E x hr e0 hb r hsp=>?_⟩
 have hl:=len _ _ _ _ _ hsp
 have KX:K.In s.heap:=e0.mod.kin.keeps fun b o e=>(e0.bs b o e).1
 have lim:s.heap.NoLimit:=e0.mod.nolimit.keeps fun b o e=>(e0.bs b o e).1
 have hkind:∀ y∈ps.zip us,(j9 st).names.lookup y.1=some .local\/((j9 st).names.lookup y.1=some .cell/\((cellsFrom (s.heap.objs.size+1) (j9 st).names []).lookup y.1).isSome=true):=fun ⟨n,v⟩ hy=>by
  rcases S.par n (eM hy).1 with q | q
  ·exact .inl q
  ·exact .inr ⟨q,dG _ _ _ (.inl q)⟩
 refine codeAny_call_function (by have:=hr.dp; omega) (KX _ _ lk) rfl S.co S.gen rfl (gX KX hcd) (hb _ _ _ _ ?_)
 refine fj S.kind hkind fun env he s1 z=>?_
 subst he
 refine⟨lim.keeps z.toInCall.keep,codeAny_func ?_⟩
 obtain⟨t,ht,hq⟩:=hbody cdv A outer s H vs Q E x (hr.deeper _) hsp
 have J:Inv (cxOf CX0 P w K mg base N qual (j9 st) f cdv { A with handled:=none} outer s H E) [] (start N vs) H s1:=jFO S rfl ⟨e0.frames,e0.mod,e0.bs,e0.bsz,e0.funs,e0.frf,e0.hok,e0.bare⟩ hl r z
 have ok:=J.ok
 have I:Inv (cxS P w K mg base N qual (j9 st) f cdv A outer s H E) [] (start N vs) H s1:=
  ⟨⟨ok.mod,ok.kind,ok.glob,ok.blt,ok.above,ok.inj,ok.has,ok.cab,fun z=>(nomatch z),Around.frames_deeper e0.frames,ok.stk,ok.exf,ok.bs,ok.bsz,ok.noex,ok.exfs,ok.funs,ok.frf⟩,J.os,J.bare,J.base,J.loc,J.cell,J.free,J.freeC,J.pin,J.hok,J.len⟩
 refine aZ (ht [] s1 (start N vs) H _ I hq) (fun fl s' hs=>?_) fun e s' hs=>False.elim hs
 have fin:∀ {σ':St}{H':Hp}{v:V}{u:Value},Inv (cxS P w K mg base N qual (j9 st) f cdv A outer s H E) [] σ' H' s'->RelV v u->Q v H'->CE outer P w H s Q u s':=
  fun {σ' H' v u} J rv q=>⟨v,H',J.os,J.bare,J.base,J.hok,rv,q⟩
 cases fl with
 | ret u=>
  obtain⟨v,σ',H',J,rv,q⟩:=hs
  exact fin J rv q
 | next=>
  obtain⟨σ',H',J,q⟩:=hs
  exact fin (v:=V.non) (u:=Value.none) J rfl q
 | brk=>
  obtain⟨_,_,_,q⟩:=hs
  exact False.elim q
 | cont=>
  obtain⟨_,_,_,q⟩:=hs
  exact False.elim q
section
variable {X:Cx}{k:Nat}{f a:Addr}{fd:FuncData}{ps:List Str}{sp:Addr->Sp}{x:Str}{p pos:Pos}{e:Expr}{es:List Expr}{t:TA}
theorem jMS (F:FnS X.prog X.w X.K X.mg X.base k f fd ps sp)(hr:RoomS k X.A a)(hg:Gl1 X x)(hm:X.mg x=some (.ref f))(hk:keepIn X.K (.ref f)=true)(hb:Binds X.K fd ps [])
  (ha:JA X (e::es) t) (he:starEach (e::es) X.env=(false,eval e X.env)::starEach es X.env) (hdb:(x==("__debug__" :Str))=false:=by decide) (hpl:(backTo pos (starEach es X.env)).any (·.1)=false:=by rfl):
  JE X (.Call (.Name x p) (e::es) [] pos) (tCall (sp a) [] E0 t):=by
 refine⟨fun pins s σ H Q I h=>?_⟩
 refine cH (jBE I hg.a hm ?_ hdb)
 refine fi (h₀:=X.base) I.ok.mod.kin hk (thn (ha.h pos pins s σ H _ I h) fun us s1 ⟨vs,H1,I1,r,q⟩=>⟨I1.kIn,?_⟩) he hpl
 replace q:sp a (vs++[]) H1 Q E0:=q
 rw[bL] at q
 have hl:us.length=ps.length:=by rw[<- r.length]; exact F.len _ _ _ _ _ q
 have hbb:=hb s1 us I1.kIn (by rw[bL]; exact hl)
 rw[bL] at hbb
 refine cF (cG (F.run X.A X.stack s1 H1 ⟨us,[]⟩ us vs Q E0 a hr I1.env0 hbb r q) fun r s' hq=>?_)
 cases r with
 | error e=>exact hq.elim
 | ok fl=>
  cases fl with
  | ret u=>exact I1.after hq
  | next=>exact False.elim hq
  | brk=>exact False.elim hq
  | cont=>exact False.elim hq
end
section
variable {CX:CXT}{P:Program}{w:World}{K:W.Frag}{mg:Str->Option Value}{base:Heap}{N:List Str}{qual:Str}{sc:Scope}{f:Addr}{cdv:Value}{A:Around}{outer:List Env}{s:Shared}{H:Hp}{E:XK}{x:Str}
theorem gl_x (h:sc.names.lookup x=some .globalImplicit):Gl1 (cxOf CX P w K mg base N qual sc f cdv A outer s H E).nox x:=⟨h⟩
theorem qZ (h:sc.names.lookup x=some .local):Vis1 (cxOf CX P w K mg base N qual sc f cdv A outer s H E).nox x:=⟨.inl h⟩
theorem loc_x (h:sc.names.lookup x=some .local):Loc1 (cxOf CX P w K mg base N qual sc f cdv A outer s H E).nox x:=⟨.inl h, .inl rfl⟩
theorem gl_s (h:sc.names.lookup x=some .globalImplicit):Gl1 (cxS P w K mg base N qual sc f cdv A outer s H E) x:=⟨h⟩
theorem vis_s (h:sc.names.lookup x=some .local):Vis1 (cxS P w K mg base N qual sc f cdv A outer s H E) x:=⟨.inl h⟩
theorem gl_u {X:Cx}{a:Addr}(h:Gl1 X x):Gl1 (jAE X a) x:=⟨h.a⟩
theorem vis_u {X:Cx}{a:Addr}(h:Vis1 X x):Vis1 (jAE X a) x:=⟨h.a⟩
end
section
variable {X:Cx}{e:Expr}{es:List Expr}{t:TA}{a:Addr}{p pos:Pos}
end
def Dh (D:Ends)(j:Nat):Ends:= { nx:=fun σ H=>D.nx (σ.set j none) H,rt:=D.rt,bk:=fun σ H=>D.bk (σ.set j none) H,ct:=fun σ H=>D.ct (σ.set j none) H}
section
variable {X:Cx}{y n g c:Str}{i j k:Nat}{f B C:Addr}{fd:FuncData}{ps:List Str}{sp:Sp}{e:Expr}{es:List Expr}{t:TA}{te t1:TEX}{yp gp cp ap np rp hp tp pos:Pos}
theorem jR7 (h:X.xe=fun _ _=>False):X=X.nox:=by
 cases X
 cases h
 rfl
theorem Inv.lost {pins:List (Addr×Obj)}{σ:St}{H:Hp}{s:Shared}{h':Heap}{t':Nat}{v:Option Value}{m:Str->Option Value}(I:Inv X pins σ H s)(hN:X.N.Nodup)(hj:X.N[j]?=some n)(ln:X.env.scope.names.lookup n=some .local)(hm:s.heap.Ns X.env.locals m)(hl:∀ (i:Nat) (y:Str) (v:V),X.N[i]?=some y->σ[i]?=some (some v)->Vis X.env.scope y->∃ u,RelV v u/\Look X.env s.heap m y u)
  (hn:h'.Ns X.env.locals (fun x=>if x=n then v else m x)) (sb:Heap.SameBut X.env.locals s.heap h'):Inv X pins (σ.set j none) H { s with heap:=h',toks:=t'} :=by
 refine⟨I.ok,I.os,I.bare,I.base.sameBut sb I.ok.above,⟨_,hn,fun i y v e1 e2 e3=>?_⟩,fun y c e=>?_,I.free,I.freeC,fun p hp=>?_,I.hok.sameBut sb I.free,by rw[gq]; exact I.len⟩
 ·have nij:i≠j:=fun z=>by
   subst z
   by_cases hlt:i<σ.length
   ·rw[dE hlt] at e2
    cases e2
   ·rw[cQ (by rw[gq]; omega)] at e2
    cases e2
  rw[eD (bY nij)] at e2
  have yn:y≠n:=fun z=>by
   subst z
   exact nij ((List.getElem?_inj (aV.mp e1).1 hN).mp (e1.trans hj.symm))
  obtain⟨u,r,l⟩:=hl i y v e1 e2 e3
  refine⟨u,r,?_⟩
  rcases l with ⟨lk,l⟩ | ⟨lk,c,hc,o,ho,hd⟩
  ·exact .inl ⟨lk,(aB yn).trans l⟩
  ·exact .inr ⟨lk,c,hc,o,(sb.2 c (I.cne y c hc)).trans ho,hd⟩
 ·obtain⟨v,o,ho,hd⟩:=I.cell y c e
  exact⟨v,o,(sb.2 c (I.cne y c e)).trans ho,hd⟩
 ·obtain⟨e,n,ne,nf,d⟩:=I.pin p hp
  exact⟨(sb.2 _ ne).trans e,n,ne,nf,d⟩
end
section
variable {X:Cx}{pins:List (Addr×Obj)}{σ:St}{H:Hp}{s:Shared}
end
section
variable {P:Program}{w:World}{K:W.Frag}{mg:Str->Option Value}{base:Heap}{N ps fs:List Str}{qual:Str}{scope:Scope}{f:Addr}{cd:Value}{cl:List (Str×Addr)}{A:Around}{outer:List Env}{s:Shared}{H:Hp}{us:List Value}{vs fv:List V}
end
section
variable {X:Cx}{pins:List (Addr×Obj)}{σ:St}{H:Hp}{s:Shared}{fs:List Str}{fv:List V}{is:List Nat}{scope:Scope}
end
section
variable {X:Cx}{k:Nat}{x q:Str}{args:Arguments}{body:List Stmt}{scope:Scope}{ps fs:List Str}{is:List Nat}{sp:List V->Sp}{p pos:Pos}{e:Expr}{es:List Expr}{t:TA}{j:Nat}
end
section
variable {X:Cx}{tg iter elt:Expr}{ifs:List Expr}{sc:Scope}{pos:Pos}{wi:TI}{g:TG}{tt:TT}{te:St->TE}{m:List (Option Nat)}{Nc:List Str}
end
open PySem.AutoSeq1 (wpAny_loadPart')
section
variable {prog:Program}{w:World}{A:Around}{E:Value->Shared->Prop}{s:Shared}
end
set_option maxHeartbeats 2000000 in
section
variable {X:Cx}
end
section
variable {K:W.Frag}{m:List (Option Nat)}{g:TG}{tt:TT}{te:TE}{σ:St}{H1:Hp}{Q:VK}
end
section
variable {κ:Type} [DecidableEq κ]
end
section
variable {P:Program}{w:World}{H:Hp}{h:Heap}{a:Addr}
end
section
variable {X:Cx}{pins:List (Addr×Obj)}{σ:St}{H:Hp}{s:Shared}{a:Addr}{y v:V}{u r:Value}{o:Option V}{A:Around}{E:Value->Shared->Prop}
end
section
variable {X:Cx}{pins:List (Addr×Obj)}{σ:St}{H:Hp}{s:Shared}{a:Addr}{kvs:List (Key×V)}{k:Key}{u:Value}{A:Around}{E:Value->Shared->Prop}
end
section
variable {X:Cx}{o i e value:Expr}{pos pos' tpos:Pos}{td ty tv:TE}
end
section
variable {X:Cx}{pos:Pos}
end
section
variable {X:Cx}{pins:List (Addr×Obj)}{σ:St}{H:Hp}{s:Shared}{a:Addr}{y d:V}{u r:Value}{o:Option V}{A:Around}{E:Value->Shared->Prop}
end
section
variable {X:Cx}{o e f:Expr}{apos cpos:Pos}{td ty tx:TE}
end
section
variable {X:Cx}{pins:List (Addr×Obj)}{σ:St}{H:Hp}{s:Shared}{a:Addr}{kvs:List (Key×V)}{A:Around}{E:Value->Shared->Prop}
end
section
variable {X:Cx}{pins:List (Addr×Obj)}{σ:St}{H:Hp}{s:Shared}{a:Addr}{y:V}{u:Value}{A:Around}{E:Value->Shared->Prop}
end
section
variable {κ:Type} [DecidableEq κ]
end
section
variable {prog:Program}{w:World}{A:Around}{E:Value->Shared->Prop}{s:Shared}{d:Addr}{kvs:List (Key×Value)}
end
section
variable {X:Cx}{o i e f value:Expr}{td ty tv tx:TE}{pos pos' apos cpos:Pos}
end
section
variable {prog:Program}{w:World}{A:Around}{E:Value->Shared->Prop}{s:Shared}
end
section
variable {prog:Program}{w:World}{K:Type} [DecidableEq K]{knd:KeyKind prog w K}{A:Around}{R:Result->Shared->Prop}{I:Addr}{fp wr:List Addr}{n:Nat}{P:Nat->Value->Prop}{St:Nat->Shared->Prop}
end
section
variable {prog:Program}{w:World}{K:Type} [DecidableEq K]{knd:KeyKind prog w K}{A:Around}{E:Value->Shared->Prop}{s:Shared}
end
section
variable {X:Cx}
end
section
variable {X:Cx}
end
section
variable {P:Program}{w:World}{K:W.Frag}{mg:Str->Option Value}{base:Heap}{N:List Str}{qual:Str}{sc:Scope}{f:Addr}{cd:Value}{cl:List (Str×Addr)}{A:Around}{outer:List Env}{s:Shared}{H:Hp}{x:Str}
end
section
variable {X:Cx}
end
section
variable {K:W.Frag}{m:List (Option Nat)}{g:TG}{tt:TT}{te:TE}{σ:St}{H1:Hp}{Q:VK}
end
section
variable {X:Cx}{sc:Scope}{cl:List (Str×Addr)}{C:Addr}{Nc:List Str}{fp:List Addr}{s:Shared}{H:Hp}
variable {sc2:Scope}{cl2:List (Str×Addr)}{C2:Addr}{Nc2:List Str}{fp2:List Addr}{s2:Shared}{H2:Hp}
end
section
variable {K:W.Frag}{m:List (Option Nat)}{g:TG}{tt:TT}{te:TE}{σ:St}{H:Hp}{Q:VK}
end
section
variable {X:Cx}{sc:Scope}{cl:List (Str×Addr)}{C:Addr}{Nc:List Str}{fp:List Addr}{s:Shared}{H:Hp}
end
section
variable {X:Cx}{st:Stmt}{sts:List Stmt}{t:TS}{e:Expr}{tt:TT}
theorem JS.nox (h:JS X.nox st t):JS X st t:=⟨fun pins s σ H D I hw=>aZ (h.h pins s σ H D (I.wish _) hw) (fun _ _ q=>q.unwish) fun _ _ z=>False.elim z⟩
theorem JT.nox (h:JT X.nox e tt):JT X e tt:=⟨h.h.nox⟩
end
end L2
namespace L2
open PySem PySem.Spec PyProof.Rows
end L2
namespace L2
open PySem
structure CanS (P:Program)(w:World)(K:W.Frag)(mg:Str->Option Value)(base:Heap)(x:Str)(k:Nat)(f:Addr)(fd:FuncData)(ps:List Str)(sp:Addr->Sp):Prop where
 G:FnS P w K mg base k f fd ps sp
 m:mg x=some (.ref f)
 kp:keepIn K (.ref f)=true
 b:Binds K fd ps []
end L2
namespace L2
open PySem PySem.Spec PyProof.Rows
section
variable {m:List (Option Nat)}{g:TG}{tt:TT}{te:TE}{σ:St}{H1:Hp}{Q:VK}
end
end L2
end
section
namespace PySem
section
variable {prog:Program}{w:World}{A:Around}{E:Value->Shared->Prop}{h:Heap}{g:Array GenState}{d:Drawn}{t:Nat}{os:OsState}
variable {nm q:Str}{C N:Addr}{bs bm bmB:List Value}{hdct:Bool}{sn:List Str}{sub:List Value}{ab:Bool}{col:Option Bool}{dd:Option Addr}{k0 k1 k2 k3 k5:Option Value}{B Bn newId nid initId inN:String}{bmN:List Value}
theorem jFD (Fn:ExcBaseFacts Bn newId inN bmN)(hBn:bmB.contains (.type Bn)=true)(F:ExcBaseFacts B nid initId bmB)(T:OwnTail h bmB bm){mN:Str->Option Value}{rest:List Value}{fI:Addr}{oI:Obj}{Q:Fin->Shared->Prop}
  (hC:h.get? C=some (excClassObj nm q C N bs bm hdct sn sub ab col dd k0 k1 k2 k3 k5 newId)) (hn:h.Ns N mN) (hi:mN "__init__" =some (.ref fI)) (hfI:h.get? fI=some oI) (hfc:oI.cls= .type "function")
  (hq:∀ h' e,Heap.MadeExcOf h h' e (.ref C) rest->wpAny (model prog w) A (call (.ref fI) (.ref e::rest)) (fun r s'=>r= .none/\Q (.done (.ret (.ref e))) s') E ⟨h',g,d,t,os⟩) (hrest:rest.length<=sizeLine:=by size_fits):
  wpAny (model prog w) A (Builtin.«type.__call__» ⟨.ref C::rest,[]⟩) Q E ⟨h,g,d,t,os⟩:=by
 repeat (first | with_reducible refine bM hC ?_ | with_reducible refine wpAny_madeBy_exc hC ?_ | wp_step)
 refine codeAny_call_builtin_code (fk _ Fn.quiet) (wpAny_check_new_subU Fn hBn T hC ?_)
 refine codeAny_exc_new_subU Fn hBn F T hC ?_ hrest
 show wpAny _ _ _ _ _ _
 have hC₁:=ae { cls:= .ref C,data:= .fields #[.ref h.objs.size, .none, .none, .none, .bool false, .none]}
  (ae { cls:= .type "tuple",data:= .seq rest.toArray} hC)
 have hfI₁:=ae { cls:= .ref C,data:= .fields #[.ref h.objs.size, .none, .none, .none, .bool false, .none]}
  (ae { cls:= .type "tuple",data:= .seq rest.toArray} hfI)
 have hn₁:((h.push { cls:= .type "tuple",data:= .seq rest.toArray}).push { cls:= .ref C,data:= .fields #[.ref h.objs.size, .none, .none, .none, .bool false, .none]}).Ns N mN:=
  let ⟨o,es,ep,e,r⟩:=hn; ⟨o,es,ep,ae _ (ae _ e),r⟩
 have hget:((h.push { cls:= .type "tuple",data:= .seq rest.toArray}).push
   { cls:= .ref C,data:= .fields #[.ref h.objs.size, .none, .none, .none, .bool false, .none]}).get? (h.objs.size+1)=some
   { cls:= .ref C,data:= .fields #[.ref h.objs.size, .none, .none, .none, .bool false, .none]} :=by heap_get
 have hcC:(Value.ref C::bm).contains (.ref C)=true:=by simp
 have T₁:=T.keeps (h':=(h.push { cls:= .type "tuple",data:= .seq rest.toArray}).push { cls:= .ref C,data:= .fields #[.ref h.objs.size, .none, .none, .none, .bool false, .none]})
  fun b o e=>ae _ (ae _ e)
 unfold isInstance
 repeat (first | with_reducible refine bM hget ?_ | (with_reducible refine cA hC₁ ?_; rw[hcC]) | wp_step)
 show wpAny _ _ (typeLookup (.ref C) _) _ _ _
 refine wpAny_typeLookup_tail hC₁ hn₁ T₁ F.mroIs F.init.lookup ?_
 rw[hi]
 refine be (aa ?_)
 unfold bindSpecial
 refine aa (dJ (T:= "function") ⟨_,hfI₁,hfc⟩ ?_)
 rw[aA (by decide)]
 refine ag (aa (aZ (hq _ (h.objs.size+1) ⟨fun b o hb=>ae _ (ae _ hb),ej (gJ _),h.objs.size,hget,ej (ao _),?_⟩) (fun r s' hr=>?_) fun _ _ x=>x))
 ·exact ae _ (Heap.get?_push_at rfl rfl)
 ·obtain⟨rfl,hQ⟩:=hr
  wp_walk
  exact hQ
theorem jPC (Fn:ExcBaseFacts Bn newId inN bmN)(hBn:bmB.contains (.type Bn)=true)(F:ExcBaseFacts B nid initId bmB)(T:OwnTail h bmB bm){mN:Str->Option Value}{rest:List Value}{fI:Addr}{oI:Obj}{Q:Value->Shared->Prop}
  (hC:h.get? C=some (excClassObj nm q C N bs bm hdct sn sub ab col dd k0 k1 k2 k3 k5 newId)) (hn:h.Ns N mN) (hi:mN "__init__" =some (.ref fI)) (hfI:h.get? fI=some oI) (hfc:oI.cls= .type "function")
  (hq:∀ h' e,Heap.MadeExcOf h h' e (.ref C) rest->wpAny (model prog w) (A.under (.builtin "type.__call__" ⟨.ref C::rest,[]⟩)) (call (.ref fI) (.ref e::rest)) (fun r s'=>r= .none/\Q (.ref e) s') E ⟨h',g,d,t,os⟩) (hrest:rest.length<=sizeLine:=by size_fits):
  wpAny (model prog w) A (call (.ref C) rest) Q E ⟨h,g,d,t,os⟩:=by
 have f1:=tc_lookup
 have f2:=tc_bind (.ref C)
 have hT:(⟨h,g,d,t,os⟩:Shared).TypeIs (.ref C) "type" :=⟨_,hC,rfl⟩
 refine cF (gx ?_)
 show wpAny _ _ (callAny (.ref C) _) _ _ _
 repeat (any_goals (first | assumption | with_reducible refine bM hC ?_ | wp_step))
 refine⟨rfl,?_⟩
 refine codeAny_call_builtin_at (fk _ (by decide+kernel)) entry_typeCall (wpAny_check_type_call_sub hC (jFD (hrest:=hrest) Fn hBn F T hC hn hi hfI hfc fun h' e hm=>?_))
 exact hq h' e hm
end
section
variable {M:Model}{A:Around}{E:Value->Shared->Prop}{env:Env}
variable {nm q:Str}{C N:Addr}{bs bm:List Value}{hdct:Bool}{sn:List Str}{sub:List Value}{ab:Bool}{col:Option Bool}{dd:Option Addr}{k0 k1 k2 k3 k5:Option Value}{newId:String}
theorem jAV {s:Shared}{x:Sem Value}{Q:Flow->Shared->Prop}(hbase:bm.contains (.type "BaseException")=true)(hh:A.handled=none)
  (h:wpAny M A x (fun v s₁=>∃ e t od,v= .ref e/\s₁.heap.get? C=some (excClassObj nm q C N bs bm hdct sn sub ab col dd k0 k1 k2 k3 k5 newId)/\
   s₁.heap.get? e=some { cls:= .ref C,dict:=od,data:= .fields #[.ref t, .none, .none, .none, .bool false, .none]} /\E (.ref e) s₁) E s):
  wpAny M A (raiseStmt env (some x) none) Q E s:=by
 have hcB:(Value.ref C::bm).contains (.type "BaseException")=true:=by rw[dy,hbase,eZ]
 unfold raiseStmt
 refine aa (aZ h (fun v s₁ h₁=>?_) fun _ _ x=>x)
 obtain⟨e,t,od,rfl,hC,he,hE⟩:=h₁
 obtain⟨hp,g,d,tk,os⟩:=s₁
 repeat (first | with_reducible refine bM he ?_ | with_reducible refine bM hC ?_ | (with_reducible refine cA hC ?_; rw[hcB]) | wp_step)
 exact wpAny_raiseNew_none hh hE
end
section
variable {prog:Program}{w:World}{A:Around}{E:Value->Shared->Prop}{s:Shared}{env:Env}
variable {nm q:Str}{C N:Addr}{bs bm bmB:List Value}{hdct:Bool}{sn:List Str}{sub:List Value}{ab:Bool}{col:Option Bool}{dd:Option Addr}{k0 k1 k2 k3 k5:Option Value}{B Bn newId nid initId inN:String}{bmN:List Value}
theorem jMG (Fn:ExcBaseFacts Bn newId inN bmN)(hBn:bmB.contains (.type Bn)=true)(F:ExcBaseFacts B nid initId bmB){mN:Str->Option Value}{x:Str}{np cpos pos:Pos}{args:List Expr}{fI:Addr}{Q:Flow->Shared->Prop}
  (hbase:bm.contains (.type "BaseException")=true) (hh:A.handled=none) (hplain:(backTo cpos (starEach args env)).any (·.1)=false) (hi:mN "__init__" =some (.ref fI))
  (h:wpAny (model prog w) A (eval (.Name x np) env) (fun f s₁=>f= .ref C/\wpAny (model prog w) A (evalArgs (.ref C) true (backTo cpos (starEach args env)) [])
   (fun a s₂=>a.kw=[]/\a.pos.length<=sizeLine/\s₂.heap.get? C=some (excClassObj nm q C N bs bm hdct sn sub ab col dd k0 k1 k2 k3 k5 newId)/\s₂.heap.Ns N mN/\OwnTail s₂.heap bmB bm/\(∃ oI,s₂.heap.get? fI=some oI/\oI.cls= .type "function")/\
    ∀ h' e,Heap.MadeExcOf s₂.heap h' e (.ref C) a.pos->wpAny (model prog w) (A.under (.builtin "type.__call__" ⟨.ref C::a.pos,[]⟩)) (call (.ref fI) (.ref e::a.pos))
     (fun r s₃=>r= .none/\∃ t od,s₃.heap.get? C=some (excClassObj nm q C N bs bm hdct sn sub ab col dd k0 k1 k2 k3 k5 newId)/\s₃.heap.get? e=some { cls:= .ref C,dict:=od,data:= .fields #[.ref t, .none, .none, .none, .bool false, .none]} /\E (.ref e) s₃) E { s₂ with heap:=h'}) E s₁) E s):
  wpAny (model prog w) A (exec (.Raise (some (.Call (.Name x np) args [] cpos)) none pos) env) Q E s:=by
 rw[arm_exec_Raise]
 first
  | refine aa (bQ (jAV (C:=C) (nm:=nm) (q:=q) (N:=N) (bs:=bs) (bm:=bm) (hdct:=hdct) (sn:=sn) (sub:=sub) (ab:=ab) (col:=col) (dd:=dd) (k0:=k0) (k1:=k1) (k2:=k2) (k3:=k3) (k5:=k5) (newId:=newId) hbase hh (aa (aZ (fE (aZ h (fun f s₁ h₁=>?_) fun _ _ x=>x)) (fun v s₃ h₃=>aa (bQ (ag h₃))) fun _ _ x=>x))))
  | (simp only [evalOpt,Option.map]; refine aa (bQ (jAV (C:=C) (nm:=nm) (q:=q) (N:=N) (bs:=bs) (bm:=bm) (hdct:=hdct) (sn:=sn) (sub:=sub) (ab:=ab) (col:=col) (dd:=dd) (k0:=k0) (k1:=k1) (k2:=k2) (k3:=k3) (k5:=k5) (newId:=newId) hbase hh (aa (aZ (fE (aZ h (fun f s₁ h₁=>?_) fun _ _ x=>x)) (fun v s₃ h₃=>aa (bQ (ag h₃))) fun _ _ x=>x)))))
  | (refine aa (bQ (jAV (C:=C) (nm:=nm) (q:=q) (N:=N) (bs:=bs) (bm:=bm) (hdct:=hdct) (sn:=sn) (sub:=sub) (ab:=ab) (col:=col) (dd:=dd) (k0:=k0) (k1:=k1) (k2:=k2) (k3:=k3) (k5:=k5) (newId:=newId) hbase hh ?_)); refine aa (aZ (fE (aZ h (fun f s₁ h₁=>?_) fun _ _ x=>x)) (fun v s₃ h₃=>aa (bQ (ag h₃))) fun _ _ x=>x))
 obtain⟨rfl,h₁⟩:=h₁
 unfold callWith
 refine aa (be (aZ h₁ (fun a s₂ h₂=>aa (bQ ?_)) fun _ _ x=>x))
 obtain⟨apos,akw⟩:=a
 obtain⟨hkw,hlen,hC,hn,T,⟨oI,hfI,hfc⟩,h₂⟩:=h₂
 obtain rfl:akw=[]:=hkw
 obtain⟨hp,g,d,tk,os⟩:=s₂
 simp only [hplain]
 refine aa (wpAny_keeperOf_exc hC ?_)
 refine aa (jPC (hrest:=hlen) Fn hBn F T hC hn hi hfI hfc fun h' e hm=>aZ (h₂ h' e hm) (fun r s₃ ⟨hr,t,od,c3,e3,E3⟩=>⟨hr,aa (be (wpAny_point (ag ?_)))⟩) fun _ _ x=>x)
 exact⟨e,t,od,rfl,c3,e3,E3⟩
end
end PySem
end
section
namespace PySem
open Builtin Builtin.ObjectAttr
section
variable {prog:Program}{w:World}{A:Around}{E:Value->Shared->Prop}{h:Heap}{g:Array GenState}{d:Drawn}{t:Nat}{os:OsState}
variable {nm q:Str}{C N x:Addr}{bs bm:List Value}{sn:List Str}{sub:List Value}{ab:Bool}{col:Option Bool}{dd:Option Addr}{k0 k1 k2 k3 k5:Option Value}{newId:String}{name:Str}{v:Value}{o:Obj}
theorem jDL {tk:Tok}{Q:Fin->Shared->Prop}(hC:h.get? C=some (excClassObj nm q C N bs bm true sn sub ab col dd k0 k1 k2 k3 k5 newId))(hpass:refuseLoop (.ref x) "__setattr__" bm=pure ())
  (hB:W.Looks (model prog w) h (typeLookup (.ref C) name) none) (hx:h.get? x=some o) (hc:o.cls= .ref C) (hnc:∀ c,o.data≠ .cls c) (hdn:o.dict=none)
  (hq:∀ h' tk',h'.get? x=some { o with dict:=some h.objs.size} ->h'.Ns1 h.objs.size (fun y=>if y=name then some v else none)->(∀ b ob,b≠x->h.get? b=some ob->h'.get? b=some ob)->Q (.done (.ret .none)) ⟨h',g,d,tk',os⟩):
  wpAny (model prog w) A (Builtin.«object.__setattr__» ⟨[.ref x, .str name tk,v],[]⟩) Q E ⟨h,g,d,t,os⟩:=by
 unfold Builtin.«object.__setattr__»
 repeat (first | rw[refuse_eq] | (rw[refuseLoop_ref,hpass]) | (with_reducible refine bM hx ?_; rw[hc]) | with_reducible refine wpAny_mroOf_exc hC ?_ | with_reducible refine hB.at ?_ | wp_step)
 rw[hdn,aB (by simp [typeHasDict])]
 split
 ·rename_i hcd
  cases hcd
 split
 ·rename_i c hcd
  exact absurd hcd (hnc c)
 ·have hx₁:(h.push { cls:= .type "dict",data:= .dict #[]}).get? x=some o:=ae _ hx
  have hxs:x≠h.objs.size:=aN (au hx)
  refine aa (wpAny_alloc' ?_)
  refine aa (wpAny_update' hx₁ ?_)
  refine ag ?_
  have hgd:((h.push { cls:= .type "dict",data:= .dict #[]}).update x fun o=> { cls:=o.cls,dict:=some h.objs.size,data:=o.data,slots:=o.slots}).get? h.objs.size
    =some { cls:= .type "dict",data:= .dict #[]} :=
   (Heap.get?_update_ne _ _ _ _ hxs.symm).trans (Heap.get?_push_at rfl rfl)
  have hnd:((h.push { cls:= .type "dict",data:= .dict #[]}).update x fun o=> { cls:=o.cls,dict:=some h.objs.size,data:=o.data,slots:=o.slots}).Ns h.objs.size (fun _=>none):=
   ⟨_,#[],_,hgd,rfl,fun e he=>absurd he (by simp),fun _=>rfl⟩
  show wpAny _ _ (storeInDict h.objs.size (.str name tk) name v) _ _ _
  unfold storeInDict newKeyGuard
  refine aa (ag (aa (wpAny_nsSet1 (Heap.Ns1.of_empty hnd) fun h' hn' hs=>?_)))
  obtain⟨oD,esD,epD,hoD,hdD,hcD⟩:=hn'.count (Within.cons name v Within.nil)
  refine aa (wpAny_lookBehind hoD (by rw[hdD]; exact pastItsLine_dict (aO hcD (by rw[aC,eR,cD]; omega))) ?_)
  wp_walk
  refine hq h' _ ?_ hn' (fun b ob hbx hb=>?_)
  ·refine(hs.2 x hxs).trans (bo _ hx₁ ?_)
   have hfr:=(Heap.get?_some_iff.mp hx).2
   obtain⟨oc,od,odt,osl⟩:=o
   cases odt <;> first | rfl | exact hfr
  ·exact(hs.2 b (aN (au hb))).trans ((Heap.get?_update_ne _ _ _ _ hbx).trans (ae _ hb))
theorem jGF {M:Model}{nameV:Value}{Q:Unit->Shared->Prop}(hb:bm.contains (.type "object")=true)
  (hC:h.get? C=some (excClassObj nm q C N bs bm true sn sub ab col dd k0 k1 k2 k3 k5 newId)) (hx:h.get? x=some o) (hc:o.cls= .ref C) (hq:Q () ⟨h,g,d,t,os⟩):
  wpAny M A (checkBuiltinCall "object.__setattr__" ⟨[.ref x,nameV,v],[]⟩) Q E ⟨h,g,d,t,os⟩:=by
 have SF:=F.store_ValueError
 have hcB:(Value.ref C::bm).contains (.type "object")=true:=by rw[dy,hb,eZ]
 have ha:=SF.args (.ref x) nameV v
 simp only [checkBuiltinCall,SF.kind,SF.split]
 refine aa ?_
 ·unfold isInstance
  repeat (first | (with_reducible refine bM hx ?_; rw[hc]) | (with_reducible refine cA hC ?_; rw[hcB]) | wp_step)
  exact hq
theorem jE8 {tk:Tok}{R:Result->Shared->Prop}(hC:h.get? C=some (excClassObj nm q C N bs bm true sn sub ab col dd k0 k1 k2 k3 k5 newId))(hb:bm.contains (.type "object")=true)(hpass:refuseLoop (.ref x) "__setattr__" bm=pure ())
  (hB:W.Looks (model prog w) h (typeLookup (.ref C) name) none) (hx:h.get? x=some o) (hc:o.cls= .ref C) (hnc:∀ c,o.data≠ .cls c) (hdn:o.dict=none)
  (hq:∀ h' tk',h'.get? x=some { o with dict:=some h.objs.size} ->h'.Ns1 h.objs.size (fun y=>if y=name then some v else none)->(∀ b ob,b≠x->h.get? b=some ob->h'.get? b=some ob)->R (.ok (.ret .none)) ⟨h',g,d,tk',os⟩):
  codeAny (model prog w) A (.call (.builtin "object.__setattr__") ⟨[.ref x, .str name tk,v],[]⟩) R ⟨h,g,d,t,os⟩:=
 cw F.store_ValueError.slot.plain F.store_ValueError.entry (jGF hb hC hx hc (jDL hC hpass hB hx hc hnc hdn hq))
theorem jMF {Q:Unit->Shared->Prop}(hC:h.get? C=some (excClassObj nm q C N bs bm true sn sub ab col dd k0 k1 k2 k3 k5 newId))(hb:bm.contains (.type "object")=true)(hpass:refuseLoop (.ref x) "__setattr__" bm=pure ())
  (hS:W.Looks (model prog w) h (typeLookup (.ref C) "__setattr__") (some (.builtin "object.__setattr__"))) (hB:W.Looks (model prog w) h (typeLookup (.ref C) name) none) (hx:h.get? x=some o) (hc:o.cls= .ref C) (hnc:∀ c,o.data≠ .cls c) (hdn:o.dict=none)
  (hq:∀ h' tk',h'.get? x=some { o with dict:=some h.objs.size} ->h'.Ns1 h.objs.size (fun y=>if y=name then some v else none)->(∀ b ob,b≠x->h.get? b=some ob->h'.get? b=some ob)->Q () ⟨h',g,d,tk',os⟩):
  wpAny (model prog w) A (setAttr (.ref x) name v) Q E ⟨h,g,d,t,os⟩:=by
 have f3:=F.store_ValueError.slot.bind (.ref x)
 unfold setAttr callSpecial? specialOf
 repeat (any_goals (first | assumption | (with_reducible refine bM hx ?_; rw[hc]) | with_reducible refine hS.at ?_ | wp_step))
 refine jE8 hC hb hpass hB hx hc hnc hdn fun h' tk' a1 a2 a3=>?_
 repeat (any_goals (first | assumption | wp_step))
 exact hq h' tk' a1 a2 a3
end
end PySem
end
section
namespace L2
open PySem PySem.Spec PyProof.Rows
section
variable {P:Program}{w:World}{K:W.Frag}{mg:Str->Option Value}{base:Heap}
end
section
variable {X:Cx}{Z:Shared->Hp->Prop}{zh:Hp->Prop}{k:Nat}{a:Addr}{sp:Sp}{x:Str}{p pos:Pos}{e:Expr}{es:List Expr}{t:TA}{j:Nat}
end
end L2
end
section
namespace TM
open PySem PyProof.Rows
class Od where
 kd:SortKind
 ky:Keyed->Int
 is:Keyed->Prop
abbrev key [Od]:Keyed->Int:=Od.ky
abbrev IsI [Od]:Keyed->Prop:=Od.is
class LtOk (prog:Program) (w:World) (A:Around) (s:Shared) [Od]:Prop where
 lt:∀ {E:Value->Shared->Prop}{st:SortSt}{x y:Keyed}{Q:Option Bool->SortSt->Prop},kindOf st=Od.kd->IsI x->IsI y->Q (some (decide (key x<key y))) st->wpS (model prog w) A E s (lt' x y) Q st
variable [Od]
def jPQ:Bool->Keyed->Array Keyed->Nat->Nat->Nat->StateT SortSt Sem (Option Nat):=sortPriv% PySem.Builtin.gallop
theorem elP:(sortPriv% PySem.Builtin.elem)=elem':=rfl
theorem ltP:(sortPriv% PySem.Builtin.lt)=lt':=rfl
theorem ltAtP:(sortPriv% PySem.Builtin.ltAt)=ltAt':=rfl
theorem gallopP:(sortPriv% PySem.Builtin.gallop)=jPQ:=rfl
section
variable {prog:Program}{w:World}{A:Around}{E:Value->Shared->Prop}{s:Shared}
end
section
variable {prog:Program}{w:World}{A:Around}{E:Value->Shared->Prop}{s:Shared} [LtOk prog w A s]
end
def jE1:Nat->StateT SortSt Sem Unit:=sortPriv% PySem.Builtin.setMinGallop
theorem setMinP:(sortPriv% PySem.Builtin.setMinGallop)=jE1:=rfl
def jMH:Array Keyed->Array Keyed->StateT SortSt Sem (Array Keyed):=sortPriv% PySem.Builtin.mergeLo
theorem mergeLoP:(sortPriv% PySem.Builtin.mergeLo)=jMH:=rfl
def jMI:Array Keyed->Array Keyed->StateT SortSt Sem (Array Keyed):=sortPriv% PySem.Builtin.mergeHi
theorem mergeHiP:(sortPriv% PySem.Builtin.mergeHi)=jMI:=rfl
section
variable {a b out:Array Keyed}{i j k:Nat}
end
section
variable {prog:Program}{w:World}{A:Around}{E:Value->Shared->Prop}{s:Shared} [LtOk prog w A s]
end
section
variable {prog:Program}{w:World}{A:Around}{E:Value->Shared->Prop}{s:Shared} [LtOk prog w A s]
end
section
variable {a b out:Array Keyed}{i j k:Nat}
end
section
variable {prog:Program}{w:World}{A:Around}{E:Value->Shared->Prop}{s:Shared} [LtOk prog w A s]
end
section
variable {prog:Program}{w:World}{A:Around}{E:Value->Shared->Prop}{s:Shared} [LtOk prog w A s]
end
section
variable {prog:Program}{w:World}{A:Around}{E:Value->Shared->Prop}{s:Shared} [LtOk prog w A s]{a₀:Array Keyed}{p:Array (Nat×Nat×Nat)}{F:Nat->Int}{lo:Nat}
end
section
variable {prog:Program}{w:World}{A:Around}{E:Value->Shared->Prop}{s:Shared} [LtOk prog w A s]
end
section
variable {xs ys:Array Keyed}
end
section
variable {prog:Program}{w:World}{A:Around}{E:Value->Shared->Prop}{s:Shared} [LtOk prog w A s]{a₀:Array Keyed}
end
end TM
end
section
namespace TM
open PySem PySem.Spec PyProof.Rows
section
variable {prog:Program}{w:World}{A:Around}{E:Value->Shared->Prop}{s:Shared}
end
end TM
end
section
namespace L2
open PySem PySem.Spec PyProof.Rows
section
variable {prog:Program}{w:World}{A:Around}{E:Value->Shared->Prop}{s:Shared}{d:Addr}{kvs:List (Key×Value)}
end
section
variable {X:Cx}{x:Str}{p pos kpos:Pos}{e:Expr}{es:List Expr}{kws:List Keyword}{t tk:TA}{te:TE}{nm:Option Str}{ks:List Str}{id:String}{r:List V->List V->Hp->VK->Prop}
end
section
variable {X:Cx}
end
section
variable {α β:Type}{R S:α->β->Prop}
end
theorem jO6 {a:Expr}{f:Str}{pos:Pos}{o:Option Expr} :SwOk (.Attribute a f pos) o:=⟨fun _ _=>rfl⟩
theorem jJ1 {a:Expr}{f:Str}{pos:Pos}{es:List Expr}{env:Env} :starEach (.Attribute a f pos::es) env=(false,eval (.Attribute a f pos) env)::starEach es env:=rfl
section
variable {X:Cx}{o value:Expr}{f x m:Str}{pos pos' apos p:Pos}{ta tv:TE}{e:Expr}{es:List Expr}{t:TA}{k:Nat}{C g:Addr}{fd:FuncData}{ps:List Str}{sp:Sp}
end
def excN (x C:Addr):Heap->Prop:=fun h=>∃ t,h.get? x=some { cls:= .ref C,data:= .fields #[.ref t, .none, .none, .none, .bool false, .none]}
def excM (x C d:Addr):Heap->Prop:=fun h=>∃ t,h.get? x=some { cls:= .ref C,dict:=some d,data:= .fields #[.ref t, .none, .none, .none, .bool false, .none]}
structure XCls (K:W.Frag)(C B fI:Addr)(f:Str):Prop where
 cls:∃ (nm q:Str) (N:Addr) (bs bm:List Value) (sn:List Str) (sub:List Value) (ab:Bool) (col:Option Bool) (dd:Option Addr) (k0 k1 k2 k3 k5:Option Value) (mN:Str->Option Value),
  mN "__init__" =some (.ref fI)/\bm.contains (.type "BaseException")=true/\bm.contains (.type "object")=true/\(∀ x,refuseLoop (.ref x) "__setattr__" bm=pure ())/\
  ∀ h:Heap,K.In h->h.get? C=some (excClassObj nm q C N bs bm true sn sub ab col dd k0 k1 k2 k3 k5 "ValueError.__new__")/\h.Ns N mN/\OwnTail h bmVE bm/\∃ oI,h.get? fI=some oI/\oI.cls= .type "function"
 sa:findIn K (.ref C) "__setattr__" =some (some (.builtin "object.__setattr__"))
 nr:findIn K (.ref C) f=some none
 bg:specialIn K (.ref B) "__getattribute__" =some (some (.builtin "type.__getattribute__"))
 br:PySem.W.readsIn K B (.type "type")=true
 bf:PySem.W.findCls K (.ref B) (.type "type") "__init__" =some (.val (.builtin "ValueError.__init__"))
section
variable {X:Cx}{e e1 e2 o value:Expr}{te ta tv:TE}{t:TA}{pos apos np pos':Pos}
def tFmt (te:TE):TE:=fun σ H Q=>te σ H fun v H1=>∃ i:Int,v= .int i/\0<=i/\i<=100/\∀ z,Q (.str z) H1
theorem jIX:∀ n:Nat,n<=100->((toString (n:Int):String):Str).length<=4:=by decide+kernel
theorem jRI {a b:Str}{j1 j3 p1 p2 p3}(he:JE X e te)(ha:a.length<=100)(hb:b.length<=100):JE X (.JoinedStr [.Constant (.str a) j1 p1, .FormattedValue e (-1) none p2, .Constant (.str b) j3 p3] pos) (tFmt te):=by
 refine⟨fun pins s σ H Q I h=>wpAny_JoinedStr ?_⟩
 show wpAny _ _ (eval (.Constant (.str a) j1 p1) X.env) _ _ s
 refine fc ⟨a,_,rfl,?_,?_⟩
 ·rw[cj]
  show 0+a.length<=_
  rw[cD]
  omega
 show wpAny _ _ (eval (.FormattedValue e (-1) none p2) X.env) _ _ _
 refine wpAny_FormattedValue_plain (thn (he.h pins _ σ H _ (I.tok _) h) fun u s1 ⟨v,H1,I1,r1,i,ev,i0,i1,q⟩=>?_)
 subst ev
 obtain⟨tk,rfl⟩:=(show ∃ t,u=Value.int i t from r1)
 obtain⟨n,rfl⟩:∃ n:Nat,i=(n:Int):=⟨i.toNat,by omega⟩
 have hz:((toString (n:Int):String):Str).length<=4:=jIX n (by omega)
 refine wpAny_formatField_int (by
  have:(n:Int).natAbs=n:=rfl
  rw[this]
  have h2:n<2 ^ 10:=by omega
  by_cases z:n=0
  ·subst z; decide
  ·have:=(gM z).mpr h2
   omega) ⟨_,_,rfl,?_,?_⟩
 ·rw[cj,cj]
  show 0+a.length+_<=_
  rw[cD]
  omega
 show wpAny _ _ (eval (.Constant (.str b) j3 p3) X.env) _ _ _
 refine fc ⟨b,_,rfl,?_,?_,?_⟩
 ·rw[cj,cj,cj]
  show 0+a.length+_+_<=_
  rw[cD]
  omega
 ·rw[cj,cj,cj]
  show 0+a.length+_+_<=_
  rw[cD]
  omega
 ·exact⟨.str _,H1,I1.tok _,⟨_,rfl⟩,q _⟩
def tXI (C:Addr)(t:TA):TE:=fun σ H Q=>t σ H fun vs H1=>∃ x z,vs=[.ref x, .str z]/\H1 x=some (.ext (excN x C))/\Q .non H1
theorem excN.stay {x C:Addr}(h1 h2:Heap)(p:excN x C h1)(k:∀ o,h1.get? x=some o->h2.get? x=some o):excN x C h2:=by
 obtain⟨t,e⟩:=p
 exact⟨t,k _ e⟩
theorem excM.stay {x C d:Addr}(h1 h2:Heap)(p:excM x C d h1)(k:∀ o,h1.get? x=some o->h2.get? x=some o):excM x C d h2:=by
 obtain⟨t,e⟩:=p
 exact⟨t,k _ e⟩
theorem jQ2 {H:Hp}{a:Addr}{o:HO}(h:H a=some o):upd H a o=H:=by
 funext b
 unfold upd
 split
 ·rename_i z
  rw[z,h]
 ·rfl
theorem jMQ {C B fI:Addr}{f y:Str}{pl:Sem Bool}(xc:XCls X.K C B fI f)(hg:Gl1 X y)(hm:X.mg y=some (.ref B))(ha:JA X [e1,e2] t)(hst:starEach [e1,e2] X.env=(false,eval e1 X.env)::starEach [e2] X.env)(hdb:(y==("__debug__" :Str))=false:=by decide)
  (hpl:(backTo pos (starEach [e2] X.env)).any (·.1)=false:=by rfl)
  (ht:eval (.Call (.Attribute (.Name y np) "__init__" apos) [e1,e2] [] pos) X.env=(do
   let ov <- eval (.Name y np) X.env
   standAt apos.atName
   let (f,first) <- holding [ov] (getMethod ov "__init__" pl)
   callWith pos f first (backTo pos (starEach [e1,e2] X.env)) (backToKw pos (keywordEach [] X.env))):=by rfl):
  JE X (.Call (.Attribute (.Name y np) "__init__" apos) [e1,e2] [] pos) (tXI C t):=by
 refine⟨fun pins s σ H Q I h=>?_⟩
 rw[ht]
 refine aa (jBE I hg.a hm ?_ hdb)
 refine aa (bQ (aa (be (PySem.W.method_cls I.kIn xc.bg (PySem.W.cls_value I.kIn xc.br xc.bf (by decide+kernel) ?_)))))
 show wpAny _ _ (callWith pos (.builtin "ValueError.__init__") [] (backTo pos (starEach [e1,e2] X.env)) (backToKw pos (keywordEach [] X.env))) _ _ _
 have hA:=ha.h pos pins _ σ H _ (I.tok (s.toks+1)) h
 rw[hst] at hA ⊢
 refine Calls.callWith_builtin (by show (false || (backTo pos (starEach [e2] X.env)).any (·.1))=false; rw[hpl] <;> rfl) (eE (thn hA fun us s1 ⟨vs,H1,I1,r1,x,z,ev,hx,q⟩=>?_))
 subst ev
 obtain⟨u1,u2,rfl,a1,a2⟩:=r1.two
 obtain rfl:u1=Value.ref x:=a1
 obtain⟨tz,rfl⟩:=(show ∃ t,u2=Value.str z t from a2)
 obtain⟨⟨t0,e0⟩,_,_⟩:=(show ObjOk X.prog X.w H1 s1.heap x (.ext (excN x C)) from I1.hok x _ hx)
 obtain⟨nm,qn,N,bs,bm,sn,sub,ab,col,dd,k0,k1,k2,k3,k5,mN,c1,c2,c3,c4,hK⟩:=xc.cls
 obtain⟨g1,g2,g3,_⟩:=hK s1.heap I1.kIn
 have F:=cZ
 obtain⟨hh,gg,dr,tk,os⟩:=s1
 refine cF (cw F.init.plain F.initEntry (wpAny_check_init_subU F g3 g1 e0 rfl ?_))
 wp_walk
 have I2:Inv X pins σ H1 { heap:=hh.push { cls:=Value.type "tuple",data:=Data.seq #[Value.str z tz]},gens:=gg,drawn:=dr,toks:=tk,os:=os} :=I1.kept (t':=tk) fun b u e=>ae _ e
 have e1:(hh.push { cls:=Value.type "tuple",data:=Data.seq #[Value.str z tz]}).get? x=some { cls:= .ref C,data:= .fields #[.ref t0, .none, .none, .none, .bool false, .none]} :=ae _ e0
 have e2:=bo (Obj.mapFields (·.setIfInBounds 0 (Value.ref hh.objs.size))) e1 rfl
 have I3:=I2.write (x:=x) (e:=x) (o:= .ext (excN x C)) (t':=tk) (h':=(hh.push { cls:=Value.type "tuple",data:=Data.seq #[Value.str z tz]}).update x (Obj.mapFields (·.setIfInBounds 0 (Value.ref hh.objs.size)))) (by rw[hx]; exact True.intro) (.inl rfl) (fun b u n e=>(bx _ _ (bY n)).trans e) ⟨_,e2⟩ ⟨⟨_,e2⟩,⟨_,e2⟩,excN.stay⟩
 rw[jQ2 hx] at I3
 exact⟨.non,H1,I3,rfl,q⟩
def sXF (C:Addr)(ta tv:TE)(f:Str):TS:=fun D σ H=>tv σ H fun y H1=>ta σ H1 fun v H2=>∃ x,v= .ref x/\H2 x=some (.ext (excN x C))/\∀ d,H2 d=none->d≠x->D.nx σ (upd (upd H2 d (.xd [(f,y)])) x (.ext (excM x C d)))
theorem jPH {C B fI:Addr}{f:Str}(xc:XCls X.K C B fI f)(ha:JE X o ta)(hv:JE X value tv)(hs:SwOk value (some (.Attribute o f pos'))):JS X (.Assign [.Attribute o f pos'] value pos) (sXF C ta tv f):=by
 refine⟨fun pins s σ H D I h=>?_⟩
 refine plainObj_wpAny_Assign_Attribute (thn (hv.h pins s σ H _ I h) fun u s1 ⟨y,H1,I1,ry,q⟩=>thn (ha.h pins s1 σ H1 _ I1 q) fun ov s2 ⟨v,H2,I2,rx,x,ev,hx,q2⟩=>?_) (hs.h _ _)
 subst ev
 obtain rfl:ov=Value.ref x:=rx
 obtain⟨⟨t0,e0⟩,_,_⟩:=(show ObjOk X.prog X.w H2 s2.heap x (.ext (excN x C)) from I2.hok x _ hx)
 obtain⟨nm,qn,N,bs,bm,sn,sub,ab,col,dd,k0,k1,k2,k3,k5,mN,c1,c2,c3,c4,hK⟩:=xc.cls
 obtain⟨g1,g2,g3,_⟩:=hK s2.heap I2.kIn
 have kin:=I2.kIn
 obtain⟨hh,gg,dr,tk,os⟩:=s2
 refine jMF g1 c3 (c4 x) (cb kin xc.sa) (cb kin xc.nr) e0 rfl (fun c z=>by cases z) rfl fun h' tk' b1 b2 b3=>?_
 have hf:H2 hh.objs.size=none:=I2.hok.fresh (ao _)
 have hne:hh.objs.size≠x:=cE (au e0)
 refine⟨σ,_,?_,q2 hh.objs.size hf hne⟩
 have nx:∀ {b:Addr}{o:HO},H2 b=some o->(∀ φ,o≠ .ext φ)->b≠x:=fun {b o} e n z=>by
  rw[z,hx] at e
  cases e
  exact n _ rfl
 have nd:∀ {b:Addr}{o:HO},H2 b=some o->b≠hh.objs.size:=fun {b o} e z=>by
  rw[z,hf] at e
  cases e
 have nd':∀ {b:Addr}{o:Obj},hh.get? b=some o->b≠hh.objs.size:=fun e=>aN (au e)
 have nx':∀ {b:Addr},H2 b=none->b≠x:=fun e z=>by
  rw[z,hx] at e
  cases e
 have up:∀ {b:Addr},b≠x->b≠hh.objs.size->(upd (upd H2 hh.objs.size (.xd [(f,y)])) x (.ext (excM x C hh.objs.size))) b=H2 b:=fun n1 n2=>by rw[jG n1,jG n2]
 refine I2.un (t':=tk') (h':=h') (H':=upd (upd H2 hh.objs.size (.xd [(f,y)])) x (.ext (excM x C hh.objs.size))) ⟨fun b ob e n _ _=>b3 b ob (nx' n) e,fun b ob e n _ _=>⟨ob.slots,b3 b ob (nx' n) e⟩,fun b ob e n _=>(up (nx' n) (nd' e)).trans n,fun b ob e _=>?_,fun b xs e=>(up (nx e (by intro _ z; cases z)) (nd e)).trans e,fun b o u e=>(up (nx e (by intro _ z; cases z)) (nd e)).trans e,fun b ps e=>⟨#[],by rw[up (nx e (by intro _ z; cases z)) (nd e),e]; simp⟩⟩ fun a ob e=>?_
 ·by_cases z:b=x
  ·rw[z]
   exact⟨_,b1⟩
  ·exact⟨ob,b3 b ob z e⟩
 ·by_cases z:a=x
  ·subst z
   rw[j8] at e
   cases e
   exact⟨⟨t0,b1⟩,⟨_,b1⟩,excM.stay⟩
  ·rw[jG z] at e
   by_cases z2:a=hh.objs.size
   ·subst z2
    rw[j8] at e
    cases e
    refine⟨_,b2,fun g=>?_⟩
    by_cases hg:g=f
    ·have hb:(g==f)=true:=gk.mpr hg
     simp only [List.lookup,hb,aA hg]
     exact ry
    ·have hb:(g==f)=false:=bO.mpr hg
     simp only [List.lookup,hb,aB hg]
     exact True.intro
   ·rw[jG z2] at e
    refine(I2.hok a ob e).stay (fun b u hb q=>?_) (fun b q=>(up (nx q (by intro _ z; cases z)) (nd q)).trans q) fun b xs q=>(up (nx q (by intro _ z; cases z)) (nd q)).trans q
    rcases hb with rfl | hb
    ·exact b3 _ _ z q
    ·exact b3 _ _ (nx hb (by intro _ z; cases z)) q
end
section
variable {prog:Program}{w:World}{A:Around}{E:Value->Shared->Prop}{s:Shared}
def ExcD (h:Heap)(x C T dI:Addr):Prop:=∃ vs oT ts,h.get? x=some { cls:= .ref C,dict:=some dI,data:= .fields vs} /\vs.size=6/\vs[1]?=some (.ref T)/\vs[2]?=some .none/\T≠x/\h.get? T=some oT/\oT.data= .fields ts/\ts[3]?=some .none
theorem jFQ {env:Env}{outer:List Env}{L x C dI:Addr}{base:Heap}{vs:Array Value}{head:Value}{had:Bool}{Q:Unit->Shared->Prop}(hfr:A.frames=some (env::outer))(hl:s.heap.FunFrames base (env::outer))(hf:env.frame=some L)
  (hx:s.heap.get? x=some { cls:= .ref C,dict:=some dI,data:= .fields vs}) (v6:vs.size=6) (v2:vs[2]?=some .none)
  (h:∀ h' T,NoteX (frs (env::outer)) [x] s.heap h'->ExcD h' x C T dI->s.heap.objs.size<=T->Q () { s with heap:=h'}):
  wpAny (model prog w) A (do let a <- frameOf env; let pl <- entryPlaceOf L had; let b <- EntryCells.newEntry head a .none (rawInt L) .none pl; setField (.ref x) 1 b) (fun _ s'=>wpAny (model prog w) A (setFlight (.ref x) none) Q E s') E s:=by
 have xf:x∉frs (env::outer):=fun hm=>by
  obtain⟨_,o,ho,hn⟩:=hl.mem hm
  rw[hx] at ho
  cases ho
  exact hn _ rfl
 refine aa (wpAny_frameOf_fun hfr hl hf fun h1 so=>aa (wpAny_entryPlaceOf fun pl hpl=>?_))
 have hx1:=(so.2.1 x xf).trans hx
 unfold EntryCells.newEntry newFields
 refine aa (bv ?_ (hpl.sizeOk5 _ _ _ _ _))
 generalize hts:([head, .ref L, .none,rawInt L, .none]++(if pl.isEmpty then replicate 6 Value.none else pl)).toArray=ts
 have ts3:3<ts.size:=by
  rw[<- hts]
  simp
 have h2x:=ae (h:=h1) { cls:= .type "traceback",data:= .fields ts} hx1
 have h2T:(h1.push { cls:= .type "traceback",data:= .fields ts}).get? h1.objs.size=some { cls:= .type "traceback",data:= .fields ts} :=ay h1 rfl
 have sz2:(h1.push { cls:= .type "traceback",data:= .fields ts}).objs.size=h1.objs.size+1:=bT ..
 have nTx:h1.objs.size≠x:=cE (au hx1)
 have k2:∀ b o,h1.get? b=some o->(h1.push { cls:= .type "traceback",data:= .fields ts}).get? b=some o:=fun b o e=>ae _ e
 generalize h1.push { cls:= .type "traceback",data:= .fields ts} =h2 at h2x h2T sz2 k2 ⊢
 refine cW h2x rfl (by omega) ?_
 have h3x:=bo (Obj.mapFields (·.setIfInBounds 1 (Value.ref h1.objs.size))) h2x rfl
 have h3o:∀ b,b≠x->(h2.update x (Obj.mapFields (·.setIfInBounds 1 (Value.ref h1.objs.size)))).get? b=h2.get? b:=fun b n=>bx _ _ (bY n)
 have h3T:=(h3o _ nTx).trans h2T
 have sz3:(h2.update x (Obj.mapFields (·.setIfInBounds 1 (Value.ref h1.objs.size)))).objs.size=h2.objs.size:=gh ..
 generalize h2.update x (Obj.mapFields (·.setIfInBounds 1 (Value.ref h1.objs.size)))=h3 at h3x h3o h3T sz3 ⊢
 have w1:(vs.setIfInBounds 1 (Value.ref h1.objs.size))[1]?=some (.ref h1.objs.size):=by simp [v6]
 have w2:(vs.setIfInBounds 1 (Value.ref h1.objs.size))[2]?=some .none:=by rw[dO (by decide)]; exact v2
 unfold setFlight
 refine aa (bu (x:= .ref h1.objs.size) h3x rfl w1 ?_)
 rw[aA (show (Value.ref h1.objs.size != Value.none)=true by rfl)]
 refine cW h3T rfl ts3 ?_
 have h4T:=bo (Obj.mapFields (·.setIfInBounds 3 Value.none)) h3T rfl
 have h4o:∀ b,b≠h1.objs.size->(h3.update h1.objs.size (Obj.mapFields (·.setIfInBounds 3 Value.none))).get? b=h3.get? b:=fun b n=>bx _ _ (bY n)
 have sz4:(h3.update h1.objs.size (Obj.mapFields (·.setIfInBounds 3 Value.none))).objs.size=h3.objs.size:=gh ..
 have sz1:=so.1
 refine h (h3.update h1.objs.size (Obj.mapFields (·.setIfInBounds 3 Value.none))) h1.objs.size ⟨fun b o hb n1 n2=>?_,fun b o hb n2=>?_,by omega⟩ ⟨_,_,_,(h4o x (bY nTx)).trans h3x,by simp [v6],w1,w2,nTx,h4T,rfl,?_⟩ (by omega)
 ·have hb1:=(so.2.1 b n1).trans hb
  have nx:b≠x:=fun z=>n2 (by rw[z]; exact aQ.mpr rfl)
  rw[h4o b (aN (au hb1)),h3o b nx]
  exact k2 b o hb1
 ·obtain⟨sl,hb1⟩:=so.2.2 b o hb
  have nx:b≠x:=fun z=>n2 (by rw[z]; exact aQ.mpr rfl)
  refine⟨sl,?_⟩
  rw[h4o b (aN (au hb1)),h3o b nx]
  exact k2 b _ hb1
 ·simp [ts3]
theorem jIA {env:Env}{outer:List Env}{L x C t dI:Addr}{base:Heap}{Q:Unit->Shared->Prop}(hfr:A.frames=some (env::outer))(hl:s.heap.FunFrames base (env::outer))(hf:env.frame=some L)
  (hx:s.heap.get? x=some { cls:= .ref C,dict:=some dI,data:= .fields #[.ref t, .none, .none, .none, .bool false, .none]})
  (h:∀ h' T,NoteX (frs (env::outer)) [x] s.heap h'->ExcD h' x C T dI->s.heap.objs.size<=T->Q () { s with heap:=h'}):wpAny (model prog w) A (leaving env (.ref x)) Q E s:=by
 unfold leaving noteFrame
 simp only [hf]
 refine aa (aa (bu (x:=Value.none) hx rfl rfl ?_))
 rw[aB (by decide)]
 exact jFQ hfr hl hf hx rfl rfl h
theorem jJX {env:Env}{outer:List Env}{L x C T dI:Addr}{base:Heap}{Q:Unit->Shared->Prop}(hfr:A.frames=some (env::outer))(hl:s.heap.FunFrames base (env::outer))(hf:env.frame=some L)(hx:ExcD s.heap x C T dI)
  (h:∀ h' T',NoteX (frs (env::outer)) [x,T] s.heap h'->ExcD h' x C T' dI->s.heap.objs.size<=T'->Q () { s with heap:=h'}):
  wpAny (model prog w) A (noteFrame (.ref x) env) (fun _ s'=>wpAny (model prog w) A (setFlight (.ref x) none) Q E s') E s:=by
 obtain⟨vs,oT,ts,hx,v6,v1,v2,nTx,hT,hd,t3⟩:=hx
 have t3s:3<ts.size:=(cV.mp t3).1
 unfold noteFrame
 simp only [hf]
 refine aa (bu hx rfl v1 ?_)
 rw[aA (show (Value.ref T != Value.none)=true by rfl)]
 refine aa (bu hT hd t3 ?_)
 rw[aB (show ¬ ((Value.none==rawInt L)=true) by simp [rawInt])]
 refine aa (cW hT hd t3s ?_)
 have uo:∀ b,b≠T->(s.heap.update T (Obj.mapFields (·.setIfInBounds 3 Value.none))).get? b=s.heap.get? b:=fun b n=>bx _ _ (bY n)
 have us:(s.heap.update T (Obj.mapFields (·.setIfInBounds 3 Value.none))).objs.size=s.heap.objs.size:=gh ..
 have nT:∀ b o,s.heap.get? b=some o->(∀ vs,o.data≠ .fields vs)->b≠T:=fun b o hb hn z=>by
  rw[z,hT] at hb
  cases hb
  exact hn _ hd
 generalize s.heap.update T (Obj.mapFields (·.setIfInBounds 3 Value.none))=h1 at uo us ⊢
 refine jFQ (s:= { s with heap:=h1}) (C:=C) hfr (hl.of_keeps fun b o hb hn=>⟨o,(uo b (nT b o hb hn)).trans hb,rfl⟩) hf ((uo x (bY nTx)).trans hx) v6 v2 fun h' T' n e z=>h h' T' ⟨fun b o hb m1 m2=>?_,fun b o hb m2=>?_,by have:=n.size; show s.heap.objs.size<=_; rw[<- us]; exact this⟩ e (by rw[<- us]; exact z)
 ·have b1:b≠T:=fun z=>m2 (by rw[z]; simp)
  have b2:b≠x:=fun z=>m2 (by rw[z]; simp)
  exact n.keep b o ((uo b b1).trans hb) m1 (by simpa using b2)
 ·have b1:b≠T:=fun z=>m2 (by rw[z]; simp)
  have b2:b≠x:=fun z=>m2 (by rw[z]; simp)
  exact n.slot b o ((uo b b1).trans hb) (by simpa using b2)
end
section
variable {M:Model}{A:Around}{E:Value->Shared->Prop}{s:Shared}{x C T dI:Addr}{Q:Unit->Shared->Prop}
theorem jFP (e:ExcD s.heap x C T dI)(h:∀ h',(∀ b o,s.heap.get? b=some o->h'.get? b=some o)->Q () { s with heap:=h'}):wpAny M A (setFlight (.ref x) none) Q E s:=by
 obtain⟨vs,oT,ts,hx,v6,v1,v2,nTx,hT,hd,t3⟩:=e
 have t3s:3<ts.size:=(cV.mp t3).1
 unfold setFlight
 refine aa (bu (x:= .ref T) hx rfl v1 ?_)
 rw[aA (show (Value.ref T != Value.none)=true by rfl)]
 refine cW hT hd t3s (h _ fun b o hb=>?_)
 by_cases hbT:b=T
 ·subst hbT
  rw[hT] at hb
  cases hb
  obtain⟨c,d,dt,sl⟩:=oT
  simp only at hd
  subst hd
  refine(bo (Obj.mapFields (·.setIfInBounds 3 Value.none)) hT rfl).trans ?_
  have e3:ts.setIfInBounds 3 Value.none=ts:=by
   apply Array.ext_getElem?
   intro i
   by_cases hi:i=3
   ·subst hi
    rw[t3]
    simp [t3s]
   ·rw[dO (bY hi)]
  show some ({ cls:=c,dict:=d,data:= .fields (ts.setIfInBounds 3 Value.none),slots:=sl} :Obj)=_
  rw[e3]
 ·exact(bx _ _ (bY hbT)).trans hb
end
end L2
namespace L2
open PySem PySem.Spec PyProof.Rows
def CXR (P:Program)(w:World)(C:Addr):CXT:=fun outer H s E e s'=>∃ x T d H',e= .ref x/\s'.os=s.os/\AllBare s'.gens/\Un (frs outer) [] H H' s.heap s'.heap/\HOk P w H' s'.heap/\s.heap.get? x=none/\s.heap.objs.size<=T/\H' x=none/\H' T=none/\ExcD s'.heap x C T d/\E e (some d) H'
def drp (H:Hp)(x:Addr):Hp:=fun b=>if b=x then none else H b
theorem jEK {H:Hp}{x:Addr} :drp H x x=none:=aA rfl
theorem jCI {H:Hp}{x b:Addr}(h:b≠x):drp H x b=H b:=aB h
theorem jCR {H:Hp}{x b:Addr}(h:H b=none):drp H x b=none:=by
 by_cases z:b=x
 ·rw[z]; exact jEK
 ·rw[jCI z]; exact h
section
variable {X:Cx}{pins:List (Addr×Obj)}{σ:St}{H:Hp}{s:Shared}{a:Addr}{φ:Heap->Prop}{o:HO}{h':Heap}
theorem Inv.drp (I:Inv X pins σ H s)(hx:H a=some (.ext φ)):Inv X pins σ (drp H a) s:=by
 have nx:∀ {b:Addr}{o:HO},H b=some o->(∀ φ,o≠ .ext φ)->b≠a:=fun {b o} e n z=>by
  rw[z,hx] at e
  cases e
  exact n _ rfl
 have B:=I.base
 refine⟨I.ok,I.os,I.bare,⟨B.keep,B.slot,fun b o e n m=>jCR (B.free b o e n m),B.there,fun b xs e=>?_,fun b o u e=>?_,fun b ps e=>?_⟩,I.loc,I.cell,jCR I.free,fun y c e=>jCR (I.freeC y c e),fun p hp=>?_,fun b o e=>?_,I.len⟩
 ·have z:=B.tups b xs e
  rw[jCI (nx z (by intro _ z; cases z))]
  exact z
 ·have z:=B.frzs b o u e
  rw[jCI (nx z (by intro _ z; cases z))]
  exact z
 ·obtain⟨m,z⟩:=B.tbls b ps e
  exact⟨m,by rw[jCI (nx z (by intro _ z; cases z))]; exact z⟩
 ·obtain⟨e,n,ne,nf,d⟩:=I.pin p hp
  exact⟨e,jCR n,ne,nf,d⟩
 ·by_cases z:b=a
  ·rw[z,jEK] at e
   cases e
  ·rw[jCI z] at e
   exact(I.hok b o e).stay (fun _ _ _ q=>q) (fun c q=>by rw[jCI (nx q (by intro _ z; cases z))]; exact q) fun c xs q=>by rw[jCI (nx q (by intro _ z; cases z))]; exact q
theorem Inv.track {t':Nat}(I:Inv X pins σ H s)(k:∀ b u,s.heap.get? b=some u->h'.get? b=some u)(an:s.heap.get? a=none)(new:ObjOk X.prog X.w (upd H a o) h' a o):Inv X pins σ (upd H a o) { s with heap:=h',toks:=t'} :=by
 have aH:H a=none:=by
  cases q:H a with
  | none=>rfl
  | some o=>
   obtain⟨u,hu⟩:=(I.hok a o q).is
   rw[an] at hu
   cases hu
 have na:∀ {b:Addr}{ob:Obj},s.heap.get? b=some ob->b≠a:=fun e z=>by rw[z,an] at e; cases e
 refine I.un (h':=h') (t':=t') ⟨fun b ob e _ _ _=>k b ob e,fun b ob e _ _ _=>⟨ob.slots,k b ob e⟩,fun b ob e n _=>by rw[jG (na e)]; exact n,fun b ob e _=>⟨ob,k b ob e⟩,fun b xs e=>by rw[jG (jD e aH)]; exact e,fun b o u e=>by rw[jG (jD e aH)]; exact e,fun b ps e=>⟨#[],by rw[jG (jD e aH),e]; simp⟩⟩ fun b ob e=>?_
 by_cases z:b=a
 ·subst z
  rw[j8] at e
  cases e
  exact new
 ·rw[jG z] at e
  exact((I.hok.kept k) b ob e).stay (fun _ _ _ q=>q) (fun c q=>by rw[jG (jD q aH)]; exact q) fun c xs q=>by rw[jG (jD q aH)]; exact q
end
theorem jPZ {P:Program}{w:World}{K:W.Frag}{mg:Str->Option Value}{base:Heap}{N:List Str}{qual:Str}{sc:Scope}{f:Addr}{cdv:Value}{A:Around}{outer:List Env}{s:Shared}{H:Hp}{E:XK}{C:Addr}
  {pins:List (Addr×Obj)}{σ:St}{H1:Hp}{s1:Shared}{a d t:Addr}(I:Inv (cxOf (CXR P w C) P w K mg base N qual sc f cdv A outer s H E) pins σ H1 s1) (ha:s1.heap.get? a=some { cls:= .ref C,dict:=some d,data:= .fields #[.ref t, .none, .none, .none, .bool false, .none]}) (aH:H1 a=none) (an:s.heap.get? a=none) (w1:E (.ref a) (some d) H1):
  (cxOf (CXR P w C) P w K mg base N qual sc f cdv A outer s H E).xe (.ref a) s1:=by
 have fr:=I.ok.frames
 have st:s1.heap.FunFrames base (PyProof.Rows.envOfC qual sc s.heap.objs.size f cdv::outer):=I.stack
 have sz:s.heap.objs.size<=s1.heap.objs.size:=I.sz
 refine jIA (base:=base) fr st rfl ha fun h2 T n e z=>?_
 have un:Un (frs outer) [] H H1 s.heap s1.heap:=I.base
 have nl:∀ b o,s.heap.get? b=some o->b∉frs outer->b∉frs (PyProof.Rows.envOfC qual sc s.heap.objs.size f cdv::outer):=fun b o hb n1 hm=>by
  rcases av.mp (show b∈s.heap.objs.size::frs outer from hm) with q | q
  ·exact absurd (au hb) (by rw[q]; exact cg _)
  ·exact n1 q
 have na:∀ b o,s.heap.get? b=some o->b∉ [a]:=fun b o hb hm=>by
  rw[aQ.mp hm,an] at hb
  cases hb
 refine⟨a,T,d,H1,rfl,I.os,I.bare,⟨fun b o hb n1 n2 n3=>?_,fun b o hb n1 n2 n3=>?_,un.free,fun b o hb n3=>?_,un.tups,un.frzs,un.tbls⟩,?_,an,aO sz z,aH,I.hok.fresh z,e,w1⟩
 ·exact n.keep b o (un.keep b o hb n1 n2 n3) (nl b o hb n2) (na b o hb)
 ·obtain⟨sl,q⟩:=un.slot b o hb n1 n2 n3
  obtain⟨sl2,q2⟩:=n.slot b _ q (na b o hb)
  exact⟨sl2,q2⟩
 ·obtain⟨o',q⟩:=un.there b o hb n3
  obtain⟨sl2,q2⟩:=n.slot b _ q (na b o hb)
  exact⟨_,q2⟩
 ·refine I.hok.note n (fun b hb=>I.stkFree b hb) fun b hb=>?_
  rw[aQ.mp hb]
  exact aH
def spXI (C:Addr)(f:Str):Sp:=fun vs H Q _=>∃ (x:Addr) (i:Int),vs=[.ref x, .int i]/\0<=i/\i<=100/\H x=some (.ext (excN x C))/\∀ d,H d=none->d≠x->Q .non (upd (upd H d (.xd [(f, .int i)])) x (.ext (excM x C d)))
def jO4 (E:XK)(f:Str)(t:TA):TS:=fun _ σ H=>t σ H fun vs H1=>∃ i:Int,vs=[.int i]/\0<=i/\i<=100/\∀ a d,H1 d=none->E (.ref a) (some d) (upd H1 d (.xd [(f, .int i)]))
theorem jD7 {P:Program}{w:World}{K:W.Frag}{mg:Str->Option Value}{base:Heap}{N:List Str}{qual:Str}{sc:Scope}{f:Addr}{cdv:Value}{A:Around}{outer:List Env}{s:Shared}{H:Hp}{E:XK}{x nr:Str}{C B fI:Addr}{fdI:FuncData}{p1 p2:Str}{k:Nat}{e:Expr}{t:TA}{np cpos pos:Pos}
  (hc:(cxOf (CXR P w C) P w K mg base N qual sc f cdv A outer s H E).calm=true) (xc:XCls K C B fI nr) (F:FnOk P w K mg base CX0 k fI fdI [p1,p2] (spXI C nr)) (hb:Binds K fdI [p1,p2] []) (hr:Room (k+1) (cxOf (CXR P w C) P w K mg base N qual sc f cdv A outer s H E).A) (hg:Gl1 (cxOf (CXR P w C) P w K mg base N qual sc f cdv A outer s H E).nox x) (hm:mg x=some (.ref C)) (ha:JA (cxOf (CXR P w C) P w K mg base N qual sc f cdv A outer s H E) [e] t)
  (hd:(x==("__debug__" :Str))=false:=by decide) (he:starEach [e] (cxOf (CXR P w C) P w K mg base N qual sc f cdv A outer s H E).env=(false,eval e (cxOf (CXR P w C) P w K mg base N qual sc f cdv A outer s H E).env)::starEach [] (cxOf (CXR P w C) P w K mg base N qual sc f cdv A outer s H E).env:=by rfl) (hpl:(backTo cpos (starEach [e] (cxOf (CXR P w C) P w K mg base N qual sc f cdv A outer s H E).env)).any (·.1)=false:=by rfl):
  JS (cxOf (CXR P w C) P w K mg base N qual sc f cdv A outer s H E) (.Raise (some (.Call (.Name x np) [e] [] cpos)) none pos) (jO4 E nr t):=by
 refine⟨fun pins s0 σ H0 D I h=>?_⟩
 obtain⟨nm,qn,N',bs,bm,sn,sub,ab,col,dd,k0,k1,k2,k3,k5,mN,hni,hbe,c3,c4,hK⟩:=xc.cls
 refine jMG (C:=C) (N:=N') (bs:=bs) (bm:=bm) (hdct:=true) (sn:=sn) (sub:=sub) (ab:=ab) (col:=col) (dd:=dd) (k0:=k0) (k1:=k1) (k2:=k2) (k3:=k3) (k5:=k5) (nm:=nm) (q:=qn) (fI:=fI) cZ (by decide) cZ hbe (I.ok.hd hc) hpl hni (jBE I hg.a hm ⟨rfl,?_⟩ hd)
 obtain⟨y,r,hy⟩:∃ y r,backTo cpos (starEach [e] (cxOf (CXR P w C) P w K mg base N qual sc f cdv A outer s H E).env)=(false,y)::r:=by
  rw[he]
  exact⟨_,_,rfl⟩
 have h2:=ha.h cpos pins s0 σ H0 _ I h
 rw[hy] at h2 ⊢
 refine eE (thn h2 fun us s1 ⟨vs,H1,I1,r1,i,ev,i0,i1,q1⟩=>?_)
 subst ev
 obtain⟨u1,rfl,a1⟩:=r1.one
 obtain⟨c1,c2,c3',oI,c5,c6⟩:=hK s1.heap I1.kIn
 refine⟨rfl,by show 1<=_; decide,c1,c2,c3',⟨oI,c5,c6⟩,fun h' a m=>?_⟩
 obtain⟨t0,at0,_⟩:=m.there
 have I2:Inv (cxOf (CXR P w C) P w K mg base N qual sc f cdv A outer s H E) pins σ (upd H1 a (.ext (excN a C))) { s1 with heap:=h'} :=I1.track (t':=s1.toks) m.keeps m.new ⟨⟨t0,at0⟩,⟨_,at0⟩,excN.stay⟩
 have aH:H1 a=none:=by
  cases q:H1 a with
  | none=>rfl
  | some o=>
   obtain⟨u,hu⟩:=(I1.hok a o q).is
   rw[m.new] at hu
   cases hu
 have an:s.heap.get? a=none:=by
  cases q:s.heap.get? a with
  | none=>rfl
  | some o=>
   have un:Un (frs outer) [] H H1 s.heap s1.heap:=I1.base
   obtain⟨o',z⟩:=un.there a o q (by simp)
   rw[m.new] at z
   cases z
 have r2:Vals [V.ref a,V.int i] [Value.ref a,u1]:= .cons rfl (.cons a1 .nil)
 have hq:spXI C nr [V.ref a,V.int i] (upd H1 a (.ext (excN a C))) (fun v H'=>v= .non/\∃ d,H1 d=none/\d≠a/\H'=upd (upd (upd H1 a (.ext (excN a C))) d (.xd [(nr, .int i)])) a (.ext (excM a C d))) E:=⟨a,i,rfl,i0,i1,j8,fun d hd hne=>⟨rfl,d,by rw[jG hne] at hd; exact hd,hne,rfl⟩⟩
 refine cF (cG (F.run _ (cxOf (CXR P w C) P w K mg base N qual sc f cdv A outer s H E).stack _ _ ⟨[Value.ref a,u1],[]⟩ [Value.ref a,u1] _ _ E (hr.make C [u1] []) (I2.env0.make C [u1] []) (by
  have z:=hb _ [Value.ref a,u1] I2.kIn rfl
  rw[bL] at z
  exact z) r2 hq) fun res s3 hq3=>?_)
 cases res with
 | error ev=>exact False.elim hq3
 | ok fl=>
  cases fl with
  | ret u=>
   obtain⟨v,H3,I3,rv,ev,d,hd0,dne,eH⟩:=I2.after hq3
   subst ev eH
   obtain⟨⟨t3,at3⟩,_,_⟩:=(show ObjOk P w _ s3.heap a (.ext (excM a C d)) from I3.hok a _ j8)
   refine⟨rv,t3,some d,(hK s3.heap I3.kIn).1,at3,?_⟩
   have I4:=I3.drp (a:=a) j8
   have e4:drp (upd (upd (upd H1 a (.ext (excN a C))) d (.xd [(nr, .int i)])) a (.ext (excM a C d))) a=upd H1 d (.xd [(nr, .int i)]):=by
    funext b
    by_cases z:b=a
    ·rw[z,jEK,jG (bY dne)]
     exact aH.symm
    ·rw[jCI z,jG z]
     by_cases z2:b=d
     ·rw[z2,j8,j8]
     ·rw[jG z2,jG z2,jG z]
   rw[e4] at I4
   exact jPZ I4 at3 (by rw[jG (bY dne)]; exact aH) an (q1 a d hd0)
  | next=>exact False.elim hq3
  | brk=>exact False.elim hq3
  | cont=>exact False.elim hq3
section
variable {X:Cx}{o e:Expr}{to:TE}{t1:TEX}{T id:String}{name:Str}{r:V->List V->Hp->VK->Prop}{apos cpos:Pos}
end
theorem loc_u {X:Cx}{x:Str}{a:Addr}(h:Loc1 X x):Loc1 (jAE X a) x:=⟨h.a,h.b⟩
theorem jGT:∀ {cs:List Addr}{its:List Value},Vals (cs.map V.ref) its->its=cs.map Value.ref
 | [],_,h=>by cases h; rfl
 | c::cs,_,h=>by
  cases h with
  | cons h1 h2=>rw[bi,jGT h2,show _=Value.ref c from h1]
theorem jED {K:W.Frag}{t:Value} :∀ {cs:List Addr},(∀ a∈cs,kitOne K t (.ref a)=some false)->kitAny K t (cs.map Value.ref)=some false
 | [],_=>rfl
 | c::cs,h=>by
  rw[bi]
  unfold kitAny
  rw[h c (am ..)]
  exact jED fun a ha=>h a (ar _ ha)
def excD (x C d:Addr):Heap->Prop:=fun h=>∃ vs,h.get? x=some { cls:= .ref C,dict:=some d,data:= .fields vs} /\vs[2]?=some .none
theorem excD.of {h:Heap}{x C T d:Addr}(e:ExcD h x C T d):excD x C d h:=by
 obtain⟨vs,_,_,h1,_,_,h2,_⟩:=e
 exact⟨vs,h1,h2⟩
theorem excD.stay {x C d:Addr}(h1 h2:Heap)(p:excD x C d h1)(k:∀ o,h1.get? x=some o->h2.get? x=some o):excD x C d h2:=by
 obtain⟨vs,e,c⟩:=p
 exact⟨vs,k _ e,c⟩
section
variable {X:Cx}{pins:List (Addr×Obj)}{σ:St}{H H':Hp}{s:Shared}{h2:Heap}{x C T T' dI:Addr}
theorem Inv.heldD (I:Inv X pins σ H' s)(n:NoteX (frs X.stack) [x,T] s.heap h2)(e:ExcD h2 x C T' dI)(hx:H' x=none)(hT:H' T=none)
  (ax:X.s₀.heap.get? x=none/\x≠X.env.locals/\(∀ y c,X.env.cells.lookup y=some c->c≠x)/\∀ p∈X.pn++pins,p.1≠x)
  (aT:X.s₀.heap.get? T=none/\T≠X.env.locals/\(∀ y c,X.env.cells.lookup y=some c->c≠T)/\∀ p∈X.pn++pins,p.1≠T):
  Inv X pins σ (upd H' x (.ext (excD x C dI))) { s with heap:=h2} :=by
 have nx:∀ {b:Addr}{o:HO},H' b=some o->b≠x:=fun {b o} q z=>by
  rw[z,hx] at q
  cases q
 refine I.callX (g':=s.gens) (d':=s.drawn) (t':=s.toks) (ch:=[x,T]) ⟨fun b o q z n1 n2=>n.keep b o q n1 n2,fun b o q z n1 n2=>n.slot b o q n2,fun b o q z n2=>?_,fun b o q n2=>?_,fun b xs q=>by rw[jG (nx q)]; exact q,fun b o u q=>by rw[jG (nx q)]; exact q,fun b ps q=>⟨#[],by rw[jG (nx q),q]; simp⟩⟩ (fun a o q=>?_) I.bare (fun b hb=>?_)
 ·rw[jG (fun z=>n2 (by rw[z]; simp))]
  exact z
 ·obtain⟨sl,w⟩:=n.slot b o q n2
  exact⟨_,w⟩
 ·by_cases ha:a=x
  ·subst ha
   rw[j8] at q
   cases q
   obtain⟨vs,_,_,w,_⟩:=id e
   exact⟨.of e,⟨_,w⟩,excD.stay⟩
  ·rw[jG ha] at q
   have hk:=I.hok.note n I.stkFree fun b hb=>by
    rcases av.mp hb with z | z
    ·rw[z]; exact hx
    ·rw[aQ.mp z]; exact hT
   exact(hk a o q).stay (fun _ _ _ w=>w) (fun b w=>by rw[jG (nx w)]; exact w) fun b xs w=>by rw[jG (nx w)]; exact w
 ·rcases av.mp hb with z | z
  ·rw[z]; exact ax
  ·rw[aQ.mp z]; exact aT
end
abbrev WXR:=Addr->Addr->Addr->St->Hp->Prop
def RZR (X:Cx)(pins:List (Addr×Obj))(W:WXR):Value->Shared->Prop:=fun ev s2=>∃ x T C d σ2 H2,ev= .ref x/\Inv X pins σ2 H2 s2/\H2 x=none/\H2 T=none/\ExcD s2.heap x C T d/\
 (X.s₀.heap.get? x=none/\x≠X.env.locals/\(∀ y c,X.env.cells.lookup y=some c->c≠x)/\∀ p∈X.pn++pins,p.1≠x)/\(X.s₀.heap.get? T=none/\T≠X.env.locals/\(∀ y c,X.env.cells.lookup y=some c->c≠T)/\∀ p∈X.pn++pins,p.1≠T)/\W x C d σ2 H2
abbrev TEXR:=St->Hp->VK->(Addr->Addr->Addr->Hp->Prop)->Prop
abbrev TBXR:=Ends->WXR->St->Hp->Prop
structure JXR (X:Cx)(e:Expr)(t:TEXR):Prop where
 h:∀ (pins:List (Addr×Obj)) (s:Shared) (σ:St) (H:Hp) (Q:VK) (W:Addr->Addr->Addr->Hp->Prop),Inv X pins σ H s->t σ H Q W->wpAny (model X.prog X.w) X.A (eval e X.env) (EP X pins σ Q) (RZR X pins fun x C d σ2 H2=>σ2=σ/\W x C d H2) s
structure JBR (X:Cx)(body:List Stmt)(t:TBXR):Prop where
 h:∀ (pins:List (Addr×Obj)) (s:Shared) (σ:St) (H:Hp) (D:Ends) (W:WXR),Inv X pins σ H s->t D W σ H->wpAny (model X.prog X.w) X.A (execs body X.env) (SP X pins D) (RZR X pins W) s
def jQ7 (C:Addr)(t:TA)(sp:Sp):TEXR:=fun σ H Q W=>t σ H fun vs H1=>sp vs H1 Q fun e ox H2=>∀ x d,e= .ref x->ox=some d->H2 x=none->W x C d H2
def bSetR (i:Nat)(t:TEXR):TBXR:=fun D W σ H=>t σ H (fun v H1=>D.nx (σ.set i (some v)) H1) fun x C d H2=>W x C d σ H2
def tTryR (K:W.Frag)(B:Addr)(j:Nat)(tb:TBXR)(ts:Addr->TS):TS:=fun D σ H=>tb D (fun x C d σ2 H2=>Above K C B/\ts x (Dh D j) (σ2.set j (some (.ref x))) (upd H2 x (.ext (excD x C d)))) σ H
section
variable {X:Cx}{y n g c:Str}{i j k:Nat}{f B C:Addr}{fd:FuncData}{ps:List Str}{sp:Sp}{e:Expr}{es:List Expr}{t:TA}{te t1:TEXR}{yp gp cp ap np rp hp tp pos:Pos}
theorem jML (F:FnOk X.prog X.w X.K X.mg X.base (CXR X.prog X.w C) k f fd ps sp)(hr:Room k X.A)(hg:Gl1 X g)(hm:X.mg g=some (.ref f))(hk:keepIn X.K (.ref f)=true)(hb:Binds X.K fd ps [])(ha0:JA X (e::es) t)(hex:X.ex=[])
  (he:starEach (e::es) X.env=(false,eval e X.env)::starEach es X.env) (hdb:(g==("__debug__" :Str))=false:=by decide) (hpl:(backTo cp (starEach es X.env)).any (·.1)=false:=by rfl) (hxe:X.xe=fun _ _=>False:=by rfl):
  JXR X (.Call (.Name g gp) (e::es) [] cp) (jQ7 C t sp):=by
 have ha:JA X.nox (e::es) t:=jR7 hxe ▸ ha0
 refine⟨fun pins s σ H Q W I h=>cH (jBE I hg.a hm ?_ hdb)⟩
 refine fi (h₀:=X.base) I.ok.mod.kin hk (aZ (ha.h cp pins s σ H _ (I.wish _) h) (fun us s1 ⟨vs,H1,I1,r1,q⟩=>⟨I1.unwish.kIn,?_⟩) fun _ _ z=>False.elim z) he hpl
 have I1:=I1.unwish
 have hl:us.length=ps.length:=by rw[<- r1.length]; exact F.len _ _ _ _ q
 have hbb:=hb s1 us I1.kIn (by rw[bL]; exact hl)
 rw[bL] at hbb
 refine cF (cG (F.run X.A X.stack s1 H1 ⟨us,[]⟩ us vs _ _ hr I1.env0 hbb r1 q) fun res s2 hq=>?_)
 cases res with
 | ok fl=>
  cases fl with
  | ret u=>exact I1.after hq
  | next=>exact False.elim hq
  | brk=>exact False.elim hq
  | cont=>exact False.elim hq
 | error ev=>
  obtain⟨x,T,d,H2,rfl,os2,bare2,un2,hok2,fx,fT,hx,hT,ex2,q2⟩:=hq
  have I2:Inv X pins σ H2 s2:=I1.call' os2 un2 hok2 bare2 fun b z=>absurd z (by simp)
  have hT1:s1.heap.get? T=none:=by
   cases z:s1.heap.get? T with
   | none=>rfl
   | some o=>exact absurd (au z) (Nat.not_lt.mpr fT)
  exact⟨x,T,C,d,σ,H2,rfl,I2,hx,hT,ex2,I1.apart hex fx,I1.apart hex hT1,rfl,q2 x d rfl rfl hx⟩
theorem RZR.out {pins:List (Addr×Obj)}{σ:St}{W':Addr->Addr->Addr->Hp->Prop}{W:WXR}{ev:Value}{s:Shared}(h:RZR X pins (fun x C d σ2 H2=>σ2=σ/\W' x C d H2) ev s)(k:∀ x C d H2,W' x C d H2->W x C d σ H2):RZR X pins W ev s:=by
 obtain⟨x,T,C,d,σ2,H2,e1,I2,a1,a2,a3,a4,a5,rfl,a6⟩:=h
 exact⟨x,T,C,d,_,H2,e1,I2,a1,a2,a3,a4,a5,k _ _ _ _ a6⟩
theorem jPL (hN:X.N.Nodup)(hi:X.N[i]?=some y)(ly:Loc1 X y)(h:JXR X e te)(hs:SwOk e (some (.Name y yp))):JBR X [.Assign [.Name y yp] e ap] (bSetR i te):=by
 refine⟨fun pins s σ H D W I hq=>fY (wpAny_Assign_Name (aZ (h.h pins s σ H _ _ I hq) (fun u s1 ⟨x,H1,I1,r1,q1⟩=>?_) fun ev s1 z=>z.out fun _ _ _ _ q=>q) (hs.h _ _))⟩
 exact jCM I1 hN hi ly.a r1 (fun s3 I3=>dq ⟨_,H1,I3,q1⟩) ly.b
theorem jPI {body:List Stmt}{s0:Stmt}{suite:List Stmt}{tb:TBXR}{ts:Addr->TS}(hN:X.N.Nodup)(hn:X.N[j]?=some n)(ln:X.env.scope.names.lookup n=some .local)(hb:JBR X body tb)
  (hc:Gl1 X c) (hmc:X.mg c=some (.ref B)) (hst:X.stack=X.env::X.outer) (hfr:X.env.frame=some X.env.locals) (hs:∀ x,JSs (jAE X x) (s0::suite) (ts x)) (hdc:(c==("__debug__" :Str))=false:=by decide):
  JS X (.Try body [.ExceptHandler (some (.Name c np)) (some n) (s0::suite) hp] [] [] tp) (tTryR X.K B j tb ts):=by
 refine⟨fun pins s σ H D I h=>wpAny_Try_except (aZ (hb.h pins s σ H D _ I h) (fun fl s1 q=>?_) fun ev s2 hz=>?_)⟩
 ·cases fl with
  | next=>exact dq q
  | brk=>exact q
  | cont=>exact q
  | ret u=>exact q
 ·obtain⟨x,T,C,d,σ2,H2,rfl,I2,hx,hT,ex2,ax,aT,ab,q3⟩:=hz
  have fr:=I.ok.frames
  have st2:=I2.stack
  rw[hst] at fr st2
  refine jJX (base:=X.base) fr st2 hfr ex2 fun h3 T3 n3 e3 z3=>?_
  have I3:Inv X pins σ2 (upd H2 x (.ext (excD x C d))) { s2 with heap:=h3} :=I2.heldD (by rw[hst]; exact n3) e3 hx hT ax aT
  refine wpAny_handleBy_cons (codeAny_handlers_test (jBE (X:=jAE X x) (I3.suite x) hc.a hmc ?_ hdc)) (by intro q; cases q)
  obtain⟨nm,q,nm',q',N,N',bs,bm,bs',bm',hdct,hdct',sn,sn',sub,sub',ab,ab',col,col',dd,dd',k0,k1,k2,k3,k5,j0,j1,j2,j3,j5,ni,ni',b1,b2,hK⟩:=ab
  obtain⟨c1,c2⟩:=hK h3 I3.kIn
  obtain⟨vs3,_,_,hx3,_⟩:=id e3
  refine jMJ c1 c2 hx3 rfl b1 b2 ?_
  refine codeAny_handlers_suite_as (jFP (s:= { s2 with heap:=h3}) e3 fun h4 k4=>?_)
  have I4:Inv X pins σ2 (upd H2 x (.ext (excD x C d))) { s2 with heap:=h4} :=I3.kept (h':=h4) (t':=s2.toks) k4
  refine jCM (X:=jAE X x) (v:= .ref x) (I4.suite x) hN hn (.inl ln) rfl (fun s5 I5=>?_) (.inr ln)
  refine aZ ((hs x).h pins s5 _ _ (Dh D j) I5 q3) (fun fl s6 q6=>?_) fun _ _ z=>False.elim z
  have go:∀ {σ6:St}{H6:Hp}{Q:Shared->Prop},Inv (jAE X x) pins σ6 H6 s6->(∀ s7,Inv X pins (σ6.set j none) H6 s7->Q s7)->wpAny (model X.prog X.w) X.A (do bindName X.env n .none; unbindBehindTheSuite X.env n hp) (fun _ s7=>Q s7) X.xe s6:=fun {σ6 H6 Q} I6 k=>by
   have I6:=I6.unsuite I.ok
   obtain⟨m6,hn6,hl6⟩:=id I6.loc
   exact wpAny_nameGoes_keeps ln hn6 (by rw[I.ok.kind]; rfl) fun h7 v hn7 sb7=>k _ (I6.lost hN hn ln hn6 hl6 hn7 sb7)
  cases fl with
  | next=>
   obtain⟨σ6,H6,I6,d6⟩:=q6
   exact go I6 fun s7 I7=>⟨_,H6,I7,d6⟩
  | brk=>
   obtain⟨σ6,H6,I6,d6⟩:=q6
   exact go I6 fun s7 I7=>⟨_,H6,I7,d6⟩
  | cont=>
   obtain⟨σ6,H6,I6,d6⟩:=q6
   exact go I6 fun s7 I7=>⟨_,H6,I7,d6⟩
  | ret u=>
   obtain⟨v,σ6,H6,I6,r6,d6⟩:=q6
   exact go I6 fun s7 I7=>⟨v,_,H6,I7,r6,d6⟩
end
theorem jID {K:W.Frag}{x C:Addr}{ox:Obj}{od:Option Obj}{prog:Program}{w:World}{A:Around}{E:Value->Shared->Prop}{Q:Option Value->Shared->Prop}{s:Shared}(c:ExcIs K C)(X:K.In s.heap)(I:PySem.W.InstAt s.heap x ox C od)(k:Q (some (.ref C)) { s with toks:=s.toks+1}):wpAny (model prog w) A (getAttr? (.ref x) "__class__") Q E s:=by
 have hf:findObj K C od "__class__" =some (.bind (.builtin "getset_descriptor.__get__") (.builtin "object.__class__")):=by
  obtain⟨cd,hcd⟩:=cx.mp c.hc
  unfold findObj
  rw[hcd,bind_some,c.ha,bind_some]
  simp [c.hn,c.tk]
 obtain⟨hh,g,d,t,os⟩:=s
 have L0:=I.type (M:=model prog w)
 have L1:=cb (M:=model prog w) X c.ga
 have L2:=cb (M:=model prog w) X c.gr
 have L3:=gZ (M:=model prog w) X I hf
 have L4:PySem.W.Looks (model prog w) hh (isInstance (.ref x) (.type "BaseException")) true:=L0.andThen (gQ (M:=model prog w) X c.hb)
 have e1:(onTheHeap (.ref C)&&(Value.builtin "BaseException.__getattribute__" == .builtin "object.__getattribute__"))=false:=by
  have z:(Value.builtin "BaseException.__getattribute__" == .builtin "object.__getattribute__")=false:=by decide+kernel
  rw[z,aX]
 unfold getAttr? getAttrBy? getAttrBy
 refine aa (wpAny_mkText (aa (cM (be (aa (L0.at (aa (L1.at ?_))))))))
 dsimp only
 rw[e1,aB (by decide)]
 unfold getAttrByItsOwn hookBefore
 rw[aA (by rfl)]
 refine aa (L2.at (aa (cM (be ?_))))
 unfold callGetattribute boundAndCalled
 rw[aB (by decide),cC.ga.bind]
 refine aa (ag (cF (cw cC.ga.plain gE ?_)))
 have hk:builtinKind "BaseException.__getattribute__" =some .slot/\splitId "BaseException.__getattribute__" =some ("BaseException","__getattribute__"):=by decide+kernel
 have ha:=gO (.ref x) (.str "__class__" t)
 simp only [checkBuiltinCall,hk.1,hk.2]
 refine aa (L4.at ?_)
 rw[aB (by decide)]
 refine fA (a:=()) ha (aa (ag (aa (ag (aa (L0.at (aa (L3.at ?_))))))))
 refine(show wpAny _ _ (holding [.builtin "object.__class__"] (call (.builtin "getset_descriptor.__get__") [.builtin "object.__class__", .ref x, .ref C]) >>= ret) _ _ _ from aa (be (cF ?_)))
 exact PySem.W.class_get (s:=⟨hh,g,d,t+1,os⟩) (ox:=ox) (od:=od) X I c.hm (ag (handed_on rfl (ag k)))
theorem jPS {K:W.Frag}{x C:Addr}{ox od:Obj}{name:Str}{v:Value}{expr:Bool}{prog:Program}{w:World}{A:Around}{E:Value->Shared->Prop}{Q:Value->Shared->Prop}{s:Shared}(c:ExcIs K C)(hd:hasDictIn K C=true)(hn:findIn K (.ref C) name=some none)(X:K.In s.heap)(I:PySem.W.InstAt s.heap x ox C (some od))(hl:lookIn name od=some (some v))(hv:handedIn v=true)(k:Q v { s with toks:=s.toks+1}):wpAny (model prog w) A (getAttr (.ref x) name expr) Q E s:=by
 have hf:=PySem.W.findObj_own hd hn rfl hl
 obtain⟨hh,g,d,t,os⟩:=s
 have L0:=I.type (M:=model prog w)
 have L1:=cb (M:=model prog w) X c.ga
 have L2:=cb (M:=model prog w) X c.gr
 have L3:=gZ (M:=model prog w) X I hf
 have L4:PySem.W.Looks (model prog w) hh (isInstance (.ref x) (.type "BaseException")) true:=L0.andThen (gQ (M:=model prog w) X c.hb)
 have e1:(onTheHeap (.ref C)&&(Value.builtin "BaseException.__getattribute__" == .builtin "object.__getattribute__"))=false:=by
  have z:(Value.builtin "BaseException.__getattribute__" == .builtin "object.__getattribute__")=false:=by decide+kernel
  rw[z,aX]
 unfold getAttr getAttrBy
 refine aa (wpAny_mkText (be (aa (L0.at (aa (L1.at ?_))))))
 dsimp only
 rw[e1,aB (by decide)]
 unfold getAttrByItsOwn hookBefore
 rw[aA (by rfl)]
 refine aa (L2.at (aa (cM (be ?_))))
 unfold callGetattribute boundAndCalled
 rw[aB (by show ¬ ((expr&&onTheHeap (Value.builtin "BaseException.__getattribute__"))=true); rw[show onTheHeap (Value.builtin "BaseException.__getattribute__")=false from rfl,aX]; decide),cC.ga.bind]
 refine aa (ag (cF (cw cC.ga.plain gE ?_)))
 have hk:builtinKind "BaseException.__getattribute__" =some .slot/\splitId "BaseException.__getattribute__" =some ("BaseException","__getattribute__"):=by decide+kernel
 have ha:=gO (.ref x) (.str name t)
 simp only [checkBuiltinCall,hk.1,hk.2]
 refine aa (L4.at ?_)
 rw[aB (by decide)]
 refine fA (a:=()) ha (aa (ag (aa (ag (aa (L0.at (aa (L3.at ?_))))))))
 exact ag (handed_on hv k)
def excO (x C d:Addr):Heap->Prop:=fun h=>excD x C d h/\∃ o,h.get? d=some o
theorem excO.inst {x C d:Addr}{h:Heap}(p:excO x C d h):∃ ox od,PySem.W.InstAt h x ox C od:=by
 obtain⟨⟨vs,e,_⟩,o,ho⟩:=p
 exact⟨_,some o,e,rfl,rfl,ho⟩
theorem jFK {K:W.Frag}{x C d:Addr}(c:ExcIs K C):PySem.W.KitX K (.ref x) (.ref C) (excO x C d) where
 ty:=fun _ _ _ p=>by
  obtain⟨ox,od,I⟩:=p.inst
  exact I.type
 it:=fun _ _ X _=>by
  obtain⟨cd,hcd⟩:=cx.mp c.hc
  unfold clsIn at hcd
  split at hcd
  ·rename_i c' d' cd' sl' ho
   intro A' Q' E' s' k q
   unfold isType loadHead
   exact aa (wpAny_loadPart (k _ _ (X _ _ ho)) (ag q))
  ·cases hcd
 ne:=fun h tp dd its n sl X htp=>by
  obtain⟨cd,hcd⟩:=cx.mp c.hc
  refine cS.mpr fun q=>?_
  have e:C=tp:=Value.ref.inj (gk.mp q)
  subst e
  unfold clsIn at hcd
  split at hcd
  ·rename_i c' d' cd' sl' ho
   have z:=(X _ _ ho).symm.trans htp
   cases z
  ·cases hcd
 ca:=fun {prog w A E Q s} X p k=>by
  obtain⟨ox,od,I⟩:=p.inst
  exact jID c X I k
theorem jKX {X:Cx}{pins:List (Addr×Obj)}{σ:St}{H:Hp}{s:Shared}{x C d:Addr}{fs:List (Str×V)}(I:Inv X pins σ H s)(hx:H x=some (.ext (excD x C d)))(hd:H d=some (.xd fs)):excO x C d s.heap:=by
 obtain⟨p,_,_⟩:=(show ObjOk X.prog X.w H s.heap x (.ext (excD x C d)) from I.hok x _ hx)
 exact⟨p,(I.hok d _ hd).is⟩
theorem jCJ {X:Cx}{C:Addr}(ci:ExcIs X.K C):qC X (.builtin "isinstance") (fun xs H Q=>∃ x c u b d fs,xs=[.ref x,c]/\H x=some (.ext (excD x C d))/\H d=some (.xd fs)/\(∀ v,RelV c v->v=u)/\kitOne X.K (.ref C) u=some b/\Q (.bl b) H):=by
 intro pins s σ H xs us Q I r h
 obtain⟨x,c,u,b,d,fs,rfl,hx,hd,hu,e,q⟩:=h
 obtain⟨v,y,rfl,rv,ry⟩:=r.two
 cases (show v=Value.ref x from rv)
 cases hu y ry
 exact bK (jFK ci) I.kIn (jKX I hx hd) e (fun z=>nomatch z) fun tk=>⟨.bl b,H,I.tok tk,rfl,q⟩
theorem jEM {X:Cx}{C:Addr}(ci:ExcIs X.K C):qC X (.builtin "isinstance") (fun xs H Q=>∃ (x t:Addr) (cs:List Addr) (b:Bool) (d:Addr) (fs:List (Str×V)),xs=[.ref x, .ref t]/\H x=some (.ext (excD x C d))/\H d=some (.xd fs)/\H t=some (.tup (cs.map V.ref))/\kitAny X.K (.ref C) (cs.map Value.ref)=some b/\Q (.bl b) H):=by
 intro pins s σ H xs us0 Q I r h
 obtain⟨x,t,cs,b,d,fs,rfl,hx,hd,ht,e,q⟩:=h
 obtain⟨v,y,rfl,rv,ry⟩:=r.two
 cases (show v=Value.ref x from rv)
 cases (show y=Value.ref t from ry)
 obtain⟨_,its,r',n,g⟩:=(show ObjOk X.prog X.w H s.heap t (.tup (cs.map V.ref)) from I.hok t _ ht)
 have ei:=jGT r'
 subst ei
 exact PySem.W.kia_tup (jFK ci) I.kIn (jKX I hx hd) g e (fun z=>nomatch z) fun tk=>⟨.bl b,H,I.tok tk,rfl,q⟩
def tXRow (C:Addr)(f:Str)(te:TE):TE:=fun σ H Q=>te σ H fun v H1=>∃ x d fs y,v= .ref x/\H1 x=some (.ext (excD x C d))/\H1 d=some (.xd fs)/\fs.lookup f=some y/\Q y H1
theorem jKK {X:Cx}{C:Addr}{f:Str}{e:Expr}{te:TE}{pos:Pos}(ci:ExcIs X.K C)(hd:hasDictIn X.K C=true)(hn:findIn X.K (.ref C) f=some none)(he:JE X e te)(hb:attributeBase e f X.env (eval e X.env)=eval e X.env:=by rfl):JE X (.Attribute e f pos) (tXRow C f te):=by
 refine⟨fun pins s σ H Q I h=>?_⟩
 refine jPW hb (thn (he.h pins s σ H _ I h) fun u s1 ⟨v,H1,I1,rx,x,d,fs,y,ex,hx,hd1,hl,q⟩=>?_)
 subst ex
 obtain rfl:u=Value.ref x:=rx
 obtain⟨⟨vs,e0,_⟩,_,_⟩:=(show ObjOk X.prog X.w H1 s1.heap x (.ext (excD x C d)) from I1.hok x _ hx)
 obtain⟨mA,ns,rel⟩:=(show ObjOk X.prog X.w H1 s1.heap d (.xd fs) from I1.hok d _ hd1)
 obtain⟨od,ho,hlk⟩:=jFJ ns
 obtain⟨u,hu,ru⟩:=RelO.some_of (v:=y) (o:=mA f) (by rw[<- hl]; exact rel f)
 exact jPS ci hd hn I1.kIn ⟨e0,rfl,rfl,ho⟩ (by rw[hlk,hu]) (jKT ru) ⟨y,H1,I1.tok _,ru,q⟩
theorem Fun.okR {P:Program}{w:World}{K:W.Frag}{mg:Str->Option Value}{base:Heap}{C:Addr}{x qual:Str}{st:Stmt}{f:Addr}{fd:FuncData}{N ps:List Str}{k:Nat}{sp:Sp}(F:Fun K x qual st f fd)(S:FnScope N ps (j9 st))(len:∀ vs H Q E,sp vs H Q E->vs.length=ps.length)
  (hbody:∀ (cdv:Value) (A:Around) (outer:List Env) (s:Shared) (H:Hp) (vs:List V) (Q:VK) (E:XK),Room k (A.deeper (envOfC qual (j9 st) s.heap.objs.size f cdv))->sp vs H Q E->
   ∃ t,PSs (cxOf (CXR P w C) P w K mg base N qual (j9 st) f cdv A outer s H E) (jE st) t/\t { nx:=fun _ H'=>Q .non H',rt:=Q} (start N vs) H):FnOk P w K mg base (CXR P w C) (k+1) f fd ps sp:=by
 obtain⟨oc,od,kV,doc,pm,an,cdv,ct,osl,rfl,lk,hcd⟩:=F.ex
 exact fn_of lk hcd S len fun A outer s H vs Q E hr hsp=>hbody cdv A outer s H vs Q E hr hsp
structure CanR (C:Addr)(P:Program)(w:World)(K:W.Frag)(mg:Str->Option Value)(base:Heap)(x:Str)(k:Nat)(f:Addr)(fd:FuncData)(ps:List Str)(sp:Sp):Prop where
 G:FnOk P w K mg base (CXR P w C) k f fd ps sp
 m:mg x=some (.ref f)
 kp:keepIn K (.ref f)=true
 b:Binds K fd ps []
section
variable {X:Cx}
open Classical in
end
section
variable {X:Cx}
theorem jNI:OpR X (compareOp .LtE) (fun x y H Q=>∃ a b,x= .str a/\y= .str b/\Q (.bl (!decide (b.cps.toList<a.cps.toList))) H):=by
 rintro pins s σ H x y u v Q I rx ry ⟨a,b,rfl,rfl,q⟩
 obtain⟨t,rfl⟩:=(show ∃ t,u=Value.str a t from rx)
 obtain⟨t',rfl⟩:=(show ∃ t',v=Value.str b t' from ry)
 show wpAny _ _ (richCompare .LtE (.str a t) (.str b t')) _ _ s
 exact wpAny_richCompare_same (op:= .LtE) (T:= "str") (cy s a t) (cy s b t') slot_str_le
  (bG slot_str_le (cy s a t) entry_str_le (show wpAny _ _ (ret (.bool (!decide (b.cps.toList<a.cps.toList)))) _ _ s from ag ⟨_,rfl,by simp, .bl _,H,I,rfl,q⟩) (args_str_le _ _))
open Classical in
theorem jI4 (hu:X.A.units+101<cLine):OpR X (compareOp .NotIn) (fun x y H Q=>∃ u ts,TAt H u x/\TAt H (.tup ts) y/\deps ts<=100/\Q (.bl (!ts.any fun t=>eqT t u)) H):=by
 intro pins s σ H x y v w Q I rx ry h
 obtain⟨u,ts,hx,⟨b,vs,rfl,hb,hts⟩,hd,q⟩:=h
 cases ry
 obtain⟨its,r,pl,_⟩:=I.sq (tp:=true) (SqT.of hb)
 have l1:=r.length
 have m1:=hts.len
 have at_:∀ y∈its,∃ t z,t∈ts/\TAt H t z/\RelV z y:=fun y hy=>by
  obtain⟨j,hj,rfl⟩:=ce hy
  have hv:vs[j]?=some (vs[j]'(by omega)):=by simp [show j<vs.length by omega]
  obtain⟨y',hy',ry⟩:=r.get hv
  rw[bB hj] at hy'
  cases hy'
  obtain⟨t,ht,tz⟩:=hts.get hv
  exact⟨t,_,bq ht,tz,ry⟩
 have of_:∀ t∈ts,∃ y∈its,∃ z,TAt H t z/\RelV z y:=fun t ht=>by
  obtain⟨j,hj,rfl⟩:=ce ht
  have hv:vs[j]?=some (vs[j]'(by omega)):=by simp [show j<vs.length by omega]
  obtain⟨y',hy',ry⟩:=r.get hv
  obtain⟨t,ht,tz⟩:=hts.get hv
  rw[bB hj] at ht
  cases ht
  exact⟨y',bq hy',_,tz,ry⟩
 let e:Value->Bool:=fun y=>decide (∃ t z,t∈ts/\TAt H t z/\RelV z y/\eqT t u=true)
 have one:∀ {t:Tr}{z:V}{y:Value},t∈ts->TAt H t z->RelV z y->e y=eqT t u:=fun {t z y} ht tz rz=>by
  show decide _=_
  cases he:eqT t u with
  | true=>exact ah ⟨t,z,ht,tz,rz,he⟩
  | false=>
   refine aq ?_
   rintro ⟨t',z',_,tz',rz',he'⟩
   have:z=z':=rz.inj rz'
   subst this
   have:t=t':=tz.inj tz'
   subst this
   rw[he] at he'
   cases he'
 refine SeqAt.notIn_tupleAt e pl (fun y hy=>?_) ⟨.bl _,H,I,rfl,?_⟩
 ·obtain⟨t,z,ht,tz,rz⟩:=at_ y (by simpa using hy)
  rw[one ht tz rz]
  have hd':=jEL ht
  exact jRO I (dep t) t u z x y v _ rfl tz hx rz rx (by rw[ge]; omega)
 ·have ea:its.toArray.any e=ts.any fun t=>eqT t u:=by
   rw[bP,dZ]
   constructor
   ·intro h
    obtain⟨y,hy,hye⟩:∃ y∈its,e y=true:=by simpa [dZ] using h
    obtain⟨t,z,ht,tz,rz⟩:=at_ y hy
    rw[one ht tz rz] at hye
    exact⟨t,ht,hye⟩
   ·rintro ⟨t,ht,he⟩
    obtain⟨y,hy,z,tz,rz⟩:=of_ t ht
    have:∃ y∈its,e y=true:=⟨y,hy,by rw[one ht tz rz]; exact he⟩
    simpa [dZ] using this
  rw[ea]
  exact q
end
open AutoSeq1 (wpAny_loadPart')
section
variable {X:Cx}
end
end L2
end
section
end
section
namespace Eo
open PySem L2
def Keep (H H':Hp)(p:Addr):Prop:=∀ b o,H b=some o->b≠p->H' b=some o
structure Txt (mg:Str->Option Value):Prop where
 len:mg "len" =none
 range:mg "range" =none
 tuple:mg "tuple" =none
 sorted:mg "sorted" =none
 set:mg "set" =none
 list:mg "list" =none
 int:mg "int" =none
 isinstance:mg "isinstance" =none
 bool:mg "bool" =none
 str:mg "str" =none
 all:mg "all" =none
 zip:mg "zip" =none
 max:mg "max" =none
 min:mg "min" =none
 any:mg "any" =none
 sum:mg "sum" =none
 ValueError:mg "ValueError" =none
structure Can (P:Program)(w:World)(K:W.Frag)(mg:Str->Option Value)(base:Heap)(x:Str)(k:Nat)(f:Addr)(fd:FuncData)(ps:List Str)(sp:Sp):Prop where
 G:FnOk P w K mg base CX0 k f fd ps sp
 m:mg x=some (.ref f)
 kp:keepIn K (.ref f)=true
 b:Binds K fd ps []
theorem Can.pe {X:Cx}{x:Str}{k:Nat}{f:Addr}{fd:FuncData}{ps:List Str}{sp:Sp}{e:Expr}{es:List Expr}{t:TA}{p pos:Pos}(C:Can X.prog X.w X.K X.mg X.base x k f fd ps sp)(hr:Room k X.A)(hg:Gl X x)(ha:PA X (e::es) t)(hdb:(x==("__debug__" :Str))=false:=by decide)
  (he:starEach (e::es) X.env=(false,eval e X.env)::starEach es X.env:=by rfl) (hpl:(backTo pos (starEach es X.env)).any (·.1)=false:=by rfl):PE X (.Call (.Name x p) (e::es) [] pos) (tCall sp [] E0 t):=
 jOT C.G hr hg C.m C.kp C.b .nil pass0 ha hdb he hpl
theorem Can.je {X:Cx}{x:Str}{k:Nat}{f:Addr}{fd:FuncData}{ps:List Str}{sp:Sp}{e:Expr}{es:List Expr}{t:TA}{p pos:Pos}(C:Can X.prog X.w X.K X.mg X.base x k f fd ps sp)(hr:Room k X.A)(hg:Gl1 X x)(ha:JA X (e::es) t)(he:starEach (e::es) X.env=(false,eval e X.env)::starEach es X.env)
  (hdb:(x==("__debug__" :Str))=false:=by decide) (hpl:(backTo pos (starEach es X.env)).any (·.1)=false:=by rfl):JE X (.Call (.Name x p) (e::es) [] pos) (tCall sp [] E0 t):=
 ⟨C.pe hr hg.a ha.h hdb he hpl⟩
section
variable {P:Program}{w:World}{K:W.Frag}{mg:Str->Option Value}{base:Heap}
def jIV (K:W.Frag):Sp:=fun vs H Q _=>∃ (a:Addr) (ns:List Int) (k:Int),vs=[.ref a, .int k]/\SqL K H a (ns.map V.int)/\0<=k/\∀ c:Int,Q (.int c) H
theorem jQA:FnScope ["script","k"] ["script","k"] (j9 sCell):=⟨rfl,rfl,rfl,by decide+kernel,rfl,by decide+kernel,by decide+kernel⟩
theorem jP7 {f:Addr}{fd:FuncData}(F:Fun K "_law_cell_at" "_law_cell_at" sCell f fd)(T:Txt mg):FnOk P w K mg base CX0 1 f fd ["script","k"] (jIV K):=by
 refine F.ok jQA (fun vs H Q E h=>?_) (fun cdv A outer s H vs Q E hr h=>?_)
 ·obtain⟨a,ns,k,rfl,_⟩:=h
  rfl
 ·obtain⟨a,ns,k,rfl,hS,h0,q⟩:=h
  refine⟨_,y9 (ps_if (jCZ op_lt (pv 1) (jE6 jP (by rfl) T.len PySem.boot_len (kR (pv 0) yT)) (jK _)) (jAP (jCC (pe_ix jX (pv 0) (pv 1) (fun _ _=>rfl)))) jE4) (jAP (jCC kB)),?_⟩
  refine⟨_,rfl,_,rfl,a,_,rfl, .inl hS,_,_,rfl,rfl,_,rfl,?_⟩
  refine ite2 (fun hlt=>?_) (fun _=>?_)
  ·have hlt:k<((ns.map V.int).length:Int):=aj hlt
   have hk:k.toNat<ns.length:=by rw[af] at hlt; omega
   refine⟨_,rfl,_,rfl,a,_,k, .int (ns[k.toNat]),rfl,rfl,hS,?_,q _⟩
   have e:(k.toNat:Int)=k:=by omega
   have q2:=jT (xs:=ns.map V.int) (j:=k.toNat) (v:=V.int ns[k.toNat]) (by simp [hk])
   rw[e] at q2
   exact q2
  ·exact q 0
def yS:Sp:=fun vs H Q _=>∃ (p:Addr) (N w:Int),vs=[.ref p, .int w]/\H p=some (.lst [.int N])/\0<=N/\0<w/\w<2 ^ 64/\∀ N' r:Int,0<=N'->0<=r->r<w->Q (.int r) (upd H p (.lst [.int N']))
theorem scTake:FnScope ["pot","wide","found"] ["pot","wide"] (j9 sTake):=⟨rfl,rfl,rfl,by decide+kernel,rfl,by decide+kernel,by decide+kernel⟩
theorem jP1 {f:Addr}{fd:FuncData}(F:Fun K "_law_take" "_law_take" sTake f fd):FnOk P w K mg base CX0 1 f fd ["pot","wide"] yS:=by
 refine F.ok scTake (fun vs H Q E h=>?_) (fun cdv A outer s H vs Q E hr h=>?_)
 ·obtain⟨a,ns,k,rfl,_⟩:=h
  rfl
 ·obtain⟨p,N,w,rfl,hp,h0,h1,h2,q⟩:=h
  refine⟨_,y9 (qX (i:=2) scTake.nd rfl (Or.inl rfl) (y6 jFB (pe_ix jX (pv 0) kB (fun _ _=>rfl)) (pv 1)))
   (y9 (jNG (y6 jH5 (pe_ix jX (pv 0) kB (fun _ _=>rfl)) (pv 1)) (jQO (pv 0) kB jLY))
   (jAP (jCC (pv 2)))),?_⟩
  refine⟨_,rfl,p,_,0, .int N,rfl,rfl,SqL.of hp,rfl,_,rfl,_,_,rfl,rfl,h1,?_⟩
  refine⟨_,rfl,p,_,0, .int N,rfl,rfl,SqL.of hp,rfl,_,rfl,_,_,rfl,rfl,⟨h1,h2⟩,?_⟩
  refine⟨_,rfl,p,_,0,0,rfl,rfl,hp,rfl,_,rfl,?_⟩
  exact q _ _ (Int.ediv_nonneg h0 (by omega)) (Int.emod_nonneg _ (by omega)) (g0 _ h1)
def spPot:Sp:=fun vs H Q _=>∃ c:Int,vs=[.int c]/\∀ (p:Addr) (N:Int),H p=none->0<=N->Q (.ref p) (upd H p (.lst [.int N]))
theorem scPot:FnScope ["cell","number","j","more"] ["cell"] (j9 sPot):=⟨rfl,rfl,rfl,by decide+kernel,rfl,by decide+kernel,by decide+kernel⟩
theorem jR0 {f:Addr}{fd:FuncData}(F:Fun K "_law_pot" "_law_pot" sPot f fd)(T:Txt mg):FnOk P w K mg base CX0 1 f fd ["cell"] spPot:=by
 refine F.ok scPot (fun vs H Q E h=>?_) (fun cdv A outer s H vs Q E hr h=>?_)
 ·obtain⟨c,rfl,_⟩:=h
  rfl
 ·obtain⟨c,rfl,q⟩:=h
  have one: [V.int 0].length<=sizeLine:=by show 1<=sizeLine; decide
  refine⟨_,y9 (ps_if (jCZ op_ge (pv 0) (y6 jJI kB kB) (jK _)) (jAP (jCC (jH3 (kR (y6 jD0 (pv 0) (y6 jJI kB kB)) yT)))) jE4)
   (y9 (qX (i:=1) scPot.nd rfl (Or.inl rfl) kB)
   (y9 (jNF cL rfl (jBP rfl T.range (kR kB yT)) (jE5 (i:=2) scPot.nd rfl (Or.inl rfl))
    (y9 (qX (i:=3) scPot.nd rfl (Or.inl rfl) (y6 jFB (y6 jCE (y6 yG (y6 yG (y6 jFB (pv 0) kB) (y6 jCE kB (pv 2))) kB) kB) kB))
    (y9 (qX (i:=3) scPot.nd rfl (Or.inl rfl) (y6 jFB (y6 yG (y6 yG (y6 jCE (pv 3) (pv 3)) (y6 jCE kB (pv 2))) kB) kB))
    (jAP (qX (i:=1) scPot.nd rfl (Or.inl rfl) (y6 yG (y6 jCE (pv 1) kB) (pv 3)))))))
   (jAP (jCC (jH3 (kR (pv 1) yT)))))),?_⟩
  refine⟨_,rfl,_,_,rfl,rfl,⟨by decide,by decide,by decide⟩,_,_,rfl,rfl,_,rfl,?_⟩
  refine ite2 (fun hge=>?_) (fun _=>?_)
  ·refine⟨_,rfl,_,_,rfl,rfl,⟨by decide,by decide,by decide⟩,_,_,rfl,rfl,one,fun p hp=>q p _ hp ?_⟩
   exact Int.sub_nonneg_of_le (aj hge)
  ·refine⟨64,rfl,by decide,by decide,jAX (n:=64) (fun i σ H2=>∃ (num:Int) (v1 v2:Option V),σ=[some (.int c),some (.int num),v1,v2]/\0<=num/\H2=H) ⟨0,none,none,rfl,hG _,rfl⟩ ?_ ?_⟩
   ·rintro i σ H2 hi ⟨num,v1,v2,rfl,hn,rfl⟩
    refine⟨_,rfl,_,_,rfl,rfl,(by show (0:Int)<2147483629; decide),_,rfl,_,_,rfl,rfl, .inl ⟨by decide,by decide⟩,_,_,rfl,rfl,_,_,rfl,rfl,_,_,rfl,rfl, .inr ⟨by decide,by decide⟩,_,_,rfl,rfl,(by show (0:Int)<2147483647; decide),?_⟩
    refine⟨_,rfl,_,rfl,_,_,rfl,rfl, .inl ⟨?_,?_⟩,_,rfl,_,_,rfl,rfl, .inl ⟨by decide,by decide⟩,_,_,rfl,rfl,_,_,rfl,rfl,_,_,rfl,rfl,(by show (0:Int)<2147483587; decide),?_⟩
    ·omega
    ·omega
    ·refine⟨_,rfl,_,_,rfl,rfl, .inr ⟨by decide,by decide⟩,_,rfl,_,_,rfl,rfl,?_⟩
     refine⟨_,_,_,rfl,?_,rfl⟩
     omega
   ·rintro σ H2 ⟨num,v1,v2,rfl,hn,rfl⟩
    exact⟨_,rfl,one,fun p hp=>q p num hp hn⟩
end
theorem jAC {H:Hp}{a:Addr}{o o':HO} :upd (upd H a o) a o'=upd H a o':=by
 funext b
 unfold upd
 by_cases h:b=a
 ·rw[aA h,aA h]
 ·rw[aB h,aB h,aB h]
theorem yO {H:Hp}{a b:Addr}{o:HO}(h:upd H a o b=none):b≠a/\H b=none:=by
 have h1:b≠a:=fun e=>by rw[e,j8] at h; cases h
 exact⟨h1,by rw[jG h1] at h; exact h⟩
theorem Keep.refl (H:Hp)(p:Addr):Keep H H p:=fun _ _ h _=>h
theorem Keep.trans {H H1 H2:Hp}{p:Addr}(a:Keep H H1 p)(b:Keep H1 H2 p):Keep H H2 p:=fun c o h n=>b c o (a c o h n) n
theorem Keep.upd {H H1:Hp}{p:Addr}(a:Keep H H1 p)(o:HO):Keep H (upd H1 p o) p:=fun c u h n=>by rw[jG n]; exact a c u h n
theorem Keep.new {H H1:Hp}{p l:Addr}(a:Keep H H1 p)(hl:H1 l=none)(o:HO):Keep H (L2.upd H1 l o) p:=fun c u h n=>by
 have:=a c u h n
 rw[jG (jD this hl)]
 exact this
theorem pw {w:Int}(h1:1<=w)(h2:w<=16):(2:Int)<=2 ^ w.toNat/\(2:Int) ^ w.toNat<=65536:=by
 have e:∀ n:Nat,n<17->1<=n->(2:Int)<=2 ^ n/\(2:Int) ^ n<=65536:=by decide+kernel
 exact e w.toNat (by omega) (by omega)
structure Lot (w:Int)(ts:List Int):Prop where
 ris:ts.Pairwise (· < ·)
 bnd:∀ z∈ts,0<=z/\z<w
 ne:ts≠ []
def bits (n:Int)(k:Nat):List Int:=((List.range k).filter fun t=>decide (Builtin.bitAnd (n / 2 ^ t) 1=1)).map fun (t:Nat)=>(t:Int)
theorem jFX (n:Int)(k:Nat):bits n (k+1)=bits n k++(if decide (Builtin.bitAnd (n / 2 ^ k) 1=1)=true then [(k:Int)] else []):=by
 unfold bits
 rw[List.range_succ,fm,aS]
 congr 1
 rw[List.filter_cons]
 split <;> rfl
theorem jN3 {n w:Int}(h1:1<=n)(hw:0<=w)(h2:n<2 ^ w.toNat):Lot w (bits n w.toNat):=by
 refine⟨?_,fun z hz=>?_,?_⟩
 ·unfold bits
  rw[List.pairwise_map]
  have:=(gm (n:=w.toNat)).filter (fun t=>decide (Builtin.bitAnd (n / 2 ^ t) 1=1))
  exact this.imp fun h=>by omega
 ·unfold bits at hz
  obtain⟨t,ht,rfl⟩:=aP.mp hz
  have:=bR.mp (eJ.mp ht).1
  omega
 ·obtain⟨m,rfl⟩:∃ m:Nat,n=(m:Int):=⟨n.toNat,by omega⟩
  have hm:m≠0:=by omega
  have hlt:m<2 ^ w.toNat:=by
   have:((m:Nat):Int)<((2 ^ w.toNat:Nat):Int):=by rw[Int.natCast_pow]; exact h2
   omega
  obtain⟨i,hi⟩:=Nat.exists_testBit_of_ne_zero hm
  have hiw:i<w.toNat:=by
   rcases Nat.lt_or_ge i w.toNat with h | h
   ·exact h
   ·rw[Nat.testBit_lt_two_pow (aG hlt (eG (by omega) h))] at hi
    cases hi
  have hb:Builtin.bitAnd ((m:Int) / 2 ^ i) 1=1:=by
   have e:((m:Int) / 2 ^ i)=((m / 2 ^ i:Nat):Int):=by rw[Int.natCast_ediv,Int.natCast_pow]; rfl
   rw[e,PyProof.Rows.bitAnd_pp (gW _) (by decide)]
   have e2:(((m / 2 ^ i:Nat):Int).toNat&&&(1:Int).toNat)=1:=by
    rw[cq]
    show (m / 2 ^ i)&&&1=1
    rw[Nat.and_one_is_mod]
    have:=hi
    rw[Nat.testBit_eq_decide_div_mod_eq] at this
    exact aj this
   rw[e2]
   rfl
  intro z
  have hmem:(i:Int)∈bits (m:Int) w.toNat:=by
   unfold bits
   exact aP.mpr ⟨i,eJ.mpr ⟨bR.mpr hiw,ah hb⟩,rfl⟩
  rw[z] at hmem
  cases hmem
section
variable {P:Program}{w:World}{K:W.Frag}{mg:Str->Option Value}{base:Heap}
def xA:Sp:=fun vs H Q _=>∃ (p:Addr) (N w:Int),vs=[.ref p, .int w]/\H p=some (.lst [.int N])/\0<=N/\1<=w/\w<=16/\
 ∀ (q:Addr) (N':Int) (ts:List Int) (H':Hp),0<=N'->Lot w ts->H' q=some (.tup (ts.map V.int))->H' p=some (.lst [.int N'])->Keep H H' p->Q (.ref q) H'
theorem scLot:FnScope ["pot","wide","way","number","start","step","size"] ["pot","wide"] (j9 sLot):=⟨rfl,rfl,rfl,by decide+kernel,rfl,by decide+kernel,by decide+kernel⟩
theorem jR2 {f fT:Addr}{fd fdT:FuncData}(F:Fun K "_law_lot" "_law_lot" sLot f fd)(T:Txt mg)(CT:Can P w K mg base "_law_take" 1 fT fdT ["pot","wide"] yS):FnOk P w K mg base CX0 2 f fd ["pot","wide"] xA:=by
 refine F.ok scLot (fun vs H Q E h=>?_) (fun cdv A outer s H vs Q E hr h=>?_)
 ·obtain⟨a,ns,k,rfl,_⟩:=h
  rfl
 ·obtain⟨p,N,w,rfl,hp,hN,h1,h2,q⟩:=h
  have hpw:=pw h1 h2
  have nd:=scLot.nd
  refine⟨_,y9 (qX (i:=2) nd rfl (Or.inl rfl) (CT.pe hr rfl (kR (pv 0) (kR kB yT))))
   (y9 (ps_if (jCZ yB (pv 2) kB (jK _))
    (y9 (qX (i:=3) nd rfl (Or.inr rfl) (y6 yG kB (CT.pe hr rfl (kR (pv 0) (kR (y6 jD0 (y6 jQX kB (pv 1)) kB) yT)))))
    (jAP (jCC (jBQ jA0 rfl T.tuple (by decide+kernel) (kR
     (jGD (m:=[none,some 3]) (Nc:=["t","number"]) rfl (jBP rfl T.range (kR (pv 1) yT)) rfl (by decide+kernel) (by decide+kernel) (yN (psc:=j9 sLot) (by decide+kernel))
      (kZ (N:=["pot","wide","way","number","start","step","size"]) rfl rfl (by decide+kernel))
      (fun cl C fp s H=>jE5 (i:=0) (show (["t","number"]:List Str).Nodup by decide+kernel) rfl (Or.inl rfl))
      (fun cl C fp s H=>jJ7 (jCZ yB (y6 jQZ (y6 jQW (pv 1) (pv 0)) kB) kB (jK _)))
      (fun cl C fp s H=>pv 0)) yT)))))
    jE4)
   (y9 (qX (i:=4) nd rfl (Or.inr rfl) (CT.pe hr rfl (kR (pv 0) (kR (pv 1) yT))))
   (y9 (qX (i:=5) nd rfl (Or.inr rfl) (y6 yG kB (CT.pe hr rfl (kR (pv 0) (kR kB yT)))))
   (y9 (qX (i:=6) nd rfl (Or.inl rfl) (y6 yG kB (CT.pe hr rfl (kR (pv 0) (kR (pe_ix jX (jH3 (kR kB (kR kB (kR kB yT)))) (y6 jD0 (pv 2) kB) (fun _ _=>rfl)) yT)))))
   (jAP (jCC (jBQ jA0 rfl T.tuple (by decide+kernel) (kR (jE6 (jDN rfl) rfl T.sorted (by decide+kernel) (kR (jBQ (jL9 rfl) rfl T.set (by decide+kernel) (kR
     (jGD (m:=[none,some 4,some 5,some 1]) (Nc:=["j","start","step","wide"]) rfl (jBP rfl T.range (kR (pv 6) yT)) rfl (by decide+kernel) (by decide+kernel) (yN (psc:=j9 sLot) (by decide+kernel))
      (kZ (N:=["pot","wide","way","number","start","step","size"]) rfl rfl (by decide+kernel))
      (fun cl C fp s H=>jE5 (i:=0) (show (["j","start","step","wide"]:List Str).Nodup by decide+kernel) rfl (Or.inl rfl))
      (fun cl C fp s H=>jJ8)
      (fun cl C fp s H=>y6 jFB (y6 yG (pv 1) (y6 jCE (pv 2) (pv 0))) (pv 3))) yT)) yT)) yT)))))))),?_⟩
  refine⟨_,rfl,p,N,4,rfl,hp,hN,by decide,by decide,fun N1 way b1 b2 b3=>?_⟩
  have hp1:∀ M,(upd H p (.lst [.int M])) p=some (.lst [.int M]):=fun _=>j8
  refine⟨_,rfl,rfl,_,rfl,?_⟩
  refine ite2 (fun _=>?_) (fun hw0=>?_)
  ·refine⟨_,rfl,_,rfl,_,_,rfl,rfl,⟨by omega,by omega,by decide⟩,_,_,rfl,rfl,p,N1,_,rfl,hp1 _,b1,by omega,by omega,fun N2 r2 c1 c2 c3=>⟨_,_,rfl,rfl,?_⟩⟩
   have hnum:1+r2<2 ^ w.toNat:=by omega
   refine⟨_,rfl,w,rfl,by omega,by omega,jCS (n:=w.toNat) (by rw[ai]; omega) (fun D i σ' H' ys=>(∃ v,σ'=[v,some (.int (1+r2))])/\ys=(bits (1+r2) i).map V.int/\H'=upd (upd (upd H p (.lst [.int N1])) p (.lst [.int N2])) D (.lst ys)) ?_ ?_ ?_ ?_⟩
   ·intro D hD
    exact⟨⟨_,rfl⟩,rfl,rfl⟩
   ·rintro D i σ' H' ys hD hi ⟨_,e1,e2⟩
    refine⟨by rw[e2]; exact j8,?_⟩
    rw[e1,af]
    unfold bits
    rw[af]
    exact aO (gF _ _) (by rw[cR]; exact ao _)
   ·rintro D i σ' H' ys hD hi ⟨⟨v,rfl⟩,rfl,rfl⟩
    refine⟨_,rfl,_,rfl,_,_,rfl,rfl,(by show (0:Int)<=0+(i:Int); omega),_,_,rfl,rfl,rfl,_,rfl,?_⟩
    have ei:(0+(i:Int)).toNat=i:=by omega
    refine ite2 (fun hb=>?_) (fun hb=>?_)
    ·have hb:Builtin.bitAnd ((1+r2) / 2 ^ i) 1=1:=by
      have:=aj hb
      rw[ei] at this
      exact V.int.inj this
     refine⟨_,rfl,j8,⟨_,rfl⟩,?_,jAC⟩
     rw[jFX,aA (ah hb),aS]
     congr 1
     show [V.int (0+(i:Int))]=[V.int (i:Int)]
     rw[Int.zero_add]
    ·have hb:¬ Builtin.bitAnd ((1+r2) / 2 ^ i) 1=1:=fun e=>hb (ah (by rw[ei]; exact bn V.int e))
     refine⟨⟨_,rfl⟩,?_,rfl⟩
     rw[jFX,aB (by simpa using hb),bL]
   ·rintro D σ' H' ys hD ⟨_,rfl,rfl⟩
    refine⟨D,_,rfl, .inl ⟨SqL.of j8,fun qq hqq=>?_⟩⟩
    obtain⟨n1,n2⟩:=yO hqq
    have pD:p≠D:=jD j8 hD
    have pq:p≠qq:=jD j8 n2
    exact q qq N2 (bits (1+r2) w.toNat) _ c1 (jN3 (by omega) (by omega) hnum) j8 (by rw[jG pq,jG pD,j8]) (((((Keep.refl H p).upd _).upd _).new hD _).new hqq _)
  ·have hway:1<=way:=by
    have:¬ way=0:=fun e=>hw0 (ah (by rw[e]))
    omega
   refine⟨_,rfl,_,rfl,p,N1,w,rfl,hp1 _,b1,by omega,by omega,fun N2 start c1 c2 c3=>?_⟩
   rw[jAC]
   refine⟨_,rfl,p,N2,3,rfl,hp1 _,c1,by decide,by decide,fun N3 st d1 d2 d3=>⟨_,_,rfl,rfl,?_⟩⟩
   rw[jAC]
   refine⟨_,rfl,(by show 3<=sizeLine; decide),fun l hl=>?_⟩
   have pl:p≠l:=jD (hp1 _) hl
   obtain⟨wd,hwd,e1,e2⟩:∃ wd:Int,atI [V.int 1,V.int 2,V.int 4] (way - 1)=some (.int wd)/\1<=wd/\wd<=4:=by
    rcases (show way=1\/way=2\/way=3 by omega) with e | e | e
    ·subst e; exact⟨1,rfl,by decide,by decide⟩
    ·subst e; exact⟨2,rfl,by decide,by decide⟩
    ·subst e; exact⟨4,rfl,by decide,by decide⟩
   refine⟨_,rfl,_,_,rfl,rfl,l,_,_,_,rfl,rfl,SqL.of j8,hwd,p,N3,wd,rfl,by rw[jG pl]; exact hp1 _,d1,by omega,by omega,fun N4 r4 g1 g2 g3=>⟨_,_,rfl,rfl,?_⟩⟩
   have kp:Keep H (upd (upd (upd H p (.lst [.int N3])) l (.lst [V.int 1,V.int 2,V.int 4])) p (.lst [.int N4])) p:=(((Keep.refl H p).upd _).new hl _).upd _
   have hp4:(upd (upd (upd H p (.lst [.int N3])) l (.lst [V.int 1,V.int 2,V.int 4])) p (.lst [.int N4])) p=some (.lst [.int N4]):=j8
   generalize (upd (upd (upd H p (.lst [.int N3])) l (.lst [V.int 1,V.int 2,V.int 4])) p (.lst [.int N4]))=H4 at kp hp4 ⊢
   refine⟨_,rfl,1+r4,rfl,by omega,by omega,jCS (n:=(1+r4).toNat) (by rw[ai]; omega) (fun D i σ' H' ys=>(∃ v,σ'=[v,some (.int start),some (.int (1+st)),some (.int w)])/\(∃ ns:List Int,ys=ns.map V.int/\ns.length=i/\∀ z∈ns,0<=z/\z<w)/\H'=upd H4 D (.lst ys)) ?_ ?_ ?_ ?_⟩
   ·intro D hD
    exact⟨⟨_,rfl⟩,⟨[],rfl,rfl,fun z hz=>by cases hz⟩,rfl⟩
   ·rintro D i σ' H' ys hD hi ⟨_,⟨ns,rfl,e,_⟩,rfl⟩
    exact⟨j8,by rw[af,e]; exact ao _⟩
   ·rintro D i σ' H' ys hD hi ⟨⟨v,rfl⟩,⟨ns,rfl,e,hb⟩,rfl⟩
    dsimp only [yF,qT]
    rw[aA rfl]
    refine⟨_,rfl,_,rfl,_,rfl,_,_,rfl,rfl, .inl ⟨by omega,by omega⟩,_,_,rfl,rfl,_,rfl,_,_,rfl,rfl,(by show 0<w; omega),j8,⟨_,rfl⟩,⟨ns++[(start+(1+st)*(0+(i:Int))) % w],by simp,by simp [e],fun z hz=>?_⟩,jAC⟩
    rcases bJ.mp hz with hz | hz
    ·exact hb z hz
    ·have:z=(start+(1+st)*(0+(i:Int))) % w:=by simpa using hz
     rw[this]
     exact⟨Int.emod_nonneg _ (by omega),g0 _ (by omega)⟩
   ·rintro D σ' H' ys hD ⟨_,⟨ns,rfl,e,hb⟩,rfl⟩
    refine⟨D,ns,rfl,SqL.of j8,by omega,fun z hz=>⟨(hb z hz).1,by have:=(hb z hz).2; omega⟩,fun l1 ks h11 hm1=>?_⟩
    refine⟨l1,ks,rfl,j8,fun l2 ms h12 srt hm2=>?_⟩
    refine⟨l2,_,rfl, .inl ⟨SqL.of j8,fun qq hqq=>?_⟩⟩
    have pD:p≠D:=jD hp4 hD
    have p1:p≠l1:=jD hp4 (yO h11).2
    have p2:p≠l2:=jD hp4 (yO (yO h12).2).2
    have pq:p≠qq:=jD hp4 (yO (yO (yO hqq).2).2).2
    refine q qq N4 ms _ g1 ⟨srt,fun z hz=>hb z ((hm1 z).mp ((hm2 z).mp hz)),fun z=>?_⟩ j8 (by rw[jG pq,jG p2,jG p1,jG pD]; exact hp4) ((((kp.new hD _).new h11 _).new h12 _).new hqq _)
    subst z
    cases ns with
    | nil=>simp at e; omega
    | cons x r=>
     have:=(hm2 x).mpr ((hm1 x).mpr am)
     cases this
end
structure Ris (w:Int)(ts:List Int):Prop where
 ris:ts.Pairwise (· < ·)
 bnd:∀ z∈ts,0<=z/\z<w
theorem Ris.nil (w:Int):Ris w []:=⟨.nil,fun z hz=>by cases hz⟩
theorem Ris.take {w:Int}{ts:List Int}(h:Ris w ts)(k:Nat):Ris w (ts.take k):=⟨h.ris.sublist (fq _ _),fun z hz=>h.bnd z (da hz)⟩
theorem Ris.drop {w:Int}{ts:List Int}(h:Ris w ts)(k:Nat):Ris w (ts.drop k):=⟨h.ris.sublist (List.drop_sublist _ _),fun z hz=>h.bnd z (cU hz)⟩
theorem Ris.snoc {i:Nat}{ts:List Int}(h:Ris i ts):Ris (i+1:Nat) (ts++[(i:Int)]):=by
 refine⟨gI.mpr ⟨h.ris,List.pairwise_singleton _ _,fun a ha b hb=>?_⟩,fun z hz=>?_⟩
 ·have:=(h.bnd a ha).2
  have e:b=i:=by simpa using hb
  omega
 ·rcases bJ.mp hz with q | q
  ·have:=h.bnd z q
   omega
  ·have e:z=i:=by simpa using q
   omega
theorem Ris.step {i:Nat}{ts:List Int}(h:Ris i ts):Ris (i+1:Nat) ts:=⟨h.ris,fun z hz=>by have:=h.bnd z hz; omega⟩
def upto (n:Nat):List Int:=(List.range n).map fun (i:Nat)=>(i:Int)
theorem jKQ (n:Nat):jDC n=(upto n).map V.int:=by
 unfold jDC upto
 rw[fb]
 rfl
theorem jLS (n:Nat):Ris n (upto n):=by
 refine⟨?_,fun z hz=>?_⟩
 ·unfold upto
  rw[List.pairwise_map]
  exact gm.imp fun h=>by omega
 ·unfold upto at hz
  obtain⟨t,ht,rfl⟩:=aP.mp hz
  have:=bR.mp ht
  omega
def Tups (H H':Hp):Prop:=∀ b xs,H b=some (.tup xs)->H' b=some (.tup xs)
theorem Tups.trans {H H1 H2:Hp}(a:Tups H H1)(b:Tups H1 H2):Tups H H2:=fun c o h=>b c o (a c o h)
theorem Keep.tups {H H':Hp}{p:Addr}{xs:List V}(k:Keep H H' p)(hp:H p=some (.lst xs)):Tups H H':=fun b ys hb=>k b _ hb fun e=>by
 subst e
 rw[hb] at hp
 cases hp
theorem Tups.upd {H:Hp}{p:Addr}{xs:List V}(hp:H p=some (.lst xs))(o:HO):Tups H (upd H p o):=fun b ys hb=>by
 rw[jG (fun e=>by subst e; rw[hb] at hp; cases hp)]
 exact hb
theorem Tups.new {H:Hp}{p:Addr}(hp:H p=none)(o:HO):Tups H (L2.upd H p o):=fun b ys hb=>by
 rw[jG (jD hb hp)]
 exact hb
def PcAt (H:Hp)(v:V)(pc:List Int×Int):Prop:=∃ a q,v= .ref a/\H a=some (.tup [.ref q, .int pc.2])/\H q=some (.tup (pc.1.map V.int))
def PcsAt (H:Hp):List V->List (List Int×Int)->Prop
 | [],[]=>True
 | v::vs,p::ps=>PcAt H v p/\PcsAt H vs ps
 | _,_=>False
theorem PcAt.mono {H H':Hp}{v:V}{pc:List Int×Int}(h:PcAt H v pc)(t:Tups H H'):PcAt H' v pc:=by
 obtain⟨a,q,rfl,h1,h2⟩:=h
 exact⟨a,q,rfl,t _ _ h1,t _ _ h2⟩
theorem PcsAt.mono {H H':Hp}(t:Tups H H'):∀ {vs:List V}{ps:List (List Int×Int)},PcsAt H vs ps->PcsAt H' vs ps
 | [],[],_=>trivial
 | _::_,_::_,h=>⟨h.1.mono t,PcsAt.mono t h.2⟩
 | [],_::_,h=>h.elim
 | _::_,[],h=>h.elim
theorem PcsAt.len {H:Hp} :∀ {vs:List V}{ps:List (List Int×Int)},PcsAt H vs ps->vs.length=ps.length
 | [],[],_=>rfl
 | _::_,_::_,h=>bn (· +1) (PcsAt.len h.2)
 | [],_::_,h=>h.elim
 | _::_,[],h=>h.elim
theorem PcsAt.put {H:Hp}{v:V}{p:List Int×Int}(hv:PcAt H v p):∀ (k:Nat) {vs:List V}{ps:List (List Int×Int)},PcsAt H vs ps->PcsAt H (vs.take k++v::vs.drop k) (ps.take k++p::ps.drop k)
 | 0,_,_,h=>⟨hv,h⟩
 | _+1,[],[],_=>⟨hv,trivial⟩
 | k+1,_::_,_::_,h=>⟨h.1,PcsAt.put hv k h.2⟩
 | _+1,[],_::_,h=>h.elim
 | _+1,_::_,[],h=>h.elim
structure GoodPc (w:Int)(pc:List Int×Int):Prop where
 lot:Lot w pc.1
 lo: -1000000000000<=pc.2
 hi:pc.2<=1000000000000
structure BoxAt (H:Hp)(b:Addr)(w:Int)(mays:List Int)(pcs:List (List Int×Int)):Prop where
 ex:∃ qm qp vs,H b=some (.tup [.int w, .ref qm, .ref qp])/\H qm=some (.tup (mays.map V.int))/\H qp=some (.tup vs)/\PcsAt H vs pcs
theorem BoxAt.mono {H H':Hp}{b:Addr}{w:Int}{mays:List Int}{pcs:List (List Int×Int)}(h:BoxAt H b w mays pcs)(t:Tups H H'):BoxAt H' b w mays pcs:=by
 obtain⟨qm,qp,vs,h1,h2,h3,h4⟩:=h.ex
 exact⟨qm,qp,vs,t _ _ h1,t _ _ h2,t _ _ h3,h4.mono t⟩
structure Good (mt mp:Int)(w:Int)(mays:List Int)(pcs:List (List Int×Int)):Prop where
 w0:0<=w
 w1:w<=mt
 mr:Ris w mays
 pl:(pcs.length:Int)<=mp
 pg:∀ pc∈pcs,GoodPc w pc
theorem Keep.updNew {H H1:Hp}{p l:Addr}(a:Keep H H1 p)(hl:H l=none)(o:HO):Keep H (L2.upd H1 l o) p:=fun c u h n=>by
 rw[jG (jD h hl)]
 exact a c u h n
section
variable {P:Program}{w:World}{K:W.Frag}{mg:Str->Option Value}{base:Heap}
def spBox:Sp:=fun vs H Q _=>∃ (p:Addr) (N mt mp:Int),vs=[.ref p, .int mt, .int mp]/\H p=some (.lst [.int N])/\0<=N/\0<=mt/\mt<=16/\0<=mp/\mp<=32/\
 ∀ (b:Addr) (N' w:Int) (mays:List Int) (pcs:List (List Int×Int)) (H':Hp),0<=N'->H' p=some (.lst [.int N'])->BoxAt H' b w mays pcs->Good mt mp w mays pcs->Keep H H' p->Q (.ref b) H'
noncomputable abbrev nBox:List Str:=["pot","most_things","most_pieces","wide","mays","left","far","pieces","k","size","things"]
theorem scBox:FnScope nBox ["pot","most_things","most_pieces"] (j9 sBox):=⟨rfl,rfl,rfl,by decide+kernel,rfl,by decide+kernel,by decide+kernel⟩
end
section
variable {P:Program}{w:World}{K:W.Frag}{mg:Str->Option Value}{base:Heap}
abbrev XBox (P:Program)(w:World)(K:W.Frag)(mg:Str->Option Value)(base:Heap)(f:Addr)(cdv:Value)(A:Around)(outer:List Env)(s:Shared)(H:Hp)(E:XK):Cx:=(cxOf CX0 P w K mg base nBox "_law_box" (j9 sBox) f cdv A outer s H E).nox
def jFI:Stmt->List Stmt
 | .For _ _ b _ _=>b
 | _=> []
def boxI {f fT fL:Addr}{fdT fdL:FuncData}{cdv:Value}{A:Around}{outer:List Env}{s:Shared}{H:Hp}{E:XK}(T:Txt mg)(CT:Can P w K mg base "_law_take" 1 fT fdT ["pot","wide"] yS)(CL:Can P w K mg base "_law_lot" 2 fL fdL ["pot","wide"] xA)(hr:Room 2 (XBox P w K mg base f cdv A outer s H E).A): { t:TS // JSs (XBox P w K mg base f cdv A outer s H E) ((jFI ((jE sBox).getD 7 (.Pass ⟨0,0,0,0⟩))).drop 4) t} :=
 have nd:=scBox.nd
 ⟨_,(jF (jGL (qY gi PySem.F.slot_list_insert PySem.F.type_list_insert jK6 (jv 7 rfl vL) (j4 (CT.je (hr.mono (by decide)) gD (j4 (jv 0 rfl vC) (j4 (kQ yG (jH jP gD T.len (by decide+kernel) (j4 (jv 7 rfl vL) j7 j6) j6) (jC)) j7 qI) j6) j6) (j4 (jDV (j4 (jv 10 rfl vL) (j4 (kQ jD0 (CT.je (hr.mono (by decide)) gD (j4 (jv 0 rfl vC) (j4 (jv 6 rfl vL) j7 j6) j6) j6) (kQ jH5 (jv 6 rfl vL) (jC))) j7 qI) j6)) j7 jBO) jS) jS) kD))⟩
def boxL {f fT fL:Addr}{fdT fdL:FuncData}{cdv:Value}{A:Around}{outer:List Env}{s:Shared}{H:Hp}{E:XK}(T:Txt mg)(CT:Can P w K mg base "_law_take" 1 fT fdT ["pot","wide"] yS)(CL:Can P w K mg base "_law_lot" 2 fL fdL ["pot","wide"] xA)(hr:Room 2 (XBox P w K mg base f cdv A outer s H E).A): { t:TS // JSs (XBox P w K mg base f cdv A outer s H E) (jFI ((jE sBox).getD 7 (.Pass ⟨0,0,0,0⟩))) t} :=
 have nd:=scBox.nd
 ⟨_,(jA (jR (i:=9) nd rfl lL (kQ yG (jC) (CT.je (hr.mono (by decide)) gD (j4 (jv 0 rfl vC) (j4 (jC) j7 jB) j6) j6)) qU)
   (jA (jR (i:=10) nd rfl lL (kL jA0 gD T.tuple (by decide+kernel) (j4 (kG yX (jv 5 rfl vL) y0 (kT (jv 9 rfl vL))) j7 jO) jO) kD)
   (jA (jR (i:=5) nd rfl lL (kG yX (jv 5 rfl vL) (kT (jv 9 rfl vL)) y0) jCU)
   (jA (jZ (jI (jNJ hr.units0) (jv 10 rfl vL) (jDV j7) (jK _)) (jF (jR (i:=10) nd rfl lL (CL.je hr gD (j4 (jv 0 rfl vC) (j4 (jv 3 rfl vL) j7 j6) j6) j6) kD)) jL)
   (boxI T CT CL hr).2))))⟩
def boxC {f fT fL:Addr}{fdT fdL:FuncData}{cdv:Value}{A:Around}{outer:List Env}{s:Shared}{H:Hp}{E:XK}(T:Txt mg)(CT:Can P w K mg base "_law_take" 1 fT fdT ["pot","wide"] yS)(CL:Can P w K mg base "_law_lot" 2 fL fdL ["pot","wide"] xA)(hr:Room 2 (XBox P w K mg base f cdv A outer s H E).A): { t:TS // JSs (XBox P w K mg base f cdv A outer s H E) ((jE sBox).drop 5) t} :=
 have nd:=scBox.nd
 ⟨_,(jA (jR (i:=6) nd rfl lL (jW jX (jFN (j4 (jC) (j4 (jC) (j4 (jRJ) j7 qI) jB) jB)) (CT.je (hr.mono (by decide)) gD (j4 (jv 0 rfl vC) (j4 (jC) j7 jB) j6) j6) jBC) jCU)
   (jA (jR (i:=7) nd rfl lL (jFN j7) jEX)
   (jA (jDU cL rfl (jDA gD T.range (j4 (kQ jCE (CT.je (hr.mono (by decide)) gD (j4 (jv 0 rfl vC) (j4 (kQ yG (jv 2 rfl vL) (jC)) j7 qI) j6) j6) (kL jLC gD T.int (by decide+kernel) (j4 (yV op_gt (jv 3 rfl vL) (jC) (jK _)) j7 jNC) jNC)) j7 qI) qI) (kU (i:=8) nd rfl lL) (boxL T CT CL hr).2 jAI)
   (jF (jN (jDV (j4 (jv 3 rfl vL) (j4 (jv 4 rfl vL) (j4 (kL jA0 gD T.tuple (by decide+kernel) (j4 (jv 7 rfl vL) j7 j6) j6) j7 jS) j6) j6)))))))⟩
def boxB {f fT fL:Addr}{fdT fdL:FuncData}{cdv:Value}{A:Around}{outer:List Env}{s:Shared}{H:Hp}{E:XK}(T:Txt mg)(CT:Can P w K mg base "_law_take" 1 fT fdT ["pot","wide"] yS)(CL:Can P w K mg base "_law_lot" 2 fL fdL ["pot","wide"] xA)(hr:Room 2 (XBox P w K mg base f cdv A outer s H E).A): { t:TS // JSs (XBox P w K mg base f cdv A outer s H E) ((jE sBox).drop 3) t} :=
 have nd:=scBox.nd
 ⟨_,(jA (jR (i:=5) nd rfl lL (kL (jFT rfl) gD T.list (by decide+kernel) (j4 (kL jGQ gD T.range (by decide+kernel) (j4 (jv 3 rfl vL) j7 j6) j6) j7 jS) jS) kD)
   (jA (jZ (jI yB (CT.je (hr.mono (by decide)) gD (j4 (jv 0 rfl vC) (j4 (jC) j7 jB) j6) j6) (jC) (jK _)) (jF (jR (i:=5) nd rfl lL (jFN j7) jEX)) jL)
   (boxC T CT CL hr).2))⟩
def boxA {f fT fL:Addr}{fdT fdL:FuncData}{cdv:Value}{A:Around}{outer:List Env}{s:Shared}{H:Hp}{E:XK}(T:Txt mg)(CT:Can P w K mg base "_law_take" 1 fT fdT ["pot","wide"] yS)(CL:Can P w K mg base "_law_lot" 2 fL fdL ["pot","wide"] xA)(hr:Room 2 (XBox P w K mg base f cdv A outer s H E).A): { t:TS // JSs (XBox P w K mg base f cdv A outer s H E) (jE sBox) t} :=
 have nd:=scBox.nd
 ⟨_,(jA (jR (i:=3) nd rfl lL (CT.je (hr.mono (by decide)) gD (j4 (jv 0 rfl vC) (j4 (kQ yG (jv 1 rfl vL) (jC)) j7 qI) j6) j6) kD)
   (jA (jR (i:=4) nd rfl lL (jDV j7) jIR)
   (jA (jZ (jI yB (CT.je (hr.mono (by decide)) gD (j4 (jv 0 rfl vC) (j4 (jC) j7 jB) j6) j6) (jC) (jK _)) (jF (jR (i:=4) nd rfl lL (kL jA0 gD T.tuple (by decide+kernel) (j4 (yZ (m:=[none,some 0]) (Nc:=["t","pot"]) rfl (jDA gD T.range (j4 (jv 3 rfl vL) j7 j6) j6) rfl (by decide+kernel) (by decide+kernel) (yN (psc:=j9 sBox) (by decide+kernel)) (kZ (N:=nBox) rfl rfl (by decide+kernel)) (fun cl C fp s H=>kU (i:=0) (show (["t","pot"]:List Str).Nodup by decide+kernel) rfl (xB (by decide+kernel))) (fun cl C fp s H=>jKF (jI yB (CT.je (hr.mono (by decide)) (gl_b (by decide+kernel)) (j4 (jv 1 rfl (jER (by decide+kernel))) (j4 (jC) j7 jB) j6) j6) (jC) (jK _))) (fun cl C fp s H=>(jv 0 rfl (yR (by decide+kernel)))) jAI) j7 kW) kW) kD)) jL)
   (boxB T CT CL hr).2)))⟩
end
structure St0 (H H2:Hp)(p:Addr)(w:Int)(qm ql:Addr)(mays lf:List Int)(N:Int):Prop where
 hp:H2 p=some (.lst [.int N])
 hN:0<=N
 hm:H2 qm=some (.tup (mays.map V.int))
 rm:Ris w mays
 hl:H2 ql=some (.lst (lf.map V.int))
 rl:Ris w lf
 ne:ql≠p
 kp:Keep H H2 p
theorem St0.step {H H2 H3:Hp}{p:Addr}{w:Int}{qm ql:Addr}{mays lf:List Int}{N N':Int}(S:St0 H H2 p w qm ql mays lf N)(k:Keep H2 H3 p)(hp:H3 p=some (.lst [.int N']))(hN:0<=N'):St0 H H3 p w qm ql mays lf N':=
 ⟨hp,hN,k qm _ S.hm (ne_of S.hm S.hp (by intro z; cases z)),S.rm,k ql _ S.hl S.ne,S.rl,S.ne,S.kp.trans k⟩
theorem jL4 {w:Int}{lf:List Int}(h:Ris w lf)(lo hi:Option Int):∃ l',cutV (lf.map V.int) lo hi=l'.map V.int/\Ris w l':=by
 refine⟨(lf.drop (HT.sIx lf.length 0 lo)).take (HT.sIx lf.length lf.length hi - HT.sIx lf.length 0 lo),?_,(h.drop _).take _⟩
 unfold cutV
 rw[af,List.map_take,List.map_drop]
section
variable {P:Program}{w:World}{K:W.Frag}{mg:Str->Option Value}{base:Heap}
variable {f fT fL:Addr}{fdT fdL:FuncData}{cdv:Value}{A:Around}{outer:List Env}{s:Shared}{H0:Hp}{E:XK}
theorem jFU (T:Txt mg)(CT:Can P w K mg base "_law_take" 1 fT fdT ["pot","wide"] yS)(CL:Can P w K mg base "_law_lot" 2 fL fdL ["pot","wide"] xA)(hr:Room 2 (XBox P w K mg base f cdv A outer s H0 E).A)
  {D:Ends}{H H5:Hp}{p qm ql qp qt:Addr}{mt mp w N far:Int}{mays lf ts:List Int}{vs:List V}{pcs:List (List Int×Int)}{v8 v9:Option V}
  (S:St0 H H5 p w qm ql mays lf N) (hqp:H5 qp=some (.lst vs)) (hv:PcsAt H5 vs pcs) (hg:∀ pc∈pcs,GoodPc w pc) (hqt:H5 qt=some (.tup (ts.map V.int))) (lt:Lot w ts) (hf:far=1\/far=10\/far=2000000000001) (hn:pcs.length<=100) (hH:H qp=none) (hne:ql≠qp) (hpp:p≠qp)
  (nx:∀ H6 N' vs' pcs',St0 H H6 p w qm ql mays lf N'->H6 qp=some (.lst vs')->PcsAt H6 vs' pcs'->(∀ pc∈pcs',GoodPc w pc)->pcs'.length=pcs.length+1->D.nx [some (.ref p),some (.int mt),some (.int mp),some (.int w),some (.ref qm),some (.ref ql),some (.int far),some (.ref qp),v8,v9,some (.ref qt)] H6):
  (boxI T CT CL hr).1 D [some (.ref p),some (.int mt),some (.int mp),some (.int w),some (.ref qm),some (.ref ql),some (.int far),some (.ref qp),v8,v9,some (.ref qt)] H5:=by
 have hlen:=hv.len
 have h64:(0:Int)<far/\far<2 ^ 64:=by rcases hf with e | e | e <;> subst e <;> decide
 refine⟨_,rfl, .inl ⟨rfl,_,SqL.of hqp⟩,_,rfl,_,rfl,qp,vs,rfl, .inl (SqL.of hqp),_,_,rfl,rfl,p,N,_,rfl,S.hp,S.hN,by omega,by omega,fun N1 i a1 a2 a3=>?_⟩
 refine⟨_,rfl,_,rfl,_,rfl,p,N1,far,rfl,j8,a1,h64.1,h64.2,fun N2 r b1 b2 b3=>?_⟩
 rw[jAC]
 refine⟨_,rfl,_,_,rfl,rfl,⟨by decide,by decide⟩,_,_,rfl,rfl,(by show 2<=sizeLine; decide),fun tq htq=>?_⟩
 obtain⟨t1,t2⟩:=yO htq
 have ht:tq≠qp:=fun e=>by subst e; rw[hqp] at t2; cases t2
 refine⟨qp,vs,i,_,rfl,rfl,by rw[jG ht.symm,jG hpp.symm]; exact hqp,a2,by omega,by rw[ai]; omega,?_⟩
 have T1:Tups H5 (upd (upd H5 p (.lst [.int N2])) tq (.tup [.ref qt, .int (r - far / 2)])):=(Tups.upd S.hp _).trans (Tups.new htq _)
 have k1:Keep H5 (upd (upd H5 p (.lst [.int N2])) tq (.tup [.ref qt, .int (r - far / 2)])) p:=((Keep.refl _ _).upd _).new htq _
 have S1:=S.step k1 (by rw[jG t1.symm]; exact j8) b1
 have hq1:(upd (upd H5 p (.lst [.int N2])) tq (.tup [.ref qt, .int (r - far / 2)])) qp=some (.lst vs):=by rw[jG ht.symm,jG hpp.symm]; exact hqp
 have T2:=T1.trans (Tups.upd hq1 (.lst (vs.take i.toNat++V.ref tq::vs.drop i.toNat)))
 have pc:PcAt (upd (upd H5 p (.lst [.int N2])) tq (.tup [.ref qt, .int (r - far / 2)])) (.ref tq) (ts,r - far / 2):=⟨tq,qt,rfl,j8,T1 _ _ hqt⟩
 refine nx _ N2 _ (pcs.take i.toNat++(ts,r - far / 2)::pcs.drop i.toNat) ⟨?_,b1,?_,S.rm,?_,S.rl,S.ne,S1.kp.updNew hH _⟩ j8 ?_ ?_ ?_
 ·rw[jG hpp]; exact S1.hp
 ·exact(Tups.upd hq1 _) _ _ S1.hm
 ·rw[jG hne]; exact S1.hl
 ·exact PcsAt.put (pc.mono (Tups.upd hq1 _)) _ (hv.mono T2)
 ·intro c hc
  rcases bJ.mp hc with h | h
  ·exact hg c (da h)
  ·rcases av.mp h with h | h
   ·subst h
    refine⟨lt,?_,?_⟩
    ·show -1000000000000<=r - far / 2
     rcases hf with e | e | e <;> subst e <;> omega
    ·show r - far / 2<=1000000000000
     rcases hf with e | e | e <;> subst e <;> omega
   ·exact hg c (cU h)
 ·rw[aI,aC,bb,bW]
  omega
end
section
variable {P:Program}{w:World}{K:W.Frag}{mg:Str->Option Value}{base:Heap}
variable {f fT fL:Addr}{fdT fdL:FuncData}{cdv:Value}{A:Around}{outer:List Env}{s:Shared}{H0:Hp}{E:XK}
theorem jLG (T:Txt mg)(CT:Can P w K mg base "_law_take" 1 fT fdT ["pot","wide"] yS)(CL:Can P w K mg base "_law_lot" 2 fL fdL ["pot","wide"] xA)(hr:Room 2 (XBox P w K mg base f cdv A outer s H0 E).A)
  {D:Ends}{H H5:Hp}{p qm ql qp:Addr}{mt mp w N far:Int}{mays lf:List Int}{vs:List V}{pcs:List (List Int×Int)}{v8 v9 v10:Option V}
  (S:St0 H H5 p w qm ql mays lf N) (hqp:H5 qp=some (.lst vs)) (hv:PcsAt H5 vs pcs) (hg:∀ pc∈pcs,GoodPc w pc) (hf:far=1\/far=10\/far=2000000000001) (hn:pcs.length<=100) (hH:H qp=none) (hpp:p≠qp) (w1:1<=w) (w2:w<=16)
  (nx:∀ H6 N' vs' pcs' ql' lf' v9' v10',St0 H H6 p w qm ql' mays lf' N'->ql'≠qp->H6 qp=some (.lst vs')->PcsAt H6 vs' pcs'->(∀ pc∈pcs',GoodPc w pc)->pcs'.length=pcs.length+1->D.nx [some (.ref p),some (.int mt),some (.int mp),some (.int w),some (.ref qm),some (.ref ql'),some (.int far),some (.ref qp),v8,v9',v10'] H6):
  (boxL T CT CL hr).1 D [some (.ref p),some (.int mt),some (.int mp),some (.int w),some (.ref qm),some (.ref ql),some (.int far),some (.ref qp),v8,v9,v10] H5:=by
 refine⟨_,rfl,p,N,3,rfl,S.hp,S.hN,by decide,by decide,fun N1 r1 a1 a2 a3=>⟨_,_,rfl,rfl,?_⟩⟩
 have S1:=S.step ((Keep.refl _ _).upd (.lst [.int N1])) j8 a1
 have hq1:(upd H5 p (.lst [.int N1])) qp=some (.lst vs):=by rw[jG hpp.symm]; exact hqp
 have hv1:=hv.mono (Tups.upd S.hp (.lst [.int N1]))
 generalize upd H5 p (.lst [.int N1])=H6 at S1 hq1 hv1 ⊢
 clear S hqp hv
 obtain⟨l1,e1,g1⟩:=jL4 S1.rl none (some (1+r1))
 obtain⟨l2,e2,g2⟩:=jL4 S1.rl (some (1+r1)) none
 refine⟨_,rfl,_,rfl,1+r1,rfl,ql,_,rfl,SqL.of S1.hl,fun x hx=>⟨x,_,rfl, .inl ⟨SqL.of j8,fun qt hqt=>?_⟩⟩⟩
 rw[e1] at hqt ⊢
 have k1:Keep H6 (upd (upd H6 x (.lst (l1.map V.int))) qt (.tup (l1.map V.int))) p:=((Keep.refl _ _).new hx _).new hqt _
 obtain⟨t1,t2⟩:=yO hqt
 have px:p≠x:=jD S1.hp hx
 have pt:p≠qt:=jD S1.hp t2
 have qx:qp≠x:=jD hq1 hx
 have qq:qp≠qt:=jD hq1 t2
 have S2:=S1.step k1 (by rw[jG pt,jG px]; exact S1.hp) S1.hN
 have hq2:(upd (upd H6 x (.lst (l1.map V.int))) qt (.tup (l1.map V.int))) qp=some (.lst vs):=by rw[jG qq,jG qx]; exact hq1
 have hv2:=hv1.mono (k1.tups S1.hp)
 have ht2:(upd (upd H6 x (.lst (l1.map V.int))) qt (.tup (l1.map V.int))) qt=some (.tup (l1.map V.int)):=j8
 generalize upd (upd H6 x (.lst (l1.map V.int))) qt (.tup (l1.map V.int))=H7 at S2 hq2 hv2 ht2 ⊢
 clear k1 hqt t2 hx S1 hq1 hv1
 refine⟨_,rfl,_,rfl,1+r1,rfl,ql,_,rfl,SqL.of S2.hl,fun ql' hql=>?_⟩
 rw[e2]
 have pl:p≠ql':=jD S2.hp hql
 have k2:Keep H7 (upd H7 ql' (.lst (l2.map V.int))) p:=(Keep.refl _ _).new hql _
 have S3':=S2.step k2 (by rw[jG pl]; exact S2.hp) S2.hN
 have S3:St0 H (upd H7 ql' (.lst (l2.map V.int))) p w qm ql' mays l2 N1:=⟨S3'.hp,S3'.hN,S3'.hm,S3'.rm,j8,g2,pl.symm,S3'.kp⟩
 have hne:qp≠ql':=jD hq2 hql
 have hq3:(upd H7 ql' (.lst (l2.map V.int))) qp=some (.lst vs):=by rw[jG hne]; exact hq2
 have hv3:=hv2.mono (k2.tups S2.hp)
 have ht3:=k2.tups S2.hp _ _ ht2
 generalize upd H7 ql' (.lst (l2.map V.int))=H8 at S3 hq3 hv3 ht3 ⊢
 clear k2 S3' S2 hq2 hv2 ht2 hql
 refine⟨_,rfl,(by show 0<=sizeLine; exact aJ _),fun z hz=>⟨qt,z,l1.map V.int,rfl,rfl,SqT.of ?_,SqT.of j8,_,rfl,?_⟩⟩
 ·rw[jG (jD ht3 hz)]; exact ht3
 have pz:p≠z:=jD S3.hp hz
 have qz:qp≠z:=jD hq3 hz
 have k3:Keep H8 (upd H8 z (.tup [])) p:=(Keep.refl _ _).new hz _
 have S4:=S3.step k3 (by rw[jG pz]; exact S3.hp) S3.hN
 have hq4:(upd H8 z (.tup [])) qp=some (.lst vs):=by rw[jG qz]; exact hq3
 have hv4:=hv3.mono (k3.tups S3.hp)
 have ht4:=k3.tups S3.hp _ _ ht3
 generalize upd H8 z (.tup [])=H9 at S4 hq4 hv4 ht4 ⊢
 clear k3 S3 hq3 hv3 ht3 hz pz qz
 refine ite2 (fun hy=>?_) (fun hy=>?_)
 ·refine⟨_,rfl,_,rfl,p,N1,w,rfl,S4.hp,S4.hN,w1,w2,fun q N2 ts H' b1 lt b2 b3 b4=>?_⟩
  exact jFU T CT CL hr (S4.step b4 b3 b1) (b4 _ _ hq4 hpp.symm) (hv4.mono (b4.tups S4.hp)) hg b2 lt hf hn hH hne.symm hpp fun H6 N' vs' pcs' z1 z2 z3 z4 z5=>nx H6 N' vs' pcs' ql' l2 _ _ z1 hne.symm z2 z3 z4 z5
 ·have nl:l1≠ []:=fun e=>hy (ah (by rw[e]; rfl))
  exact jFU T CT CL hr S4 hq4 hv4 hg ht4 ⟨g1.ris,g1.bnd,nl⟩ hf hn hH hne.symm hpp fun H6 N' vs' pcs' z1 z2 z3 z4 z5=>nx H6 N' vs' pcs' ql' l2 _ _ z1 hne.symm z2 z3 z4 z5
end
section
variable {P:Program}{w:World}{K:W.Frag}{mg:Str->Option Value}{base:Heap}
variable {f fT fL:Addr}{fdT fdL:FuncData}{cdv:Value}{A:Around}{outer:List Env}{s:Shared}{H0:Hp}{E:XK}
def Told (H:Hp)(p:Addr)(mt mp:Int)(R:VK):Prop:=∀ (b:Addr) (N' w:Int) (mays:List Int) (pcs:List (List Int×Int)) (H':Hp),0<=N'->H' p=some (.lst [.int N'])->BoxAt H' b w mays pcs->Good mt mp w mays pcs->Keep H H' p->R (.ref b) H'
theorem jFV (T:Txt mg)(CT:Can P w K mg base "_law_take" 1 fT fdT ["pot","wide"] yS)(CL:Can P w K mg base "_law_lot" 2 fL fdL ["pot","wide"] xA)(hr:Room 2 (XBox P w K mg base f cdv A outer s H0 E).A)
  {D:Ends}{H H5:Hp}{p qm ql:Addr}{mt mp w N:Int}{mays lf:List Int}{v6 v7 v8 v9 v10:Option V}
  (S:St0 H H5 p w qm ql mays lf N) (hpH:∃ o,H p=some o) (w0:0<=w) (w1:w<=mt) (w2:mt<=16) (n0:0<=mp) (n1:mp<=32) (q:Told H p mt mp D.rt):
  (boxC T CT CL hr).1 D [some (.ref p),some (.int mt),some (.int mp),some (.int w),some (.ref qm),some (.ref ql),v6,v7,v8,v9,v10] H5:=by
 refine⟨(by show 3<=sizeLine; decide),fun l hl=>?_⟩
 have pl:p≠l:=jD S.hp hl
 refine⟨_,rfl,p,N,3,rfl,by rw[jG pl]; exact S.hp,S.hN,by decide,by decide,fun N1 r a1 a2 a3=>?_⟩
 obtain⟨far,hfar,hf⟩:∃ far:Int,atI [V.int 1,V.int 10,V.int 2000000000001] r=some (.int far)/\(far=1\/far=10\/far=2000000000001):=by
  rcases (show r=0\/r=1\/r=2 by omega) with e | e | e
  ·subst e; exact⟨_,rfl, .inl rfl⟩
  ·subst e; exact⟨_,rfl, .inr (.inl rfl)⟩
  ·subst e; exact⟨_,rfl, .inr (.inr rfl)⟩
 refine⟨l,_,r,_,rfl,rfl,SqL.of (by rw[jG pl.symm]; exact j8),hfar,?_⟩
 have S1:=S.step ((((Keep.refl _ _).new hl (.lst [V.int 1,V.int 10,V.int 2000000000001])).upd (.lst [.int N1]))) j8 a1
 generalize upd (upd H5 l (.lst [V.int 1,V.int 10,V.int 2000000000001])) p (.lst [.int N1])=H6 at S1 ⊢
 clear hl S
 refine⟨(by show 0<=sizeLine; exact aJ _),fun qp hqp=>?_⟩
 have pq:p≠qp:=jD S1.hp hqp
 have hHq:H qp=none:=by
  cases e:H qp with
  | none=>rfl
  | some o=>
   have:=S1.kp _ _ e pq.symm
   rw[hqp] at this
   cases this
 have lq:ql≠qp:=jD S1.hl hqp
 have S2:=S1.step ((Keep.refl _ _).new hqp (.lst [])) (by rw[jG pq]; exact S1.hp) S1.hN
 have hq2:(upd H6 qp (.lst [])) qp=some (.lst []):=j8
 generalize upd H6 qp (.lst [])=H7 at S2 hq2 ⊢
 clear hqp S1
 refine⟨_,rfl,_,rfl,_,_,rfl,rfl,p,N1,_,rfl,S2.hp,S2.hN,by omega,by omega,fun N2 n b1 b2 b3=>?_⟩
 refine⟨_,rfl,_,_,rfl,rfl, .inr ⟨_,rfl,_,_,rfl,rfl, .inl ⟨by omega,by omega⟩,_,rfl,?_⟩⟩
 have S3:=S2.step ((Keep.refl _ _).upd (.lst [.int N2])) j8 b1
 have hq3:(upd H7 p (.lst [.int N2])) qp=some (.lst []):=by rw[jG pq.symm]; exact hq2
 generalize upd H7 p (.lst [.int N2])=H8 at S3 hq3 ⊢
 clear S2 hq2
 obtain⟨m,em,hm,hw⟩:∃ m:Int,n*(if decide (0<w)=true then 1 else 0)=m/\(0<=m/\m<=mp)/\(0<m->1<=w):=by
  by_cases h:0<w
  ·exact⟨n,by simp [h],⟨b2,by omega⟩,fun _=>h⟩
  ·exact⟨0,by simp [h],⟨by omega,n0⟩,fun z=>by omega⟩
 show _/\_/\_
 rw[show (n*(if decide (0<w)=true then 1 else 0))=m from em]
 refine⟨by omega,by omega,jAX (n:=m.toNat) (fun i σ H5=>∃ ql' lf' N' vs pcs v8 v9 v10,σ=[some (.ref p),some (.int mt),some (.int mp),some (.int w),some (.ref qm),some (.ref ql'),some (.int far),some (.ref qp),v8,v9,v10]/\St0 H H5 p w qm ql' mays lf' N'/\ql'≠qp/\H5 qp=some (.lst vs)/\PcsAt H5 vs pcs/\(∀ pc∈pcs,GoodPc w pc)/\pcs.length=i) ?_ ?_ ?_⟩
 ·exact⟨ql,lf,N2,[],[],_,_,_,rfl,S3,lq,hq3,trivial,(fun _ h=>by cases h),rfl⟩
 ·rintro i σ H9 hi ⟨ql',lf',N',vs,pcs,x8,x9,x10,rfl,S4,l4,hq4,hv4,hg4,e4⟩
  exact jLG T CT CL hr S4 hq4 hv4 hg4 hf (by omega) hHq pq (hw (by omega)) (by omega) fun H6 N' vs' pcs' ql' lf' v9' v10' z1 z2 z3 z4 z5 z6=>⟨ql',lf',N',vs',pcs',_,_,_,rfl,z1,z2,z3,z4,z5,by omega⟩
 ·rintro σ H9 ⟨ql',lf',N',vs,pcs,x8,x9,x10,rfl,S4,l4,hq4,hv4,hg4,e4⟩
  refine⟨_,rfl,_,rfl,_,rfl,qp,vs,rfl, .inl ⟨SqL.of hq4,fun tq htq=>⟨(by show 3<=sizeLine; decide),fun b hb=>?_⟩⟩⟩
  have k1:Keep H9 (upd H9 tq (.tup vs)) p:=(Keep.refl _ _).new htq _
  have k2:Keep H9 (upd (upd H9 tq (.tup vs)) b (.tup [.int w, .ref qm, .ref tq])) p:=k1.new hb _
  have tb:=jD j8 hb
  have S5:=S4.step k2 (by rw[jG (yO hb |>.2 |> fun h=>jD S4.hp h),jG (jD S4.hp htq)]; exact S4.hp) S4.hN
  exact q b N' w mays pcs _ S4.hN S5.hp ⟨qm,tq,vs,j8,S5.hm,by rw[jG tb]; exact j8,hv4.mono (k2.tups S4.hp)⟩ ⟨w0,w1,S4.rm,by omega,hg4⟩ S5.kp
end
section
variable {P:Program}{w:World}{K:W.Frag}{mg:Str->Option Value}{base:Heap}
section
variable {f fT fL:Addr}{fdT fdL:FuncData}{cdv:Value}{A:Around}{outer:List Env}{s:Shared}{H0:Hp}{E:XK}
theorem jFW (T:Txt mg)(CT:Can P w K mg base "_law_take" 1 fT fdT ["pot","wide"] yS)(CL:Can P w K mg base "_law_lot" 2 fL fdL ["pot","wide"] xA)(hr:Room 2 (XBox P w K mg base f cdv A outer s H0 E).A)
  {D:Ends}{H H5:Hp}{p qm:Addr}{mt mp w N:Int}{mays:List Int}{v5 v6 v7 v8 v9 v10:Option V}
  (hp:H5 p=some (.lst [.int N])) (hN:0<=N) (hm:H5 qm=some (.tup (mays.map V.int))) (rm:Ris w mays) (kp:Keep H H5 p) (hpH:∃ o,H p=some o) (w0:0<=w) (w1:w<=mt) (w2:mt<=16) (n0:0<=mp) (n1:mp<=32) (q:Told H p mt mp D.rt):
  (boxB T CT CL hr).1 D [some (.ref p),some (.int mt),some (.int mp),some (.int w),some (.ref qm),v5,v6,v7,v8,v9,v10] H5:=by
 refine⟨_,rfl,w,rfl,fun x hx=>⟨x,w,rfl,j8,w0,by omega,fun ql hql=>?_⟩⟩
 rw[jKQ]
 have px:p≠x:=jD hp hx
 have pl:p≠ql:=jD hp (yO hql).2
 have k1:Keep H5 (upd (upd H5 x (.rng 0 w)) ql (.lst ((upto w.toNat).map V.int))) p:=((Keep.refl _ _).new hx _).new hql _
 have e:((w.toNat:Nat):Int)=w:=by omega
 have rl:Ris w (upto w.toNat):=by
  have:=jLS w.toNat
  rw[e] at this
  exact this
 have S:St0 H (upd (upd H5 x (.rng 0 w)) ql (.lst ((upto w.toNat).map V.int))) p w qm ql mays (upto w.toNat) N:=
  ⟨by rw[jG pl,jG px]; exact hp,hN,k1 qm _ hm (ne_of hm hp (by intro z; cases z)),rm,j8,rl,pl.symm,kp.trans k1⟩
 generalize upd (upd H5 x (.rng 0 w)) ql (.lst ((upto w.toNat).map V.int))=H6 at S ⊢
 clear k1 hql hx hp hm kp
 refine⟨_,rfl,p,N,3,rfl,S.hp,S.hN,by decide,by decide,fun N1 r a1 a2 a3=>⟨rfl,_,rfl,?_⟩⟩
 have S1:=S.step ((Keep.refl _ _).upd (.lst [.int N1])) j8 a1
 generalize upd H6 p (.lst [.int N1])=H7 at S1 ⊢
 clear S
 refine ite2 (fun hy=>?_) (fun hy=>?_)
 ·refine⟨(by show 0<=sizeLine; exact aJ _),fun l hl=>?_⟩
  have pl2:p≠l:=jD S1.hp hl
  have S2:=S1.step ((Keep.refl _ _).new hl (.lst [])) (by rw[jG pl2]; exact S1.hp) S1.hN
  have S3:St0 H (upd H7 l (.lst [])) p w qm l mays [] N1:=⟨S2.hp,S2.hN,S2.hm,S2.rm,j8,Ris.nil w,pl2.symm,S2.kp⟩
  exact jFV T CT CL hr S3 hpH w0 w1 w2 n0 n1 q
 ·exact jFV T CT CL hr S1 hpH w0 w1 w2 n0 n1 q
theorem jLH (T:Txt mg)(CT:Can P w K mg base "_law_take" 1 fT fdT ["pot","wide"] yS)(CL:Can P w K mg base "_law_lot" 2 fL fdL ["pot","wide"] xA)(hr:Room 2 (XBox P w K mg base f cdv A outer s H0 E).A)
  {D:Ends}{H:Hp}{p:Addr}{mt mp N:Int}
  (hp:H p=some (.lst [.int N])) (hN:0<=N) (w0:0<=mt) (w2:mt<=16) (n0:0<=mp) (n1:mp<=32) (q:Told H p mt mp D.rt):
  (boxA T CT CL hr).1 D [some (.ref p),some (.int mt),some (.int mp),none,none,none,none,none,none,none,none] H:=by
 refine⟨_,rfl,_,rfl,_,_,rfl,rfl,p,N,_,rfl,hp,hN,by omega,by omega,fun N1 w a1 a2 a3=>?_⟩
 refine⟨(by show 0<=sizeLine; exact aJ _),fun t ht=>?_⟩
 have pt:p≠t:=(yO ht).1.symm
 refine⟨_,rfl,p,N1,3,rfl,by rw[jG pt]; exact j8,a1,by decide,by decide,fun N2 r b1 b2 b3=>⟨rfl,_,rfl,?_⟩⟩
 have k1:Keep H (upd (upd (upd H p (.lst [.int N1])) t (.tup [])) p (.lst [.int N2])) p:=(((Keep.refl _ _).upd _).new ht _).upd _
 have hp1:(upd (upd (upd H p (.lst [.int N1])) t (.tup [])) p (.lst [.int N2])) p=some (.lst [.int N2]):=j8
 have ht1:(upd (upd (upd H p (.lst [.int N1])) t (.tup [])) p (.lst [.int N2])) t=some (.tup []):=by rw[jG pt.symm]; exact j8
 generalize upd (upd (upd H p (.lst [.int N1])) t (.tup [])) p (.lst [.int N2])=H1 at k1 hp1 ht1 ⊢
 clear ht
 refine ite2 (fun hy=>?_) (fun hy=>?_)
 ·refine⟨_,rfl,w,rfl,by omega,by omega,jCS (n:=w.toNat) (by rw[ai]; omega) (fun D i σ' H' ys=>(∃ v,σ'=[v,some (.ref p)])/\(∃ (ms:List Int) (N':Int),ys=ms.map V.int/\ms.length<=i/\Ris i ms/\0<=N'/\H' p=some (.lst [.int N']))/\Keep H1 H' p/\H' D=some (.lst ys)/\D≠p/\H1 D=none) ?_ ?_ ?_ ?_⟩
  ·intro D hD
   have:p≠D:=jD hp1 hD
   exact⟨⟨_,rfl⟩,⟨[],N2,rfl,ao _,Ris.nil _,b1,by rw[jG this]; exact hp1⟩,(Keep.refl _ _).new hD _,j8,this.symm,hD⟩
  ·rintro D i σ' H' ys hD hi ⟨_,⟨ms,N',rfl,e,_⟩,_,e2,_⟩
   exact⟨e2,by rw[af]; exact e⟩
  ·rintro D i σ' H' ys hD hi ⟨⟨v,rfl⟩,⟨ms,N',rfl,e,rs,n',hp'⟩,kk,e2,dp,hn⟩
   refine⟨_,rfl,p,N',3,rfl,hp',n',by decide,by decide,fun N3 r3 c1 c2 c3=>⟨rfl,_,rfl,?_⟩⟩
   have k2:Keep H1 (upd H' p (.lst [.int N3])) p:=kk.upd _
   have e3:(upd H' p (.lst [.int N3])) D=some (.lst (ms.map V.int)):=by rw[jG dp]; exact e2
   have hp3:(upd H' p (.lst [.int N3])) p=some (.lst [.int N3]):=j8
   generalize upd H' p (.lst [.int N3])=H'' at k2 e3 hp3 ⊢
   refine ite2 (fun hz=>?_) (fun hz=>?_)
   ·refine⟨_,rfl,e3,⟨_,rfl⟩,⟨ms++[(i:Int)],N3,?_,?_,rs.snoc,c1,by rw[jG dp.symm]; exact hp3⟩,k2.updNew hn _,j8,dp,hn⟩
    ·rw[aS]
     show _++[V.int (0+(i:Int))]=_++[V.int (i:Int)]
     rw[Int.zero_add]
    ·rw[aI]
     show ms.length+1<=i+1
     omega
   ·exact⟨⟨_,rfl⟩,⟨ms,N3,rfl,by omega,rs.step,c1,hp3⟩,k2,e3,dp,hn⟩
  ·rintro D σ' H' ys hD ⟨_,⟨ms,N',rfl,e,rs,n',hp'⟩,kk,e2,dp,hn⟩
   refine⟨D,_,rfl, .inl ⟨SqL.of e2,fun qm hqm=>?_⟩⟩
   have pm:p≠qm:=jD hp' hqm
   have e':((w.toNat:Nat):Int)=w:=by omega
   rw[e'] at rs
   exact jFW T CT CL hr (by rw[jG pm]; exact hp') n' j8 rs ((k1.trans kk).new hqm _) ⟨_,hp⟩ a2 (by omega) w2 n0 n1 q
 ·exact jFW T CT CL hr hp1 b1 (mays:=[]) ht1 (Ris.nil w) k1 ⟨_,hp⟩ a2 (by omega) w2 n0 n1 q
end
theorem jR4 {f fT fL:Addr}{fd fdT fdL:FuncData}(F:Fun K "_law_box" "_law_box" sBox f fd)(T:Txt mg)(CT:Can P w K mg base "_law_take" 1 fT fdT ["pot","wide"] yS)(CL:Can P w K mg base "_law_lot" 2 fL fdL ["pot","wide"] xA):
  FnOk P w K mg base CX0 3 f fd ["pot","most_things","most_pieces"] spBox:=by
 refine F.ok scBox (fun vs H Q E h=>?_) (fun cdv A outer s H vs Q E hr h=>?_)
 ·obtain⟨_,_,_,_,rfl,_⟩:=h
  rfl
 ·obtain⟨p,N,mt,mp,rfl,hp,hN,m0,m1,n0,n1,q⟩:=h
  exact⟨_,(boxA T CT CL hr).2.h,jLH T CT CL hr hp hN m0 m1 n0 n1 q⟩
end
inductive Ob where
 | int (i:Int)
 | oth
 | tup (os:List Ob)
def OthAt (H:Hp)(v:V):Prop:=v= .non\/(∃ b,v= .bl b)\/(∃ x,v= .str x)\/∃ a,v= .ref a/\((∃ xs,H a=some (.lst xs))\/∃ kvs,H a=some (.dK kvs))
mutual
def At (H:Hp):Ob->V->Prop
 | .int i,v=>v= .int i
 | .oth,v=>OthAt H v
 | .tup os,v=>∃ a vs,v= .ref a/\H a=some (.tup vs)/\vs.length<=100/\Ats H os vs
def Ats (H:Hp):List Ob->List V->Prop
 | [],vs=>vs=[]
 | o::os,vs=>∃ v r,vs=v::r/\At H o v/\Ats H os r
end
structure Kp (H H':Hp):Prop where
 t:Tups H H'
 l:∀ a xs,H a=some (.lst xs)->∃ ys,H' a=some (.lst ys)
 d:∀ a xs,H a=some (.dK xs)->∃ ys,H' a=some (.dK ys)
theorem Kp.of {H H':Hp}(e:Ext H H'):Kp H H':=⟨fun b xs h=>e b _ h,fun a xs h=>⟨xs,e a _ h⟩,fun a xs h=>⟨xs,e a _ h⟩⟩
theorem OthAt.mono {H H':Hp}(k:Kp H H'){v:V}(h:OthAt H v):OthAt H' v:=by
 rcases h with h | h | h | ⟨a,rfl,⟨xs,h⟩ | ⟨xs,h⟩⟩
 ·exact .inl h
 ·exact .inr (.inl h)
 ·exact .inr (.inr (.inl h))
 ·exact .inr (.inr (.inr ⟨a,rfl, .inl (k.l _ _ h)⟩))
 ·exact .inr (.inr (.inr ⟨a,rfl, .inr (k.d _ _ h)⟩))
mutual
theorem At.mono {H H':Hp}(k:Kp H H'):∀ (o:Ob) (v:V),At H o v->At H' o v
 | .int _,_,h=>h
 | .oth,_,h=>OthAt.mono k h
 | .tup os,_,⟨a,vs,e,h,n,r⟩=>⟨a,vs,e,k.t _ _ h,n,Ats.mono k os vs r⟩
theorem Ats.mono {H H':Hp}(k:Kp H H'):∀ (os:List Ob) (vs:List V),Ats H os vs->Ats H' os vs
 | [],_,h=>h
 | o::os,_,⟨v,r,e,h,t⟩=>⟨v,r,e,At.mono k o v h,Ats.mono k os r t⟩
end
theorem At.ext {H H':Hp}(e:Ext H H'){o:Ob}{v:V}(h:At H o v):At H' o v:=At.mono (.of e) o v h
theorem Ats.len {H:Hp} :∀ {os:List Ob}{vs:List V},Ats H os vs->vs.length=os.length
 | [],_,h=>by cases (show _=[] from h); rfl
 | o::os,_,⟨v,r,e,h,t⟩=>by rw[e,aC,aC,Ats.len t]
theorem Ats.get {H:Hp} :∀ {os:List Ob}{vs:List V},Ats H os vs->∀ {i:Nat}{v:V},vs[i]?=some v->∃ o,os[i]?=some o/\At H o v
 | [],_,h,i,v,e=>by cases (show _=[] from h); cases e
 | o::os,_,⟨v,r,e,h,t⟩,0,v',e'=>by subst e; cases e'; exact⟨o,rfl,h⟩
 | o::os,_,⟨v,r,e,h,t⟩,i+1,v',e'=>by subst e; exact Ats.get t (i:=i) e'
def isInt:Ob->Bool
 | .int _=>true
 | _=>false
def isTup:Ob->Bool
 | .tup _=>true
 | _=>false
def upB (lo hi:Int):Ob->Bool
 | .int i=>decide (lo<=i)&&decide (i<=hi)
 | _=>false
def val:Ob->Int
 | .int i=>i
 | _=>0
def adj (is:List Int):List Bool:=(List.range (is.length - 1)).map fun k=>decide (is.getD k 0<is.getD (k+1) 0)
noncomputable def risB:Ob->Bool
 | .tup os=>os.all isInt&&(adj (os.map val)).all id
 | _=>false
noncomputable def lotB (w:Int):Ob->Bool
 | .tup os=>os.all (upB 0 (w - 1))&&(adj (os.map val)).all id
 | _=>false
def qN:Ob->Bool
 | .tup []=>true
 | _=>false
def jV (w:Int):Ob->Bool
 | .tup [a,b]=>lotB w a&&!qN a&&upB (-1000000000000) 1000000000000 b
 | _=>false
def bxB:Ob->Bool
 | .tup [a,b, .tup ps]=>upB 0 16 a&&lotB (val a) b&&decide (ps.length<=32)&&ps.all (jV (val a))
 | _=>false
def lotB' (w:Int)(o:Ob):Bool:=risB o&&match o with
 | .tup os=>decide (os=[]) || (decide (0<=(os.map val).getD 0 0)&&decide ((os.map val).getLastD 0<w))
 | _=>false
theorem jLP {is:List Int}(h:(adj is).all id=true){k:Nat}(hk:k+1<is.length):is.getD k 0<is.getD (k+1) 0:=by
 rw[aD] at h
 exact aj (h _ (aP.mpr ⟨k,bR.mpr (by omega),rfl⟩))
theorem jHV {is:List Int}(h:(adj is).all id=true):∀ (j k:Nat),j<=k->k<is.length->is.getD j 0<=is.getD k 0
 | j,0,h1,_=>by
  have:j=0:=by omega
  subst this
  exact hG _
 | j,k+1,h1,h2=>by
  rcases Nat.lt_or_ge k j with q | q
  ·have:j=k+1:=by omega
   subst this
   exact hG _
  ·have a:=jHV h j k q (by omega)
   have b:=jLP h h2
   omega
theorem jR9 (w:Int)(o:Ob):lotB' w o=lotB w o:=by
 cases o with
 | int i=>rfl
 | oth=>rfl
 | tup os=>
  rw[bP]
  unfold lotB' risB lotB
  simp only [aL,Bool.or_eq_true,fF]
  constructor
  ·rintro ⟨⟨a,b⟩,c⟩
   refine⟨?_,b⟩
   rw[aD] at a ⊢
   intro x hx
   obtain⟨j,hj,rfl⟩:=ce hx
   have hi:=a _ hx
   have e:os≠ []:=fun e=>by subst e; cases hx
   obtain⟨c1,c2⟩:=c.resolve_left e
   have hl:(os.map val).length=os.length:=af _
   have g:(os.map val).getD j 0=val os[j]:=by
    rw[aK,aY]
    simp [hj]
   have l1:=jHV b 0 j (by omega) (by omega)
   have l2:=jHV b j (os.length - 1) (by omega) (by omega)
   have l3:(os.map val).getLastD 0=(os.map val).getD (os.length - 1) 0:=by
    rw[dg,dh,aK,hl]
   rw[g] at l1 l2
   rw[l3] at c2
   cases e2:os[j] with
   | int i=>
    rw[e2] at l1 l2
    simp only [val] at l1 l2
    simp only [upB,aL,fF]
    omega
   | oth=>rw[e2] at hi; cases hi
   | tup r=>rw[e2] at hi; cases hi
  ·rintro ⟨a,b⟩
   rw[aD] at a
   refine⟨⟨?_,b⟩,?_⟩
   ·rw[aD]
    intro x hx
    have:=a x hx
    cases x with
    | int i=>rfl
    | oth=>cases this
    | tup r=>cases this
   ·by_cases e:os=[]
    ·exact .inl e
    ·refine .inr ?_
     have key:∀ j,j<os.length->0<=(os.map val).getD j 0/\(os.map val).getD j 0<w:=fun j hj=>by
      have g:(os.map val).getD j 0=val os[j]:=by
       rw[aK,aY]
       simp [hj]
      have:=a os[j] (ck hj)
      rw[g]
      cases e2:os[j] with
      | int i=>
       rw[e2] at this
       simp only [upB,aL,fF] at this
       simp only [val]
       omega
      | oth=>rw[e2] at this; cases this
      | tup r=>rw[e2] at this; cases this
     have hpos:0<os.length:=by
      cases os with
      | nil=>exact absurd rfl e
      | cons _ _=>simp
     have l3:(os.map val).getLastD 0=(os.map val).getD (os.length - 1) 0:=by
      rw[dg,dh,aK,af]
     rw[l3]
     exact⟨(key 0 hpos).1,(key (os.length - 1) (by omega)).2⟩
theorem Ats.allInt {H:Hp} :∀ {os:List Ob}{vs:List V},Ats H os vs->os.all isInt=true->vs=(os.map val).map V.int
 | [],_,h,_=>by cases (show _=[] from h); rfl
 | o::os,_,⟨v,r,e,h,t⟩,ha=>by
  rw[dn,aL] at ha
  subst e
  rw[bi,bi,<- Ats.allInt t ha.2]
  cases o with
  | int i=>cases (show v= .int i from h); rfl
  | oth=>cases ha.1
  | tup _=>cases ha.1
theorem jLN (l:List Ob)(F:Ob->Bool):(l.map F).all id=l.all F:=by
 rw[g9]
 rfl
theorem jLO (is:List Int):(adj is).length=is.length - 1:=by
 unfold adj
 rw[af,cR]
theorem jRQ {is:List Int}{k:Nat}(h:k<is.length - 1):(adj is)[k]?=some (decide (is.getD k 0<is.getD (k+1) 0)):=by
 unfold adj
 rw[aY,List.getElem?_range h]
 rfl
theorem jHU {is:List Int}{k:Nat}(h:k<is.length - 1):(adj is).take (k+1)=(adj is).take k++[decide (is.getD k 0<is.getD (k+1) 0)]:=by
 rw[cT,jRQ h]
 rfl
theorem getI {is:List Int}{k:Nat}(h:k<is.length):(is.map V.int)[k]?=some (.int (is.getD k 0)):=by
 rw[aY,aK]
 simp [h]
theorem At.ty (K:W.Frag){H:Hp}{o:Ob}{v:V}(h:At H o v):∃ t,TyOf K H v t/\kitOne K t (.type "tuple")=some (isTup o)/\∃ b1 b2,kitOne K t (.type "int")=some b1/\kitOne K t (.type "bool")=some b2/\(b1&&!b2)=isInt o:=by
 cases o with
 | int i=>
  cases (show v= .int i from h)
  exact⟨_, .int i,rfl,true,false,rfl,rfl,rfl⟩
 | oth=>
  rcases (show OthAt H v from h) with rfl | ⟨b,rfl⟩ | ⟨x,rfl⟩ | ⟨a,rfl,⟨xs,e⟩ | ⟨xs,e⟩⟩
  ·exact⟨_, .non,rfl,false,false,rfl,rfl,rfl⟩
  ·exact⟨_, .bl b,rfl,true,true,rfl,rfl,rfl⟩
  ·exact⟨_, .str x,rfl,false,false,rfl,rfl,rfl⟩
  ·exact⟨_, .lst e,rfl,false,false,rfl,rfl,rfl⟩
  ·exact⟨_, .dK e,rfl,false,false,rfl,rfl,rfl⟩
 | tup os=>
  obtain⟨a,vs,rfl,e,_⟩:=h
  exact⟨_, .tup e,rfl,false,false,rfl,rfl,rfl⟩
theorem At.tupOf {H:Hp}{o:Ob}{v:V}(h:At H o v)(t:isTup o=true):∃ os a vs,o= .tup os/\v= .ref a/\H a=some (.tup vs)/\vs.length<=100/\Ats H os vs:=by
 cases o with
 | int i=>cases t
 | oth=>cases t
 | tup os=>
  obtain⟨a,vs,e1,e2,e4,e3⟩:=h
  exact⟨os,a,vs,rfl,e1,e2,e4,e3⟩
theorem jDG {K:W.Frag}{m:List (Option Nat)}{g:TG}{tt:TT}{te:TE}{σ:St}{H1:Hp}{Q:VK}{a:Addr}{xs:List V}{os:List Ob}{F:Ob->Bool}(ha:H1 a=some (.tup xs))(hx:Ats H1 os xs)(hn:xs.length<sizeLine)(σP:St->Prop)(h0:σP (blkσ m σ))
  (step:∀ (σ':St) (H':Hp) (v:V) (o:Ob) (R:St->V->Hp->Prop) (S:St->Hp->Prop),σP σ'->Ext H1 H'->At H' o v->(∀ σ2 H'',σP σ2->Ext H' H''->R σ2 (.bl (F o)) H'')->g v σ' H' fun σ2 H2=>tt σ2 H2 fun b H3=>if b=true then te σ2 H3 (R σ2) else S σ2 H3)
  (hd:∀ D H',Ext H1 H'->H' D=some (.lst ((os.map F).map V.bl))->Q (.ref D) H'):CompW m g tt te σ Q (Itt K a) H1:=by
 have hl:=hx.len
 refine jHM (xs:=xs) hn (fun D i σ' H' zs=>σP σ'/\Ext H1 H'/\H' D=some (.lst zs)/\H1 D=none/\zs=((os.take i).map F).map V.bl) ?_ ?_ ?_ ?_
 ·intro D hD
  exact⟨h0,(Ext.refl _).new hD _,j8,hD,rfl⟩
 ·rintro D i σ' H' zs hD ⟨_,e,h2,_,rfl⟩
  refine⟨e _ _ ha,h2,?_⟩
  rw[af,af,bb]
  omega
 ·rintro D i σ' H' zs x hD hi ⟨p,e,h2,hn,rfl⟩
  obtain⟨o,ho,hAt⟩:=hx.get hi
  refine step σ' H' x o _ _ p e (hAt.ext e) fun σ2 H'' p2 e2=>⟨e2 _ _ h2,p2,(e.trans e2).updNew hn _,j8,hn,?_⟩
  have:os.take (i+1)=os.take i++[o]:=by
   rw[cT,ho]
   rfl
  rw[this,aS,aS]
  rfl
 ·rintro D σ' H' zs hD ⟨_,e,h2,_,rfl⟩
  rw[hl,bX] at h2
  exact hd D H' e h2
section
variable {P:Program}{w:World}{K:W.Frag}{mg:Str->Option Value}{base:Heap}
noncomputable abbrev XOf (N:List Str)(q:Str)(st:Stmt)(P:Program)(w:World)(K:W.Frag)(mg:Str->Option Value)(base:Heap)(f:Addr)(cdv:Value)(A:Around)(outer:List Env)(s:Shared)(H:Hp)(E:XK):Cx:=(cxOf CX0 P w K mg base N q (j9 st) f cdv A outer s H E).nox
variable {f fW fR:Addr}{fdW fdR:FuncData}{cdv:Value}{A:Around}{outer:List Env}{s:Shared}{H0:Hp}{E:XK}
abbrev jK0:List Str:=["thing"]
theorem scWhole0:FnScope jK0 ["thing"] (j9 jAN):=⟨rfl,rfl,rfl,by decide+kernel,rfl,by decide+kernel,by decide+kernel⟩
def spWh:Sp:=fun vs H Q _=>∃ v o,vs=[v]/\At H o v/\Q (.bl (isInt o)) H
def jO0 (T:Txt mg): { t:TS // JSs (XOf jK0 "is_whole" jAN P w K mg base f cdv A outer s H0 E) (jE jAN) t} :=
 have nd:=scWhole0.nd
 ⟨_,(jF (jN ((qM (jH jQ gD T.isinstance (by decide+kernel) (j4 (jv 0 rfl vL) (j4 (kO (v:= .ty "int") gD T.int (by decide+kernel) rfl) j7 j6) j6) j6) (qL (jKL (jH jQ gD T.isinstance (by decide+kernel) (j4 (jv 0 rfl vL) (j4 (kO (v:= .ty "bool") gD T.bool (by decide+kernel) rfl) j7 j6) j6) j6)))))))⟩
theorem jJN {fd:FuncData}(F:Fun K "is_whole" "is_whole" jAN f fd)(T:Txt mg):FnOk P w K mg base CX0 1 f fd ["thing"] spWh:=by
 refine F.ok scWhole0 (fun vs H Q E h=>?_) (fun cdv A outer s H vs Q E hr h=>?_)
 ·obtain⟨_,_,rfl,_⟩:=h
  rfl
 ·obtain⟨v,o,rfl,hA,q⟩:=h
  obtain⟨t,ty,_,b1,b2,k1,k2,e⟩:=hA.ty K
  refine⟨_,(jO0 T).2.h,?_⟩
  refine⟨_,rfl,_,_,_,b1,rfl,ty,k1,b1,rfl,?_⟩
  rw[<- e] at q
  cases b1 with
  | true=>exact iteT ⟨_,rfl,_,_,_,b2,rfl,ty,k2,b2,rfl,q⟩
  | false=>exact iteF q
abbrev jD4:List Str:=["thing"]
theorem scRising:FnScope jD4 ["thing"] (j9 yY):=⟨rfl,rfl,rfl,by decide+kernel,rfl,by decide+kernel,by decide+kernel⟩
def spB (F:Ob->Bool):Sp:=fun vs H Q _=>∃ v o,vs=[v]/\At H o v/\∀ H',Ext H H'->Q (.bl (F o)) H'
def jOA (T:Txt mg)(CW:Can P w K mg base "is_whole" 1 fW fdW ["thing"] spWh)(hr:Room 1 (XOf jD4 "is_rising" yY P w K mg base f cdv A outer s H0 E).A): { t:TS // JSs (XOf jD4 "is_rising" yY P w K mg base f cdv A outer s H0 E) (jE yY) t} :=
 have nd:=scRising.nd
 ⟨_,(jA (jZ (kX (kI (jH jQ gD T.isinstance (by decide+kernel) (j4 (jv 0 rfl vC) (j4 (kO (v:= .ty "tuple") gD T.tuple (by decide+kernel) rfl) j7 j6) j6) j6) jY)) (jF (jN (qO))) jL)
   (jA (jZ (kX (kI (jH (jAA rfl) gD T.all (by decide+kernel) (j4 (yZ (m:=[none]) (Nc:=["number"]) rfl (jD8 (jv 0 rfl vC)) rfl (by decide+kernel) (by decide+kernel) (yN (psc:=j9 yY) (by decide+kernel)) (kZ (N:=jD4) rfl rfl (by decide+kernel)) (fun cl C fp s H=>kU (i:=0) (show (["number"]:List Str).Nodup by decide+kernel) rfl (xB (by decide+kernel))) (fun cl C fp s H=>qG) (fun cl C fp s H=>(CW.je hr (gl_b (by decide+kernel)) (j4 (jv 0 rfl (yR (by decide+kernel))) j7 j6) j6)) jBF) j7 kW) kW) jY)) (jF (jN (qO))) jL)
   (jF (jN (jH (jAA rfl) gD T.all (by decide+kernel) (j4 (yZ (m:=[none,some 0]) (Nc:=["k","thing"]) rfl (jD9 gD T.range (j4 (jC) (j4 (jH jP gD T.len (by decide+kernel) (j4 (jv 0 rfl vC) j7 j6) j6) j7 jS) jB) jB jS) rfl (by decide+kernel) (by decide+kernel) (yN (psc:=j9 yY) (by decide+kernel)) (kZ (N:=jD4) rfl rfl (by decide+kernel)) (fun cl C fp s H=>kU (i:=0) (show (["k","thing"]:List Str).Nodup by decide+kernel) rfl (xB (by decide+kernel))) (fun cl C fp s H=>qG) (fun cl C fp s H=>(yV op_lt (jW jHI (jv 1 rfl (jER (by decide+kernel))) (kQ jD0 (jv 0 rfl (yR (by decide+kernel))) (jC)) jQE) (jW jHI (jv 1 rfl (jER (by decide+kernel))) (jv 0 rfl (yR (by decide+kernel))) jE2) (jK _))) jAI) j7 kW) kW)))))⟩
theorem jJP {fd:FuncData}(F:Fun K "is_rising" "is_rising" yY f fd)(T:Txt mg)(CW:Can P w K mg base "is_whole" 1 fW fdW ["thing"] spWh):FnOk P w K mg base CX0 2 f fd ["thing"] (spB risB):=by
 refine F.ok scRising (fun vs H Q E h=>?_) (fun cdv A outer s H vs Q E hr h=>?_)
 ·obtain⟨_,_,rfl,_⟩:=h
  rfl
 ·obtain⟨v,o,rfl,hA,q⟩:=h
  obtain⟨t,ty,kt,_⟩:=hA.ty K
  refine⟨_,(jOA T CW hr).2.h,?_⟩
  refine⟨_,rfl,_,_,_,_,rfl,ty,kt,_,rfl,?_⟩
  cases ht:isTup o with
  | false=>
   refine iteT ?_
   have:risB o=false:=by cases o <;> first | rfl | cases ht
   rw[<- this]
   exact q H (Ext.refl H)
  | true=>
   refine iteF ?_
   obtain⟨os,a,vs,rfl,rfl,ha,h100,hx⟩:=hA.tupOf ht
   have hl:=hx.len
   have hn:vs.length<sizeLine:=by rw[ai]; omega
   ·refine⟨_,rfl,a,rfl,⟨_,SqT.of ha⟩,jDG (F:=isInt) ha hx hn (fun σ'=>∃ v,σ'=[v]) ⟨_,rfl⟩ ?_ ?_⟩
    ·rintro σ' H' v o R S ⟨u,rfl⟩ e hA k
     dsimp only [yF,qT]
     rw[aA rfl]
     exact⟨_,rfl,v,o,rfl,hA,k _ H' ⟨_,rfl⟩ (Ext.refl _)⟩
    ·intro D H1 e1 hD
     refine⟨D,_,rfl,SqL.of hD,_,rfl,?_⟩
     rw[jLN]
     cases hi:os.all isInt with
     | false=>
      refine iteT ?_
      have:risB (.tup os)=false:=by
       show (os.all isInt&&_)=false
       rw[hi]
       rfl
      rw[<- this]
      exact q H1 e1
     | true=>
      refine iteF ?_
      have hv:=hx.allInt hi
      have hN:(os.map val).length=os.length:=af _
      refine⟨_,rfl,a,_,rfl, .inr (SqT.of (e1 _ _ ha)),1,_,rfl,⟨by decide,by decide,by omega,by rw[ai] at hn; omega⟩,jCS (n:=((vs.length:Int) - 1).toNat) (by omega) (fun D i σ' H' zs=>(∃ v,σ'=[v,some (.ref a)])/\zs=((adj (os.map val)).take i).map V.bl/\H'=upd H1 D (.lst zs)) ?_ ?_ ?_ ?_⟩
      ·intro D hD
       exact⟨⟨_,rfl⟩,rfl,rfl⟩
      ·rintro D i σ' H' zs hD hi2 ⟨_,rfl,rfl⟩
       refine⟨j8,?_⟩
       rw[af,bb]
       omega
      ·rintro D i σ' H' zs hD hi2 ⟨⟨v,rfl⟩,rfl,rfl⟩
       have hi3:i<(os.map val).length - 1:=by omega
       have ha':(upd H1 D (.lst (((adj (os.map val)).take i).map V.bl))) a=some (.tup ((os.map val).map V.int)):=by
        rw[jG (jD (e1 _ _ ha) hD),e1 _ _ ha,hv]
       dsimp only [yF,qT]
       rw[aA rfl]
       have e0:(1+(i:Int)) - 1=(i:Int):=by omega
       have e2:(1+(i:Int))=((i+1:Nat):Int):=by omega
       refine⟨_,rfl,_,rfl,_,_,rfl,rfl,a,_,_,_,rfl,rfl,SqT.of ha',by rw[e0]; exact jT (getI (by omega)),_,rfl,_,rfl,a,_,_,_,rfl,rfl,SqT.of ha',by rw[e2]; exact jT (getI (by omega)),_,_,rfl,rfl,j8,⟨_,rfl⟩,?_,jAC⟩
       rw[jHU hi3,aS]
       rfl
      ·rintro D2 σ' H' zs hD2 ⟨_,rfl,rfl⟩
       have hlen:((vs.length:Int) - 1).toNat=(adj (os.map val)).length:=by rw[jLO]; omega
       rw[hlen,bX]
       refine⟨D2,_,rfl,SqL.of j8,?_⟩
       have:(adj (os.map val)).all id=risB (.tup os):=by
        show _=(os.all isInt&&(adj (os.map val)).all id)
        rw[hi,bC]
       rw[this]
       exact q _ (e1.new hD2 _)
end
end Eo
end
section
namespace L2
open PySem
theorem jHG {X:Cx}{p2 p3 p4:Pos}{k2 k3:Nat} :JE X (.BinOp (.Constant (.int 10) k2 p2) .Pow (.Constant (.int 12) k3 p3) p4) (tC (.int 1000000000000)):=⟨jJC (by decide) (by decide) (by decide) (by decide)⟩
theorem px_un {op:UnaryOp}{a:Expr}{pos:Pos} :jBK (.UnaryOp op a pos):=fun _ _=>rfl
theorem jPX {α:Type}{xs:List α}{v:α}(h:xs[xs.length - 1]?=some v):atI xs (-1)=some v:=by
 have hj:xs.length - 1<xs.length:=(aV.mp h).1
 have e:ixN xs.length (-1)=some (xs.length - 1):=by
  unfold ixN
  rw[aB (by omega),aA (by omega)]
  congr 1
  omega
 unfold atI
 rw[e]
 exact h
theorem qb {Q:VK}{H:Hp}{a b:Bool}(q:Q (.bl a) H)(e:a=b):Q (.bl b) H:=e ▸ q
end L2
namespace Eo
open PySem L2
def psB (w:Int):Ob->Bool
 | .tup ps=>decide (ps.length<=32)&&ps.all (jV w)
 | _=>false
theorem jPG {w:Int}{o:Ob}(h:isTup o=false):lotB w o=false:=by cases o <;> first | rfl | cases h
theorem jF7 {w:Int}{o:Ob}(h:isTup o=false):jV w o=false:=by cases o <;> first | rfl | cases h
theorem jNE {w:Int}{o:Ob}(h:isTup o=false):psB w o=false:=by cases o <;> first | rfl | cases h
theorem jLD {o:Ob}(h:isTup o=false):bxB o=false:=by cases o <;> first | rfl | cases h
section
variable {P:Program}{w:World}{K:W.Frag}{mg:Str->Option Value}{base:Heap}
variable {f fW fR fL fG fI fPs:Addr}{fdW fdR fdL fdG fdI fdPs:FuncData}{cdv:Value}{A:Around}{outer:List Env}{s:Shared}{H0:Hp}{E:XK}
abbrev jK3:List Str:=["thing","many"]
theorem scIsLot:FnScope jK3 ["thing","many"] (j9 jB7):=⟨rfl,rfl,rfl,by decide+kernel,rfl,by decide+kernel,by decide+kernel⟩
def spB2 (F:Int->Ob->Bool):Sp:=fun vs H Q _=>∃ v o w,vs=[v, .int w]/\At H o v/\∀ H',Ext H H'->Q (.bl (F w o)) H'
def jRK (T:Txt mg)(CR:Can P w K mg base "is_rising" 2 fR fdR ["thing"] (spB risB))(hr:Room 2 (XOf jK3 "is_lot" jB7 P w K mg base f cdv A outer s H0 E).A): { t:TS // JSs (XOf jK3 "is_lot" jB7 P w K mg base f cdv A outer s H0 E) (jE jB7) t} :=
 have nd:=scIsLot.nd
 ⟨_,(jA (jZ (kX (kI (CR.je hr gD (j4 (jv 0 rfl vL) j7 j6) j6) jY)) (jF (jN (qO))) jL)
   (jF (jN ((je_or (yV yB (jH jP gD T.len (by decide+kernel) (j4 (jv 0 rfl vL) j7 j6) j6) (jC) (jK _)) (qL ((qM (yV op_ge (jW kY (jv 0 rfl vL) (jC) jJ) (jC) (jK _)) (qL (yV op_lt (jW kY (jv 0 rfl vL) (je_un jIJ (jC)) px_un) (jv 1 rfl vL) (jK _)))))))))))⟩
theorem jMD {fd:FuncData}(F:Fun K "is_lot" "is_lot" jB7 f fd)(T:Txt mg)(CR:Can P w K mg base "is_rising" 2 fR fdR ["thing"] (spB risB)):FnOk P w K mg base CX0 3 f fd ["thing","many"] (spB2 lotB):=by
 refine F.ok scIsLot (fun vs H Q E h=>?_) (fun cdv A outer s H vs Q E hr h=>?_)
 ·obtain⟨_,_,_,rfl,_⟩:=h
  rfl
 ·obtain⟨v,o,w,rfl,hA,q⟩:=h
  refine⟨_,(jRK T CR hr).2.h,?_⟩
  refine⟨_,rfl,v,o,rfl,hA,fun H1 e1=>⟨_,rfl,?_⟩⟩
  have eq:=jR9 w o
  cases hR:risB o with
  | false=>
   refine iteT (qb (q H1 e1) ?_)
   rw[<- eq]
   unfold lotB'
   rw[hR]
   rfl
  | true=>
   refine iteF ?_
   have ht:isTup o=true:=by cases o <;> first | rfl | cases hR
   obtain⟨os,a,vs,rfl,rfl,ha,h100,hx⟩:=hA.tupOf ht
   have hl:=hx.len
   have hi:os.all isInt=true:=by
    have:(os.all isInt&&(adj (os.map val)).all id)=true:=hR
    rw[aL] at this
    exact this.1
   have hv:=hx.allInt hi
   have ha1:=e1 _ _ ha
   refine⟨_,rfl,a,_,rfl, .inr (SqT.of ha1),rfl,_,rfl,ite2 (fun hy=>?_) (fun hy=>?_)⟩
   ·have h0:=V.int.inj (aj hy)
    have e0:os=[]:=bc.mp (by omega)
    refine qb (q H1 e1) ?_
    rw[<- eq]
    unfold lotB'
    rw[hR]
    simp [e0]
   ·have h0:0<vs.length:=g5 fun h=>hy (ah (by rw[h]; rfl))
    have hml:(os.map val).length=vs.length:=by rw[af,hl]
    refine⟨_,rfl,a,_,0, .int ((os.map val).getD 0 0),rfl,rfl,SqT.of ha1,?_,_,_,rfl,rfl,_,rfl,ite2 (fun hz=>?_) (fun hz=>?_)⟩
    ·rw[hv]
     exact jT (j:=0) (getI (by omega))
    ·refine⟨_,rfl,_,rfl,a,_,_, .int ((os.map val).getLastD 0),rfl,rfl,SqT.of ha1,?_,_,rfl,_,_,rfl,rfl,qb (q H1 e1) ?_⟩
     ·show atI vs (-1)=_
      refine jPX ?_
      rw[hv,af,getI (by omega),dg,dh,aK]
     ·rw[<- eq]
      unfold lotB'
      rw[hR]
      have e0:¬ os=[]:=fun e=>by rw[e] at hl; have:vs.length=0:=hl; omega
      have hz:=aj hz
      simp [e0]
      intro hh
      simpa using hz
    ·refine qb (q H1 e1) ?_
     rw[<- eq]
     unfold lotB'
     rw[hR]
     have e0:¬ os=[]:=fun e=>by rw[e] at hl; have:vs.length=0:=hl; omega
     have hz:¬ (0<=(os.map val).getD 0 0):=fun h=>hz (ah h)
     simp only [e0,decide_false,gS,bC,aq hz,ba]
abbrev jGG:List Str:=["thing"]
theorem scWeight:FnScope jGG ["thing"] (j9 jAF):=⟨rfl,rfl,rfl,by decide+kernel,rfl,by decide+kernel,by decide+kernel⟩
def jO1 (T:Txt mg)(CW:Can P w K mg base "is_whole" 1 fW fdW ["thing"] spWh)(hr:Room 1 (XOf jGG "is_weight" jAF P w K mg base f cdv A outer s H0 E).A): { t:TS // JSs (XOf jGG "is_weight" jAF P w K mg base f cdv A outer s H0 E) (jE jAF) t} :=
 have nd:=scWeight.nd
 ⟨_,(jF (jN ((qM (CW.je hr gD (j4 (jv 0 rfl vL) j7 j6) j6) (qL (jHH op_le op_le (je_un jIJ jHG) (jv 0 rfl vL) (jHG)))))))⟩
abbrev wtB:Ob->Bool:=upB (-1000000000000) 1000000000000
theorem jJO {fd:FuncData}(F:Fun K "is_weight" "is_weight" jAF f fd)(T:Txt mg)(CW:Can P w K mg base "is_whole" 1 fW fdW ["thing"] spWh):FnOk P w K mg base CX0 2 f fd ["thing"] (spB wtB):=by
 refine F.ok scWeight (fun vs H Q E h=>?_) (fun cdv A outer s H vs Q E hr h=>?_)
 ·obtain⟨_,_,rfl,_⟩:=h
  rfl
 ·obtain⟨v,o,rfl,hA,q⟩:=h
  refine⟨_,(jO1 T CW hr).2.h,?_⟩
  have q:=q H (Ext.refl H)
  refine⟨_,rfl,v,o,rfl,hA,_,rfl,?_⟩
  cases o with
  | int i=>
   cases (show v= .int i from hA)
   refine iteT ⟨_,rfl,_,rfl,_,_,rfl,rfl,_,rfl,ite2 (fun hy=>?_) (fun hy=>?_)⟩
   ·refine⟨_,_,rfl,rfl,qb q ?_⟩
    have hy:(-1000000000000:Int)<=i:=aj hy
    show (decide _&&decide _)=decide _
    rw[ah hy,bC]
   ·refine qb q ?_
    have hy:¬ (-1000000000000:Int)<=i:=fun h=>hy (ah h)
    show (decide _&&decide _)=false
    rw[aq hy,ba]
  | oth=>exact iteF q
  | tup os=>exact iteF q
end
end Eo
end
section
namespace L2
open PySem
section
variable {P:Program}{w:World}{K:W.Frag}{mg:Str->Option Value}{base:Heap}{N:List Str}{qual:Str}{sc:Scope}{f:Addr}{cdv:Value}{A:Around}{outer:List Env}{s:Shared}{H:Hp}{E:XK}{x y z:Str}{p1 p2 p3 pos:Pos}{k i j l:Nat}
theorem jMP (hN:N.Nodup)(hi:N[i]?=some x)(hj:N[j]?=some y)(hl:N[l]?=some z)(hx:sc.names.lookup x=some .local)(hy:sc.names.lookup y=some .local)(hz:sc.names.lookup z=some .local):
  JG (cxOf CX0 P w K mg base N qual sc f cdv A outer s H E).nox (.Tuple [.Name x p1, .Name y p2, .Name z p3] k pos) (gTup K 3 (xH (yF i) (xH (yF j) (xH (yF l) gNil)))):=
 jKJ (X:=(cxOf CX0 P w K mg base N qual sc f cdv A outer s H E).nox) rfl (jAR (kU hN hi (loc_l hx)) (jAR (kU hN hj (loc_l hy)) (jAR (kU hN hl (loc_l hz)) jGM jBH) jBH) jBH)
theorem jMO (hN:N.Nodup)(hi:N[i]?=some x)(hj:N[j]?=some y)(hx:sc.names.lookup x=some .local)(hy:sc.names.lookup y=some .local):
  JG (cxOf CX0 P w K mg base N qual sc f cdv A outer s H E).nox (.Tuple [.Name x p1, .Name y p2] k pos) (gTup K 2 (xH (yF i) (xH (yF j) gNil))):=
 jKJ (X:=(cxOf CX0 P w K mg base N qual sc f cdv A outer s H E).nox) rfl (jAR (kU hN hi (loc_l hx)) (jAR (kU hN hj (loc_l hy)) jGM jBH) jBH)
end
end L2
namespace L2
open PySem
section
variable {K:W.Frag}{m:List (Option Nat)}{g:TG}{tt:TT}{te:TE}{σ:St}{H1:Hp}{Q:VK}
theorem jHO {a:Addr}{xs:List V}(hn:xs.length<sizeLine)(Pv:Addr->Nat->St->Hp->List V->Prop)(h0:∀ D,H1 D=none->Pv D 0 (blkσ m σ) (upd H1 D (.lst [])) [])
  (hD:∀ D i σ' H' zs,H1 D=none->Pv D i σ' H' zs->H' a=some (.lst xs)/\H' D=some (.lst zs)/\zs.length<=i)
  (hs:∀ D i σ' H' zs x,H1 D=none->xs[i]?=some x->Pv D i σ' H' zs->g x σ' H' fun σ2 H2=>tt σ2 H2 fun b H3=>if b=true then te σ2 H3 fun v H4=>H4 D=some (.lst zs)/\Pv D (i+1) σ2 (upd H4 D (.lst (zs++[v]))) (zs++[v]) else Pv D (i+1) σ2 H3 zs)
  (hd:∀ D σ' H' zs,H1 D=none->Pv D xs.length σ' H' zs->Q (.ref D) H'):CompW m g tt te σ Q (Itl K a) H1:=by
 intro D hDn
 refine⟨fun i k σ' H' zs=>k=xs.length - i/\i<=xs.length/\Pv D i σ' H' zs,⟨_,rfl,aJ _,h0 D hDn⟩,?_⟩
 rintro i k σ' H' zs ⟨rfl,hi,p⟩
 obtain⟨s1,q1,q2⟩:=hD D i σ' H' zs hDn p
 refine⟨q1,by omega,?_⟩
 by_cases hlt:i<xs.length
 ·refine .inr ⟨⟨xs,xs[i],SqL.of s1,by simp [hlt]⟩,Pv D (i+1),fun σ2 H2 zs z=>⟨xs.length - (i+1),by omega,rfl,hlt,z⟩,fun v H'' y=>?_⟩
  obtain⟨e1,e2⟩:=y
  subst e1
  exact hs D i σ' _ zs v hDn (e2 xs (SqL.of s1)) p
 ·have e:i=xs.length:=by omega
  subst e
  exact .inl ⟨⟨xs,SqL.of s1,ao _⟩,hd D σ' H' zs hDn p⟩
end
end L2
namespace Eo
open PySem L2
theorem jJ4:∀ (ts:List Int) (lo w:Int),ts.Pairwise (· < ·)->(∀ z∈ts,lo<=z/\z<w)->(ts.length:Int)<=max (w - lo) 0
 | [],lo,w,_,_=>by show (0:Int)<=_; omega
 | a::r,lo,w,hp,hb=>by
  have h1:=hb a am
  have hp':=gY.mp hp
  have:=jJ4 r (a+1) w hp'.2 fun z hz=>⟨by have:=hp'.1 z hz; omega,(hb z (ar _ hz)).2⟩
  rw[aC]
  omega
theorem Ats.two {H:Hp}{os:List Ob}{vs:List V}(h:Ats H os vs)(n:vs.length=2):∃ x y a b,os=[x,y]/\vs=[a,b]/\At H x a/\At H y b:=by
 cases os with
 | nil=>cases (show vs=[] from h); cases n
 | cons x os=>
  obtain⟨a,r,rfl,h1,h⟩:=h
  cases os with
  | nil=>cases (show r=[] from h); cases n
  | cons y os=>
   obtain⟨b,r,rfl,h2,h⟩:=h
   cases os with
   | nil=>cases (show r=[] from h); exact⟨x,y,a,b,rfl,rfl,h1,h2⟩
   | cons z os=>obtain⟨c,r,rfl,_,_⟩:=h; simp at n
theorem qQ (H:Hp):At H .oth .non:= .inl rfl
theorem jDJ (H:Hp)(i:Int):At H (.int i) (.int i):=rfl
theorem yE {H:Hp}{a:Addr}{vs:List V}{os:List Ob}(h:H a=some (.tup vs))(n:vs.length<=100)(r:Ats H os vs):At H (.tup os) (.ref a):=⟨a,vs,rfl,h,n,r⟩
theorem ats0 (H:Hp):Ats H [] []:=rfl
theorem ats1 {H:Hp}{o:Ob}{v:V}{os:List Ob}{vs:List V}(h:At H o v)(r:Ats H os vs):Ats H (o::os) (v::vs):=⟨v,vs,rfl,h,r⟩
theorem nay {A B:Prop}{c:Prop} [Decidable c](hc:¬ c)(h:B):if decide c=true then A else B:=by
 rw[aq hc,aB aw]
 exact h
theorem Ats.three {H:Hp}{os:List Ob}{vs:List V}(h:Ats H os vs)(n:vs.length=3):∃ x y z a b c,os=[x,y,z]/\vs=[a,b,c]/\At H x a/\At H y b/\At H z c:=by
 cases os with
 | nil=>cases (show vs=[] from h); cases n
 | cons x os=>
  obtain⟨a,r,rfl,h1,h⟩:=h
  obtain⟨y,z,b,c,rfl,rfl,h2,h3⟩:=Ats.two h (by simpa using n)
  exact⟨x,y,z,a,b,c,rfl,rfl,h1,h2,h3⟩
theorem jF8 {w:Int}{os:List Ob}(h:¬ os.length=2):jV w (.tup os)=false:=by
 match os,h with
 | [],_=>rfl
 | [_],_=>rfl
 | [_,_],h=>exact absurd rfl h
 | _::_::_::_,_=>rfl
theorem jLE {os:List Ob}(h:¬ os.length=3):bxB (.tup os)=false:=by
 match os,h with
 | [],_=>rfl
 | [_],_=>rfl
 | [_,_],_=>rfl
 | [_,_,_],h=>exact absurd rfl h
 | _::_::c::_::_,_=>cases c <;> rfl
theorem bx3 (x y z:Ob):bxB (.tup [x,y,z])=(upB 0 16 x&&lotB (val x) y&&psB (val x) z):=by
 cases z with
 | int i=>simp [bxB,psB]
 | oth=>simp [bxB,psB]
 | tup ps=>simp only [bxB,psB,Bool.and_assoc]
section
variable {P:Program}{w:World}{K:W.Frag}{mg:Str->Option Value}{base:Heap}
variable {f fW fR fL fG fI fPs:Addr}{fdW fdR fdL fdG fdI fdPs:FuncData}{cdv:Value}{A:Around}{outer:List Env}{s:Shared}{H0:Hp}{E:XK}
abbrev jK2:List Str:=["thing","many"]
theorem scPiece:FnScope jK2 ["thing","many"] (j9 jB6):=⟨rfl,rfl,rfl,by decide+kernel,rfl,by decide+kernel,by decide+kernel⟩
def jQJ (T:Txt mg)(CL:Can P w K mg base "is_lot" 3 fL fdL ["thing","many"] (spB2 lotB))(CG:Can P w K mg base "is_weight" 2 fG fdG ["thing"] (spB wtB))(hr:Room 3 (XOf jK2 "is_piece" jB6 P w K mg base f cdv A outer s H0 E).A):
  { t:TS // JSs (XOf jK2 "is_piece" jB6 P w K mg base f cdv A outer s H0 E) (jE jB6) t} :=
 have nd:=scPiece.nd
 ⟨_,(jA (jZ (jt_w (yJ (kX (kI (jH jQ gD T.isinstance (by decide+kernel) (j4 (jv 0 rfl vL) (j4 (kO (v:= .ty "tuple") gD T.tuple (by decide+kernel) rfl) j7 j6) j6) j6) jY)) (yL (jI xF (jH jP gD T.len (by decide+kernel) (j4 (jv 0 rfl vL) j7 j6) j6) (jC) (jK _))))) (jF (jN (qO))) jL)
   (jF (jN ((qM (CL.je hr gD (j4 (jW kY (jv 0 rfl vL) (jC) jJ) (j4 (jv 1 rfl vL) j7 j6) jO) jO) (qM (yV op_gt (jH jP gD T.len (by decide+kernel) (j4 (jW kY (jv 0 rfl vL) (jC) jJ) j7 jO) jO) (jC) (jK _)) (qL (CG.je (hr.mono (by decide)) gD (j4 (jW kY (jv 0 rfl vL) (jC) jJ) j7 jO) jO))))))))⟩
theorem jM9 {fd:FuncData}(F:Fun K "is_piece" "is_piece" jB6 f fd)(T:Txt mg)(CL:Can P w K mg base "is_lot" 3 fL fdL ["thing","many"] (spB2 lotB))(CG:Can P w K mg base "is_weight" 2 fG fdG ["thing"] (spB wtB)):
  FnOk P w K mg base CX0 4 f fd ["thing","many"] (spB2 jV):=by
 refine F.ok scPiece (fun vs H Q E h=>?_) (fun cdv A outer s H vs Q E hr h=>?_)
 ·obtain⟨_,_,_,rfl,_⟩:=h
  rfl
 ·obtain⟨v,o,w,rfl,hA,q⟩:=h
  obtain⟨t,ty,kt,_⟩:=hA.ty K
  refine⟨_,(jQJ T CL CG hr).2.h,?_⟩
  refine⟨_,rfl,_,_,_,_,rfl,ty,kt,_,rfl,?_⟩
  cases ht:isTup o with
  | false=>exact iteT (iteT (qb (q H (Ext.refl H)) (jF7 ht)))
  | true=>
   refine iteF ?_
   obtain⟨os,a,vs,rfl,rfl,ha,h100,hx⟩:=hA.tupOf ht
   have hl:=hx.len
   refine⟨_,rfl,a,_,rfl, .inr (SqT.of ha),rfl,_,rfl,?_⟩
   by_cases h2:vs.length=2
   ·refine iteNS (by rw[h2]; rfl) ?_
    obtain⟨x,y,a1,a2,rfl,rfl,hx1,hx2⟩:=hx.two h2
    refine⟨_,rfl,a,_,0,_,rfl,rfl,SqT.of ha,rfl,_,rfl,a1,x,w,rfl,hx1,fun H1 e1=>⟨_,rfl,?_⟩⟩
    cases hL:lotB w x with
    | false=>
     refine iteF (qb (q H1 e1) ?_)
     show (lotB w x&&_&&_)=false
     rw[hL]
     rfl
    | true=>
     refine iteT ?_
     have ht1:isTup x=true:=by cases x <;> first | rfl | cases hL
     obtain⟨ps,b,us,rfl,rfl,hb,_,hy⟩:=hx1.tupOf ht1
     have hl2:=hy.len
     refine⟨_,rfl,a,_,0,_,rfl,rfl,SqT.of (e1 _ _ ha),rfl,b,_,rfl, .inr (SqT.of (e1 _ _ hb)),_,_,rfl,rfl,_,rfl,ite2 (fun hz=>?_) (fun hz=>?_)⟩
     ·have hz:(0:Int)<us.length:=aj hz
      refine⟨_,rfl,a,_,1,_,rfl,rfl,SqT.of (e1 _ _ ha),rfl,a2,y,rfl,hx2.ext e1,fun H2 e2=>qb (q H2 (e1.trans e2)) ?_⟩
      have he:qN (.tup ps)=false:=by
       cases ps with
       | nil=>simp at hl2; subst hl2; simp at hz
       | cons _ _=>rfl
      show (lotB w _&&!qN _&&wtB y)=wtB y
      rw[hL,he]
      rfl
     ·have hz:¬ (0:Int)<us.length:=fun h=>hz (ah h)
      refine qb (q H1 e1) ?_
      have he:ps=[]:=bc.mp (by omega)
      subst he
      simp [jV,qN]
   ·have hb:(!decide (V.int (vs.length:Int)=V.int 2))=true:=by
     have:¬ V.int (vs.length:Int)=V.int 2:=fun e=>h2 (by have:=V.int.inj e; omega)
     simp [this]
    refine ite2 (fun _=>qb (q H (Ext.refl H)) (jF8 (by omega))) (fun hn=>absurd hb hn)
abbrev jE9:List Str:=["thing","many"]
theorem scPieces:FnScope jE9 ["thing","many"] (j9 qD):=⟨rfl,rfl,rfl,by decide+kernel,rfl,by decide+kernel,by decide+kernel⟩
def jOM {u:Tok}(T:Txt mg)(mP:mg "MOST_PIECES" =some (.int 32 u))(CI:Can P w K mg base "is_piece" 4 fI fdI ["thing","many"] (spB2 jV))(hr:Room 4 (XOf jE9 "are_pieces" qD P w K mg base f cdv A outer s H0 E).A):
  { t:TS // JSs (XOf jE9 "are_pieces" qD P w K mg base f cdv A outer s H0 E) (jE qD) t} :=
 have nd:=scPieces.nd
 ⟨_,(jA (jZ (jt_w (yJ (kX (kI (jH jQ gD T.isinstance (by decide+kernel) (j4 (jv 0 rfl vL) (j4 (kO (v:= .ty "tuple") gD T.tuple (by decide+kernel) rfl) j7 j6) j6) j6) jY)) (yL (jI op_gt (jH jP gD T.len (by decide+kernel) (j4 (jv 0 rfl vL) j7 j6) j6) (yM (v:= .int 32) gD mP ⟨_,rfl⟩) (jK _))))) (jF (jN (qO))) jL)
   (jF (jN (jH (jAA rfl) gD T.all (by decide+kernel) (j4 (yZ (m:=[none,some 1]) (Nc:=["piece","many"]) rfl (jD8 (jv 0 rfl vL)) rfl (by decide+kernel) (by decide+kernel) (yN (psc:=j9 qD) (by decide+kernel)) (kZ (N:=jE9) rfl rfl (by decide+kernel)) (fun cl C fp s H=>kU (i:=0) (show (["piece","many"]:List Str).Nodup by decide+kernel) rfl (xB (by decide+kernel))) (fun cl C fp s H=>qG) (fun cl C fp s H=>(CI.je hr (gl_b (by decide+kernel)) (j4 (jv 0 rfl (yR (by decide+kernel))) (j4 (jv 1 rfl (jER (by decide+kernel))) j7 j6) j6) j6)) jBF) j7 kW) kW))))⟩
theorem jJQ {u:Tok}{fd:FuncData}(F:Fun K "are_pieces" "are_pieces" qD f fd)(T:Txt mg)(mP:mg "MOST_PIECES" =some (.int 32 u))(CI:Can P w K mg base "is_piece" 4 fI fdI ["thing","many"] (spB2 jV)):FnOk P w K mg base CX0 5 f fd ["thing","many"] (spB2 psB):=by
 refine F.ok scPieces (fun vs H Q E h=>?_) (fun cdv A outer s H vs Q E hr h=>?_)
 ·obtain⟨_,_,_,rfl,_⟩:=h
  rfl
 ·obtain⟨v,o,w,rfl,hA,q⟩:=h
  obtain⟨t,ty,kt,_⟩:=hA.ty K
  refine⟨_,(jOM T mP CI hr).2.h,?_⟩
  refine⟨_,rfl,_,_,_,_,rfl,ty,kt,_,rfl,?_⟩
  cases ht:isTup o with
  | false=>exact iteT (iteT (qb (q H (Ext.refl H)) (jNE ht)))
  | true=>
   refine iteF ?_
   obtain⟨os,a,vs,rfl,rfl,ha,h100,hx⟩:=hA.tupOf ht
   have hl:=hx.len
   refine⟨_,rfl,a,_,rfl, .inr (SqT.of ha),_,_,rfl,rfl,_,rfl,ite2 (fun hz=>?_) (fun hz=>?_)⟩
   ·have hz:(32:Int)<vs.length:=aj hz
    refine qb (q H (Ext.refl H)) ?_
    show (decide _&&_)=false
    rw[aq (by omega),ba]
   ·have hz:¬ (32:Int)<vs.length:=fun h=>hz (ah h)
    refine⟨_,rfl,a,rfl,⟨_,SqT.of ha⟩,jDG (F:=jV w) ha hx (by rw[ai]; omega) (fun σ'=>∃ v,σ'=[v,some (.int w)]) ⟨_,rfl⟩ ?_ ?_⟩
    ·rintro σ' H' v o R S ⟨u,rfl⟩ e hA k
     dsimp only [yF,qT]
     rw[aA rfl]
     exact⟨_,rfl,_,rfl,v,o,w,rfl,hA,fun H'' e2=>k _ H'' ⟨_,rfl⟩ e2⟩
    ·intro D H1 e1 hD
     refine⟨D,_,rfl,SqL.of hD,?_⟩
     rw[jLN]
     refine qb (q H1 e1) ?_
     show (decide _&&_)=_
     rw[ah (by omega),bC]
abbrev jK4:List Str:=["thing","many"]
theorem scIsBox:FnScope jK4 ["thing"] (j9 jB8):=⟨rfl,rfl,rfl,by decide+kernel,rfl,by decide+kernel,by decide+kernel⟩
def jRL {u:Tok}(T:Txt mg)(mT:mg "MOST_THINGS" =some (.int 16 u))(CW:Can P w K mg base "is_whole" 1 fW fdW ["thing"] spWh)(CL:Can P w K mg base "is_lot" 3 fL fdL ["thing","many"] (spB2 lotB))(CPs:Can P w K mg base "are_pieces" 5 fPs fdPs ["thing","many"] (spB2 psB))(hr:Room 5 (XOf jK4 "is_box" jB8 P w K mg base f cdv A outer s H0 E).A):
  { t:TS // JSs (XOf jK4 "is_box" jB8 P w K mg base f cdv A outer s H0 E) (jE jB8) t} :=
 have nd:=scIsBox.nd
 ⟨_,(jA (jZ (jt_w (yJ (kX (kI (jH jQ gD T.isinstance (by decide+kernel) (j4 (jv 0 rfl vL) (j4 (kO (v:= .ty "tuple") gD T.tuple (by decide+kernel) rfl) j7 j6) j6) j6) jY)) (yL (jI xF (jH jP gD T.len (by decide+kernel) (j4 (jv 0 rfl vL) j7 j6) j6) (jC) (jK _))))) (jF (jN (qO))) jL)
   (jA (jR (i:=1) nd rfl lL (jW kY (jv 0 rfl vL) (jC) jJ) jCU)
   (jA (jZ (jt_w (yJ (kX (kI (CW.je (hr.mono (by decide)) gD (j4 (jv 1 rfl vL) j7 j6) j6) jY)) (yJ (jI op_lt (jv 1 rfl vL) (jC) (jK _)) (yL (jI op_gt (jv 1 rfl vL) (yM (v:= .int 16) gD mT ⟨_,rfl⟩) (jK _)))))) (jF (jN (qO))) jL)
   (jF (jN ((qM (CL.je (hr.mono (by decide)) gD (j4 (jW kY (jv 0 rfl vL) (jC) jJ) (j4 (jv 1 rfl vL) j7 j6) jO) jO) (qL (CPs.je hr gD (j4 (jW kY (jv 0 rfl vL) (jC) jJ) (j4 (jv 1 rfl vL) j7 j6) jO) jO)))))))))⟩
theorem jME {u:Tok}{fd:FuncData}(F:Fun K "is_box" "is_box" jB8 f fd)(T:Txt mg)(mT:mg "MOST_THINGS" =some (.int 16 u))(CW:Can P w K mg base "is_whole" 1 fW fdW ["thing"] spWh)(CL:Can P w K mg base "is_lot" 3 fL fdL ["thing","many"] (spB2 lotB))(CPs:Can P w K mg base "are_pieces" 5 fPs fdPs ["thing","many"] (spB2 psB)):
  FnOk P w K mg base CX0 6 f fd ["thing"] (spB bxB):=by
 refine F.ok scIsBox (fun vs H Q E h=>?_) (fun cdv A outer s H vs Q E hr h=>?_)
 ·obtain⟨_,_,rfl,_⟩:=h
  rfl
 ·obtain⟨v,o,rfl,hA,q⟩:=h
  obtain⟨t,ty,kt,_⟩:=hA.ty K
  refine⟨_,(jRL T mT CW CL CPs hr).2.h,?_⟩
  refine⟨_,rfl,_,_,_,_,rfl,ty,kt,_,rfl,?_⟩
  cases ht:isTup o with
  | false=>exact iteT (iteT (qb (q H (Ext.refl H)) (jLD ht)))
  | true=>
   refine iteF ?_
   obtain⟨os,a,vs,rfl,rfl,ha,h100,hx⟩:=hA.tupOf ht
   have hl:=hx.len
   refine⟨_,rfl,a,_,rfl, .inr (SqT.of ha),rfl,_,rfl,?_⟩
   by_cases h3:vs.length=3
   ·refine iteNS (by rw[h3]; rfl) ?_
    obtain⟨x,y,z,a1,a2,a3,rfl,rfl,hx1,hx2,hx3⟩:=hx.three h3
    have e3:=bx3 x y z
    refine⟨_,rfl,a,_,0,_,rfl,rfl,SqT.of ha,rfl,?_⟩
    refine⟨_,rfl,a1,x,rfl,hx1,_,rfl,?_⟩
    cases x with
    | oth=>exact iteT (iteT (qb (q H (Ext.refl H)) (by rw[e3]; rfl)))
    | tup _=>exact iteT (iteT (qb (q H (Ext.refl H)) (by rw[e3]; rfl)))
    | int w=>
     cases (show a1= .int w from hx1)
     refine iteF ?_
     refine⟨_,rfl,_,_,rfl,rfl,_,rfl,ite2 (fun hz=>?_) (fun hz=>?_)⟩
     ·have hz:w<0:=aj hz
      refine iteT (qb (q H (Ext.refl H)) ?_)
      rw[e3]
      show (decide (0<=w)&&_&&_&&_)=false
      rw[aq (by omega)]
      rfl
     ·have hz:¬ w<0:=fun h=>hz (ah h)
      refine⟨_,rfl,_,_,rfl,rfl,_,rfl,ite2 (fun hy=>?_) (fun hy=>?_)⟩
      ·have hy:(16:Int)<w:=aj hy
       refine qb (q H (Ext.refl H)) ?_
       rw[e3]
       show (decide (0<=w)&&decide (w<=16)&&_&&_)=false
       rw[aq (show ¬ w<=16 by omega)]
       simp
      ·have hy:¬ (16:Int)<w:=fun h=>hy (ah h)
       have e4:bxB (.tup [.int w,y,z])=(lotB w y&&psB w z):=by
        rw[e3]
        show (decide (0<=w)&&decide (w<=16)&&lotB w y&&psB w z)=_
        rw[ah (show 0<=w by omega),ah (show w<=16 by omega)]
        simp
       refine⟨_,rfl,a,_,1,_,rfl,rfl,SqT.of ha,rfl,_,rfl,a2,y,w,rfl,hx2,fun H1 e1=>⟨_,rfl,?_⟩⟩
       cases hL:lotB w y with
       | false=>
        refine iteF (qb (q H1 e1) ?_)
        rw[e4,hL]
        rfl
       | true=>
        refine iteT ⟨_,rfl,a,_,2,_,rfl,rfl,SqT.of (e1 _ _ ha),rfl,_,rfl,a3,z,w,rfl,hx3.ext e1,fun H2 e2=>qb (q H2 (e1.trans e2)) ?_⟩
        rw[e4,hL,bC]
   ·have hb:(!decide (V.int (vs.length:Int)=V.int 3))=true:=by
     have:¬ V.int (vs.length:Int)=V.int 3:=fun e=>h3 (by have:=V.int.inj e; omega)
     simp [this]
    refine ite2 (fun _=>qb (q H (Ext.refl H)) (jLE (by omega))) (fun hn=>absurd hb hn)
end
section
variable {P:Program}{w:World}{K:W.Frag}{mg:Str->Option Value}{base:Heap}
variable {f fW fR fU:Addr}{fdW fdR fdU:FuncData}{cdv:Value}{A:Around}{outer:List Env}{s:Shared}{H0:Hp}{E:XK}
abbrev jHC:List Str:=["found"]
theorem scWhole:FnScope jHC ["found"] (j9 qJ):=⟨rfl,rfl,rfl,by decide+kernel,rfl,by decide+kernel,by decide+kernel⟩
def jQ0 (T:Txt mg): { t:TS // JSs (XOf jHC "_law_whole" qJ P w K mg base f cdv A outer s H0 E) (jE qJ) t} :=
 have nd:=scWhole.nd
 ⟨_,(jF (jN ((qM (jH jQ gD T.isinstance (by decide+kernel) (j4 (jv 0 rfl vL) (j4 (kO (v:= .ty "int") gD T.int (by decide+kernel) rfl) j7 j6) j6) j6) (qL (jKL (jH jQ gD T.isinstance (by decide+kernel) (j4 (jv 0 rfl vL) (j4 (kO (v:= .ty "bool") gD T.bool (by decide+kernel) rfl) j7 j6) j6) j6)))))))⟩
theorem jM7 {fd:FuncData}(F:Fun K "_law_whole" "_law_whole" qJ f fd)(T:Txt mg):FnOk P w K mg base CX0 1 f fd ["found"] spWh:=by
 refine F.ok scWhole (fun vs H Q E h=>?_) (fun cdv A outer s H vs Q E hr h=>?_)
 ·obtain⟨_,_,rfl,_⟩:=h
  rfl
 ·obtain⟨v,o,rfl,hA,q⟩:=h
  obtain⟨t,ty,_,b1,b2,k1,k2,e⟩:=hA.ty K
  refine⟨_,(jQ0 T).2.h,?_⟩
  refine⟨_,rfl,_,_,_,b1,rfl,ty,k1,b1,rfl,?_⟩
  rw[<- e] at q
  cases b1 with
  | true=>exact iteT ⟨_,rfl,_,_,_,b2,rfl,ty,k2,b2,rfl,q⟩
  | false=>exact iteF q
noncomputable abbrev nUpto:List Str:=["thing","least","most"]
theorem scUpto:FnScope nUpto ["thing","least","most"] (j9 sUpto):=⟨rfl,rfl,rfl,by decide+kernel,rfl,by decide+kernel,by decide+kernel⟩
def spUp:Sp:=fun vs H Q _=>∃ v o lo hi,vs=[v, .int lo, .int hi]/\At H o v/\Q (.bl (upB lo hi o)) H
def uptoA (T:Txt mg)(CW:Can P w K mg base "_law_whole" 1 fW fdW ["found"] spWh)(hr:Room 1 (XOf nUpto "_law_upto" sUpto P w K mg base f cdv A outer s H0 E).A): { t:TS // JSs (XOf nUpto "_law_upto" sUpto P w K mg base f cdv A outer s H0 E) (jE sUpto) t} :=
 have nd:=scUpto.nd
 ⟨_,(jF (jN ((qM (CW.je hr gD (j4 (jv 0 rfl vL) j7 j6) j6) (qL (jHH op_le op_le (jv 1 rfl vL) (jv 0 rfl vL) (jv 2 rfl vL)))))))⟩
theorem jP0 {fd:FuncData}(F:Fun K "_law_upto" "_law_upto" sUpto f fd)(T:Txt mg)(CW:Can P w K mg base "_law_whole" 1 fW fdW ["found"] spWh):FnOk P w K mg base CX0 2 f fd ["thing","least","most"] spUp:=by
 refine F.ok scUpto (fun vs H Q E h=>?_) (fun cdv A outer s H vs Q E hr h=>?_)
 ·obtain⟨_,_,_,_,rfl,_⟩:=h
  rfl
 ·obtain⟨v,o,lo,hi,rfl,hA,q⟩:=h
  refine⟨_,(uptoA T CW hr).2.h,?_⟩
  refine⟨_,rfl,v,o,rfl,hA,_,rfl,?_⟩
  cases o with
  | int i=>
   cases (show v= .int i from hA)
   refine iteT ⟨_,rfl,_,rfl,_,_,rfl,rfl,_,rfl,ite2 (fun hy=>?_) (fun hy=>?_)⟩
   ·refine⟨_,rfl,_,_,rfl,rfl,qb q ?_⟩
    have hy:lo<=i:=aj hy
    show (decide _&&decide _)=decide _
    rw[ah hy,bC]
   ·refine qb q ?_
    have hy:¬ lo<=i:=fun h=>hy (ah h)
    show (decide _&&decide _)=false
    rw[aq hy,ba]
  | oth=>exact iteF q
  | tup os=>exact iteF q
noncomputable abbrev nLotR:List Str:=["thing","wide"]
theorem scLotR:FnScope nLotR ["thing","wide"] (j9 xE):=⟨rfl,rfl,rfl,by decide+kernel,rfl,by decide+kernel,by decide+kernel⟩
def lotRA (T:Txt mg)(CU:Can P w K mg base "_law_upto" 2 fU fdU ["thing","least","most"] spUp)(hr:Room 2 (XOf nLotR "_law_lot_right" xE P w K mg base f cdv A outer s H0 E).A): { t:TS // JSs (XOf nLotR "_law_lot_right" xE P w K mg base f cdv A outer s H0 E) (jE xE) t} :=
 have nd:=scLotR.nd
 ⟨_,(jA (jZ (jt_w (yJ (kX (kI (jH jQ gD T.isinstance (by decide+kernel) (j4 (jv 0 rfl vL) (j4 (kO (v:= .ty "tuple") gD T.tuple (by decide+kernel) rfl) j7 j6) j6) j6) jY)) (yL (kX (kI (jH (jAA rfl) gD T.all (by decide+kernel) (j4 (yZ (m:=[none,some 1]) (Nc:=["one","wide"]) rfl (jD8 (jv 0 rfl vL)) rfl (by decide+kernel) (by decide+kernel) (yN (psc:=j9 xE) (by decide+kernel)) (kZ (N:=nLotR) rfl rfl (by decide+kernel)) (fun cl C fp s H=>kU (i:=0) (show (["one","wide"]:List Str).Nodup by decide+kernel) rfl (xB (by decide+kernel))) (fun cl C fp s H=>qG) (fun cl C fp s H=>(CU.je hr (gl_b (by decide+kernel)) (j4 (jv 0 rfl (yR (by decide+kernel))) (j4 (jC) (j4 (kQ jD0 (jv 1 rfl (jER (by decide+kernel))) (jC)) j7 qI) jB) j6) j6)) jBF) j7 kW) kW) jY))))) (jF (jN (qO))) jL)
   (jF (jN (jH (jAA rfl) gD T.all (by decide+kernel) (j4 (yZ (m:=[none,none]) (Nc:=["one","other"]) rfl (jNO gD T.zip (j4 (jv 0 rfl vL) (j4 (kG jO7 (jv 0 rfl vL) (kT (jC)) y0) j7 jO) j6) j6) rfl (by decide+kernel) (by decide+kernel) (yN (psc:=j9 xE) (by decide+kernel)) (kZ (N:=nLotR) rfl rfl (by decide+kernel)) (fun cl C fp s H=>jFM (i:=0) (j:=1) rfl (show (["one","other"]:List Str).Nodup by decide+kernel) rfl rfl (by decide+kernel) (by decide+kernel)) (fun cl C fp s H=>qG) (fun cl C fp s H=>(yV op_lt (jv 0 rfl (yR (by decide+kernel))) (jv 1 rfl (yR (by decide+kernel))) (jK _))) jAI) j7 kW) kW))))⟩
theorem jP3 {fd:FuncData}(F:Fun K "_law_lot_right" "_law_lot_right" xE f fd)(T:Txt mg)(CU:Can P w K mg base "_law_upto" 2 fU fdU ["thing","least","most"] spUp):FnOk P w K mg base CX0 3 f fd ["thing","wide"] (spB2 lotB):=by
 refine F.ok scLotR (fun vs H Q E h=>?_) (fun cdv A outer s H vs Q E hr h=>?_)
 ·obtain⟨_,_,_,rfl,_⟩:=h
  rfl
 ·obtain⟨v,o,w,rfl,hA,q⟩:=h
  obtain⟨t,ty,kt,_⟩:=hA.ty K
  refine⟨_,(lotRA T CU hr).2.h,?_⟩
  refine⟨_,rfl,_,_,_,_,rfl,ty,kt,_,rfl,?_⟩
  cases ht:isTup o with
  | false=>exact iteT (iteT (qb (q H (Ext.refl H)) (jPG ht)))
  | true=>
   refine iteF ?_
   obtain⟨os,a,vs,rfl,rfl,ha,h100,hx⟩:=hA.tupOf ht
   have hl:=hx.len
   have hn:vs.length<sizeLine:=by rw[ai]; omega
   refine⟨_,rfl,a,rfl,⟨_,SqT.of ha⟩,jDG (F:=upB 0 (w - 1)) ha hx hn (fun σ'=>∃ v,σ'=[v,some (.int w)]) ⟨_,rfl⟩ ?_ ?_⟩
   ·rintro σ' H' v o R S ⟨u,rfl⟩ e hA k
    dsimp only [yF,qT]
    rw[aA rfl]
    exact⟨_,rfl,_,rfl,_,_,rfl,rfl,v,o,0,w - 1,rfl,hA,k _ H' ⟨_,rfl⟩ (Ext.refl _)⟩
   ·intro D H1 e1 hD
    refine⟨D,_,rfl,SqL.of hD,_,rfl,?_⟩
    rw[jLN]
    cases hi:os.all (upB 0 (w - 1)) with
    | false=>
     refine iteT (qb (q H1 e1) ?_)
     show (os.all (upB 0 (w - 1))&&_)=false
     rw[hi]
     rfl
    | true=>
     refine iteF ?_
     have hint:os.all isInt=true:=by
      rw[aD] at hi ⊢
      intro x hx
      have:=hi x hx
      cases x with
      | int i=>rfl
      | oth=>cases this
      | tup r=>cases this
     have hv:=hx.allInt hint
     have ha1:=e1 _ _ ha
     have hml:(os.map val).length=vs.length:=by rw[af,hl]
     refine⟨_,rfl,_,rfl,1,rfl,a,_,rfl,ha1,fun r H2 hr2 e2=>?_⟩
     have ecut:cutV vs (some 1) none=vs.drop 1:=by
      unfold cutV
      have s1:HT.sIx vs.length 0 (some 1)=min 1 vs.length:=HT.sIx_nat _ _ 1
      rw[s1,HT.sIx_none]
      by_cases h1:vs.length=0
      ·have:vs=[]:=bc.mp h1
       subst this
       rfl
      ·rw[show min 1 vs.length=1 by omega]
       exact bU (by rw[bW]; omega)
     rw[ecut] at hr2
     refine⟨true,true,a,r,rfl,⟨_,SqT.of (e2 _ _ ha1)⟩,⟨_,SqT.of hr2⟩,jHL (xs:=vs) (ys:=vs.drop 1) hn (fun D i σ' H' zs=>(∃ v1 v2,σ'=[v1,v2])/\zs=((adj (os.map val)).take i).map V.bl/\Ext H2 H'/\H' D=some (.lst zs)/\H2 D=none) ?_ ?_ ?_ ?_⟩
     ·intro D hD
      exact⟨⟨_,_,rfl⟩,rfl,(Ext.refl _).new hD _,j8,hD⟩
     ·rintro D i σ' H' zs hD ⟨_,rfl,ex,h2,_⟩
      refine⟨SqT.of (ex _ _ (e2 _ _ ha1)),SqT.of (ex _ _ hr2),h2,?_⟩
      rw[af,bb]
      omega
     ·rintro D i σ' H' zs x y t hD hx1 hy1 ht1 ⟨⟨v1,v2,rfl⟩,rfl,ex,h2,hn2⟩
      rw[List.getElem?_drop,g8] at hy1
      have hlt:i+1<vs.length:=(aV.mp hy1).1
      rw[hv,getI (by omega)] at hx1 hy1
      cases hx1
      cases hy1
      have tD:D≠t:=jD h2 ht1
      refine⟨t,_,rfl,SqT.of j8,rfl,_,_,rfl,_,_,rfl,rfl,?_⟩
      dsimp only [yF,qT]
      rw[aA rfl]
      refine⟨_,rfl,_,rfl,_,_,rfl,rfl,by rw[jG tD]; exact h2,⟨_,_,rfl⟩,?_,(ex.new ht1 _).updNew hn2 _,j8,hn2⟩
      rw[jHU (by omega),aS]
      rfl
     ·rintro D2 σ' H' zs hD2 ⟨_,rfl,ex,h2,_⟩
      have hlen:min vs.length (vs.drop 1).length=(adj (os.map val)).length:=by
       rw[jLO,bW]
       omega
      rw[hlen,bX] at h2
      refine⟨D2,_,rfl,SqL.of h2,qb (q H' ((e1.trans e2).trans ex)) ?_⟩
      show (os.all (upB 0 (w - 1))&&_)=_
      rw[hi,bC]
end
theorem jRP {ps:List Ob}{F:Ob->Bool}{i:Nat}{o:Ob}(h:ps[i]?=some o)(e:F o=false):ps.all F=false:=by
 rw[cS]
 intro q
 rw[aD] at q
 have:=q o (bq h)
 rw[e] at this
 cases this
theorem jEV {lo hi:Int}{o:Ob}(h:upB lo hi o=true):∃ i,o= .int i/\lo<=i/\i<=hi:=by
 cases o with
 | int i=>
  have:(decide (lo<=i)&&decide (i<=hi))=true:=h
  rw[aL] at this
  exact⟨i,rfl,aj this.1,aj this.2⟩
 | oth=>cases h
 | tup r=>cases h
theorem jKC {w:Int}{o:Ob}(h:lotB w o=true):isTup o=true:=by cases o <;> first | rfl | cases h
section
variable {P:Program}{w:World}{K:W.Frag}{mg:Str->Option Value}{base:Heap}
variable {f fR fU:Addr}{fdR fdU:FuncData}{cdv:Value}{A:Around}{outer:List Env}{s:Shared}{H0:Hp}{E:XK}
noncomputable abbrev nBoxR:List Str:=["thing","wide","mays","pieces","piece"]
theorem scBoxR:FnScope nBoxR ["thing"] (j9 sBoxR):=⟨rfl,rfl,rfl,by decide+kernel,rfl,by decide+kernel,by decide+kernel⟩
def boxRA (T:Txt mg)(CU:Can P w K mg base "_law_upto" 2 fU fdU ["thing","least","most"] spUp)(CR:Can P w K mg base "_law_lot_right" 3 fR fdR ["thing","wide"] (spB2 lotB))(hr:Room 3 (XOf nBoxR "_law_box_right" sBoxR P w K mg base f cdv A outer s H0 E).A):
  { t:TS // JSs (XOf nBoxR "_law_box_right" sBoxR P w K mg base f cdv A outer s H0 E) (jE sBoxR) t} :=
 have nd:=scBoxR.nd
 ⟨_,(jA (jZ (jt_w (yJ (kX (kI (jH jQ gD T.isinstance (by decide+kernel) (j4 (jv 0 rfl vL) (j4 (kO (v:= .ty "tuple") gD T.tuple (by decide+kernel) rfl) j7 j6) j6) j6) jY)) (yJ (jI xF (jH jP gD T.len (by decide+kernel) (j4 (jv 0 rfl vL) j7 j6) j6) (jC) (jK _)) (yL (kX (kI (CU.je (hr.mono (by decide)) gD (j4 (jW kY (jv 0 rfl vL) (jC) jJ) (j4 (jC) (j4 (jC) j7 jB) jB) jO) jO) jY)))))) (jF (jN (qO))) jL)
   (jA (jRG (jv 0 rfl vL) (jMP (i:=1) (j:=2) (l:=3) nd rfl rfl rfl (by decide+kernel) (by decide+kernel) (by decide+kernel)))
   (jA (jZ (jt_w (yJ (kX (kI (CR.je hr gD (j4 (jv 2 rfl vL) (j4 (jv 1 rfl vL) j7 j6) j6) j6) jY)) (yJ (kX (kI (jH jQ gD T.isinstance (by decide+kernel) (j4 (jv 3 rfl vL) (j4 (kO (v:= .ty "tuple") gD T.tuple (by decide+kernel) rfl) j7 j6) j6) j6) jY)) (yL (jI op_gt (jH jP gD T.len (by decide+kernel) (j4 (jv 3 rfl vL) j7 j6) j6) (jC) (jK _)))))) (jF (jN (qO))) jL)
   (jA (jDU cL rfl (jD8 (jv 3 rfl vL)) (kU (i:=4) nd rfl lL) (jA (jZ (jt_w (yJ (kX (kI (jH jQ gD T.isinstance (by decide+kernel) (j4 (jv 4 rfl vL) (j4 (kO (v:= .ty "tuple") gD T.tuple (by decide+kernel) rfl) j7 j6) j6) j6) jY)) (yJ (jI xF (jH jP gD T.len (by decide+kernel) (j4 (jv 4 rfl vL) j7 j6) j6) (jC) (jK _)) (yL (kX (kI (CR.je hr gD (j4 (jW kY (jv 4 rfl vL) (jC) jJ) (j4 (jv 1 rfl vL) j7 j6) jO) jO) jY)))))) (jF (jN (qO))) jL)
   (jF (jZ (jt_w (yJ (jI (jNJ hr.units0) (jW kY (jv 4 rfl vL) (jC) jJ) (jDV j7) (jK _)) (yL (kX (kI (CU.je (hr.mono (by decide)) gD (j4 (jW kY (jv 4 rfl vL) (jC) jJ) (j4 (je_un jIJ jHG) (j4 (jHG) j7 qI) se_un) jO) jO) jY))))) (jF (jN (qO))) jL))) jBF)
   (jF (jN (qO)))))))⟩
theorem jP8 {fd:FuncData}(F:Fun K "_law_box_right" "_law_box_right" sBoxR f fd)(T:Txt mg)(CU:Can P w K mg base "_law_upto" 2 fU fdU ["thing","least","most"] spUp)(CR:Can P w K mg base "_law_lot_right" 3 fR fdR ["thing","wide"] (spB2 lotB)):
  FnOk P w K mg base CX0 4 f fd ["thing"] (spB bxB):=by
 refine F.ok scBoxR (fun vs H Q E h=>?_) (fun cdv A outer s H vs Q E hr h=>?_)
 ·obtain⟨_,_,rfl,_⟩:=h
  rfl
 ·obtain⟨v,o,rfl,hA,q⟩:=h
  obtain⟨t,ty,kt,_⟩:=hA.ty K
  refine⟨_,(boxRA T CU CR hr).2.h,?_⟩
  refine⟨_,rfl,_,_,_,_,rfl,ty,kt,_,rfl,?_⟩
  cases ht:isTup o with
  | false=>exact iteT (iteT (qb (q H (Ext.refl H)) (jLD ht)))
  | true=>
   refine iteF ?_
   obtain⟨os,a,vs,rfl,rfl,ha,h100,hx⟩:=hA.tupOf ht
   have hl:=hx.len
   refine⟨_,rfl,a,_,rfl, .inr (SqT.of ha),rfl,_,rfl,?_⟩
   by_cases h3:vs.length=3
   ·refine iteNS (by rw[h3]; rfl) ?_
    obtain⟨x,y,z,a1,a2,a3,rfl,rfl,hx1,hx2,hx3⟩:=hx.three h3
    have e3:=bx3 x y z
    refine⟨_,rfl,a,_,0,_,rfl,rfl,SqT.of ha,rfl,a1,x,0,16,rfl,hx1,_,rfl,?_⟩
    cases hu:upB 0 16 x with
    | false=>
     refine iteT (qb (q H (Ext.refl H)) ?_)
     rw[e3,hu]
     rfl
    | true=>
     refine iteF ?_
     obtain⟨w,rfl,w0,w1⟩:=jEV hu
     cases (show a1= .int w from hx1)
     have e4:bxB (.tup [.int w,y,z])=(lotB w y&&psB w z):=by
      rw[e3,hu,bC]
      rfl
     refine⟨_,rfl,a,_,rfl,SqT.of ha,rfl,_,_,rfl,_,_,rfl,_,_,rfl,rfl,?_⟩
     refine⟨_,rfl,_,rfl,a2,y,w,rfl,hx2,fun H1 e1=>⟨_,rfl,?_⟩⟩
     cases hL:lotB w y with
     | false=>
      refine iteT (iteT (qb (q H1 e1) ?_))
      rw[e4,hL]
      rfl
     | true=>
      refine iteF ?_
      have hz:=hx3.ext e1
      obtain⟨t3,ty3,kt3,_⟩:=hz.ty K
      refine⟨_,rfl,_,_,_,_,rfl,ty3,kt3,_,rfl,?_⟩
      cases ht3:isTup z with
      | false=>
       refine iteT (iteT (qb (q H1 e1) ?_))
       rw[e4,jNE ht3,aX]
      | true=>
       refine iteF ?_
       obtain⟨ps,b,us,rfl,rfl,hb,h100',hy⟩:=hz.tupOf ht3
       have hl3:=hy.len
       have e5:bxB (.tup [.int w,y, .tup ps])=(decide (ps.length<=32)&&ps.all (jV w)):=by
        rw[e4,hL,bC]
        rfl
       refine⟨_,rfl,b,_,rfl, .inr (SqT.of hb),_,_,rfl,rfl,_,rfl,ite2 (fun hz=>?_) (fun hz=>?_)⟩
       ·have hz:(32:Int)<us.length:=aj hz
        refine qb (q H1 e1) ?_
        rw[e5,aq (by omega),ba]
       ·have hz:¬ (32:Int)<us.length:=fun h=>hz (ah h)
        have e6:bxB (.tup [.int w,y, .tup ps])=ps.all (jV w):=by rw[e5,ah (by omega),bC]
        refine⟨_,rfl,b,rfl,⟨_,SqT.of hb⟩,jKV (xs:=us) (fun i σ H'=>(∃ v4,σ=[some (.ref a),some (.int w),some a2,some (.ref b),v4])/\Ext H1 H'/\(ps.take i).all (jV w)=true) ⟨⟨_,rfl⟩,Ext.refl _,rfl⟩ (fun i σ H' _ ⟨_,e,_⟩=>SqT.of (e _ _ hb)) ?_ ?_⟩
        ·rintro i p σ H2 hi ⟨⟨v4,rfl⟩,e2,hp⟩
         obtain⟨o,ho,hAo⟩:=hy.get hi
         have hAo:=hAo.ext e2
         obtain⟨to,tyo,kto,_⟩:=hAo.ty K
         have no:∀ H',Ext H2 H'->jV w o=false->Q (.bl false) H':=fun H' e' z=>qb (q H' ((e1.trans e2).trans e')) (by rw[e6,jRP ho z])
         refine⟨_,rfl,_,_,_,_,rfl,tyo,kto,_,rfl,?_⟩
         cases hto:isTup o with
         | false=>exact iteT (iteT (no H2 (Ext.refl _) (jF7 hto)))
         | true=>
          refine iteF ?_
          obtain⟨qs,c,ws,rfl,rfl,hc,h100'',hw⟩:=hAo.tupOf hto
          have hl4:=hw.len
          refine⟨_,rfl,c,_,rfl, .inr (SqT.of hc),rfl,_,rfl,?_⟩
          by_cases h2:ws.length=2
          ·refine iteNS (by rw[h2]; rfl) ?_
           obtain⟨x',y',c1,c2,rfl,rfl,hx1',hx2'⟩:=hw.two h2
           have ep:jV w (.tup [x',y'])=(lotB w x'&&!qN x'&&wtB y'):=rfl
           refine⟨_,rfl,c,_,0,_,rfl,rfl,SqT.of hc,rfl,_,rfl,c1,x',w,rfl,hx1',fun H3 e3'=>⟨_,rfl,?_⟩⟩
           cases hL':lotB w x' with
           | false=>
            refine iteT (no H3 e3' ?_)
            rw[ep,hL']
            rfl
           | true=>
            refine iteF ?_
            obtain⟨rs,d,zs,rfl,rfl,hd,_,hzs⟩:=hx1'.tupOf (jKC hL')
            have hl5:=hzs.len
            have hc3:=e3' _ _ hc
            have hd3:=e3' _ _ hd
            refine⟨_,rfl,c,_,0,_,rfl,rfl,SqT.of hc3,rfl,(by show 0<=sizeLine; exact aJ _),fun zz hzz=>⟨d,zz,zs,rfl,rfl,SqT.of ?_,SqT.of j8,_,rfl,?_⟩⟩
            ·rw[jG (jD hd3 hzz)]
             exact hd3
            have e4':Ext H3 (upd H3 zz (.tup [])):=(Ext.refl _).new hzz _
            generalize upd H3 zz (.tup [])=H4 at e4' ⊢
            refine ite2 (fun he=>?_) (fun he=>?_)
            ·have he:zs=[]:=aj he
             have:rs=[]:=bc.mp (by rw[<- hl5,he]; rfl)
             subst this
             refine iteT (no H4 (e3'.trans e4') ?_)
             rw[ep,hL']
             rfl
            ·have he:¬ zs=[]:=fun h=>he (ah h)
             have hem:qN (.tup rs)=false:=by
              cases rs with
              | nil=>exact absurd (bc.mp hl5) he
              | cons _ _=>rfl
             refine⟨_,rfl,c,_,1,_,rfl,rfl,SqT.of (e4' _ _ hc3),rfl,_,rfl,c2,y',_,_,rfl,hx2'.ext (e3'.trans e4'),_,rfl,?_⟩
             have epw:jV w (.tup [.tup rs,y'])=wtB y':=by
              rw[ep,hL',hem]
              rfl
             cases hwt:upB (-1000000000000) 1000000000000 y' with
             | false=>exact iteT (no H4 (e3'.trans e4') (by rw[epw]; exact hwt))
             | true=>
              refine iteF ⟨⟨_,rfl⟩,(e2.trans e3').trans e4',?_⟩
              have:ps.take (i+1)=ps.take i++[.tup [.tup rs,y']]:=by
               rw[cT,ho]
               rfl
              rw[this,List.all_append,hp,dn,epw]
              show (true&&(wtB y'&&true))=true
              rw[show wtB y'=true from hwt]
              rfl
          ·have hb':(!decide (V.int (ws.length:Int)=V.int 2))=true:=by
            have:¬ V.int (ws.length:Int)=V.int 2:=fun e=>h2 (by have:=V.int.inj e; omega)
            simp [this]
           exact ite2 (fun _=>iteT (no H2 (Ext.refl _) (jF8 (by omega)))) (fun hn=>absurd hb' hn)
        ·rintro σ H2 ⟨⟨v4,rfl⟩,e2,hp⟩
         rw[hl3,bX] at hp
         exact qb (q H2 (e1.trans e2)) (by rw[e6,hp])
   ·have hb:(!decide (V.int (vs.length:Int)=V.int 3))=true:=by
     have:¬ V.int (vs.length:Int)=V.int 3:=fun e=>h3 (by have:=V.int.inj e; omega)
     simp [this]
    exact ite2 (fun _=>iteT (qb (q H (Ext.refl H)) (jLE (by omega)))) (fun hn=>absurd hb hn)
end
end Eo
end
section
namespace Tx
open PySem PyProof.Rows PySem.NumText
theorem jL3:(("-" :String):PySem.Str)=⟨#[45]⟩:=by decide+kernel
theorem jBT:(("0" :String):PySem.Str)=⟨#[48]⟩:=by decide+kernel
theorem jG6 (x:PySem.Str):(decide (0+((("-" :String):PySem.Str)).length<=x.length)&&Builtin.Str.subAt x (("-" :String):PySem.Str) 0)=decide (x.cps.toList.head?=some 45):=by
 rw[jL3]
 unfold Builtin.Str.subAt
 obtain⟨⟨l⟩⟩:=x
 cases l with
 | nil=>rfl
 | cons c r=>
  have e:(⟨c::r⟩:Array Nat).extract 0 (0+(⟨#[45]⟩:PySem.Str).length)=#[c]:=by
   apply ext'
   rw[gH]
   rfl
  have e2:decide (0+(⟨#[45]⟩:PySem.Str).length<=(⟨⟨c::r⟩⟩:PySem.Str).length)=true:=by
   refine ah ?_
   show 0+1<=r.length+1
   omega
  rw[e2,bC]
  show ((⟨c::r⟩:Array Nat).extract 0 (0+(⟨#[45]⟩:PySem.Str).length)== #[45])=decide (some c=some 45)
  rw[e,bP,gk,bD]
  constructor
  ·intro h
   have:=bn Array.toList h
   rw[show c=45 by simpa using this]
  ·intro h
   rw[aF h]
theorem jN9 {x:PySem.Str}(h:1<=x.length):(Txt.slice x (some 1) none).cps.toList=x.cps.toList.drop 1:=by
 have e:=slice_from_eq (x:=x) (i:=1) (b:=(x.length:Int)) (by decide) (by omega) rfl
 rw[e]
 show (x.cps.toList.drop (1:Int).toNat).take ((x.length:Int) - 1).toNat=_
 refine bU ?_
 rw[bW,bh]
 show x.length - 1<=_
 omega
def fig (c:Nat):Bool:=decide (48<=c)&&decide (c<=57)
theorem jRN:∀ c,c<128->(!(Builtin.Str.occurrences (("0123456789" :String):PySem.Str) ⟨#[c]⟩ 0 ((("0123456789" :String):PySem.Str)).length 1).isEmpty)=fig c:=by decide+kernel
theorem fig_iff {c:Nat} :fig c=true↔48<=c/\c<=57:=by
 unfold fig
 rw[aL,bD,bD]
def canD (cs:List Nat):Bool:=decide (cs≠ [])&&(decide (cs.length<=13)&&(cs.all fig&&(decide (cs.head?≠some 48) || decide (cs=[48]))))
def numL (z:PySem.Str):Option Int:=if canD z.cps.toList then some (digitsVal z.cps.toList:Int) else none
def numO (z:PySem.Str):Option Int:=match z.cps.toList with
 | 45::cs=>if canD cs&&decide (cs≠ [48]) then some (-(digitsVal cs:Int)) else none
 | cs=>if canD cs then some (digitsVal cs:Int) else none
theorem canD_iff {cs:List Nat} :canD cs=true↔cs≠ []/\cs.length<=13/\AllDigits cs/\(cs.head?≠some 48\/cs=[48]):=by
 unfold canD
 rw[aL,aL,aL,Bool.or_eq_true,bD,bD,bD,bD,aD]
 refine⟨fun ⟨a,b,c,d⟩=>⟨a,b,fun x hx=>fig_iff.mp (c x hx),d⟩,fun ⟨a,b,c,d⟩=>⟨a,b,fun x hx=>fig_iff.mpr (c x hx),d⟩⟩
theorem jDH {cs:List Nat}(h:canD (45::cs)=true):False:=by
 have:=(canD_iff.mp h).2.2.1 45 (am ..)
 omega
theorem jO2 {cs:List Nat}(h:canD cs=true)(h0:cs≠ [48]):0<digitsVal cs:=by
 obtain⟨a,b,c,d⟩:=canD_iff.mp h
 cases cs with
 | nil=>exact absurd rfl a
 | cons x cs=>
  have hx:=c x (am ..)
  rcases d with d | d
  ·have:x≠48:=fun z=>d (by rw[z]; rfl)
   exact digitsVal_pos (by omega)
  ·exact absurd d h0
theorem jR5 {z:PySem.Str}{i:Int}(h:numO z=some i):(0<=i/\numL z=some i)\/(i<0/\numL z=none):=by
 unfold numO at h
 split at h
 ·rename_i cs e
  split at h
  ·rename_i hc
   rw[aL,bD] at hc
   cases h
   have:=jO2 hc.1 hc.2
   refine .inr ⟨by omega,?_⟩
   unfold numL
   rw[e,aB]
   exact fun q=>jDH q
  ·cases h
 ·split at h
  ·rename_i hc
   cases h
   refine .inl ⟨by omega,?_⟩
   unfold numL
   rw[aA hc]
  ·cases h
theorem jJW {z:PySem.Str}{i:Int}(h:numL z=some i):numO z=some i/\0<=i:=by
 unfold numL at h
 split at h
 ·rename_i hc
  cases h
  refine⟨?_,by omega⟩
  unfold numO
  split
  ·rename_i cs e
   rw[e] at hc
   exact(jDH hc).elim
  ·rw[aA hc]
 ·cases h
def Asc (z:PySem.Str):Prop:=z.cps.all (· <128)=true/\z.length<=20000
def wf (cs:List Nat):Bool:=decide (cs≠ [])&&(decide (cs.length<=13)&&cs.all fig)
theorem jBG {cs:List Nat} :canD cs=(wf cs&&(decide (cs.head?≠some 48) || decide (cs=[48]))):=by
 unfold canD wf
 cases decide (cs≠ []) <;> cases decide (cs.length<=13) <;> cases cs.all fig <;> rfl
theorem wf_iff {cs:List Nat} :wf cs=true↔cs≠ []/\cs.length<=13/\AllDigits cs:=by
 unfold wf
 rw[aL,aL,bD,bD,aD]
 exact⟨fun ⟨a,b,c⟩=>⟨a,b,fun x hx=>fig_iff.mp (c x hx)⟩,fun ⟨a,b,c⟩=>⟨a,b,fun x hx=>fig_iff.mpr (c x hx)⟩⟩
theorem qA (z:PySem.Str):z.cps.toList.length=z.length:=bh
theorem nought_iff {z:PySem.Str} :z=(("0" :String):PySem.Str)↔z.cps.toList=[48]:=by
 rw[jBT]
 exact⟨fun h=>by rw[h],fun h=>jBA h⟩
end Tx
namespace Tx
open PySem
theorem jl_in {c x:Nat} :∀ {A:List (List Nat)}{a:List Nat},a∈A->x∈a->x∈jl c A
 | [b],a,h,hx=>by rw[aQ.mp h] at hx; exact hx
 | b::b'::r,a,h,hx=>by
  show x∈b++c::jl c (b'::r)
  rcases av.mp h with e | h
  ·rw[e] at hx
   exact ek _ hx
  ·exact aW _ (ar _ (jl_in h hx))
theorem jNL {c:Nat} :∀ {A:List (List Nat)}{a:List Nat},a∈A->a.length<=(jl c A).length
 | [b],a,h=>by rw[aQ.mp h]; exact ao _
 | b::b'::r,a,h=>by
  show _<=(b++c::jl c (b'::r)).length
  rw[aI,aC]
  rcases av.mp h with e | h
  ·rw[e]; omega
  ·have:=jNL (c:=c) h
   omega
theorem jKG {c:Nat} :∀ (A:List (List Nat)),A.length<=(jl c A).length+1
 | []=>aJ _
 | [b]=>Nat.le_add_left _ _
 | b::b'::r=>by
  have:=jKG (c:=c) (b'::r)
  have e:(jl c (b::b'::r)).length=b.length+((jl c (b'::r)).length+1):=by
   show (b++c::jl c (b'::r)).length=_
   rw[aI,aC]
  rw[e,aC]
  omega
theorem jCN {z p:PySem.Str}{c:Nat}(h:p∈Txt.split z ⟨#[c]⟩):(∀ x∈p.cps.toList,x∈z.cps.toList)/\p.length<=z.length:=by
 have e:=bn (fun s:PySem.Str=>s.cps.toList) (cI z ⟨#[c]⟩)
 simp only [yH] at e
 have hm:p.cps.toList∈(Txt.split z ⟨#[c]⟩).map (·.cps.toList):=aP.mpr ⟨p,h,rfl⟩
 refine⟨fun x hx=>by rw[<- e]; exact jl_in hm hx,?_⟩
 have:=jNL (c:=c) hm
 rw[e,qA,qA] at this
 exact this
theorem jAJ (z:PySem.Str)(c:Nat):(Txt.split z ⟨#[c]⟩).length<=z.length+1:=by
 have e:=bn (fun s:PySem.Str=>s.cps.toList) (cI z ⟨#[c]⟩)
 simp only [yH] at e
 have:=jKG (c:=c) ((Txt.split z ⟨#[c]⟩).map (·.cps.toList))
 rw[e,af,qA] at this
 exact this
theorem Asc.part {z p:PySem.Str}{c:Nat}(a:Asc z)(h:p∈Txt.split z ⟨#[c]⟩):Asc p:=by
 obtain⟨h1,h2⟩:=jCN h
 refine⟨?_,aO h2 a.2⟩
 have a:=a.1
 rw[<- dc,aD] at a ⊢
 exact fun x hx=>a x (h1 x hx)
theorem jA8:(("," :String):PySem.Str)=⟨#[44]⟩:=by decide+kernel
theorem jCV:((" " :String):PySem.Str)=⟨#[32]⟩:=by decide+kernel
theorem jAS:(("\n" :String):PySem.Str)=⟨#[10]⟩:=by decide+kernel
abbrev kP (z:PySem.Str):List PySem.Str:=Txt.split z (("," :String):PySem.Str)
abbrev wrds (z:PySem.Str):List PySem.Str:=Txt.split z ((" " :String):PySem.Str)
abbrev rws (z:PySem.Str):List PySem.Str:=Txt.split z (("\n" :String):PySem.Str)
end Tx
namespace Eo
open PySem L2 Tx PySem.NumText
def oV:Option Int->V
 | some i=> .int i
 | none=> .non
section
variable {P:Program}{w:World}{K:W.Frag}{mg:Str->Option Value}{base:Heap}
variable {f fI:Addr}{fdI:FuncData}{cdv:Value}{A:Around}{outer:List Env}{s:Shared}{H0:Hp}{E:XK}{uF uM:Tok}
abbrev jHD:List Str:=["word","figures"]
theorem scNumIn:FnScope jHD ["word"] (j9 qP):=⟨rfl,rfl,rfl,by decide+kernel,rfl,by decide+kernel,by decide+kernel⟩
def jAU:Sp:=fun vs H Q _=>∃ z:PySem.Str,vs=[.str z]/\Asc z/\∀ H',Ext H H'->Q (oV (numO z)) H'
def jNK (T:Txt mg)(mF:mg "FIGURES" =some (.str "0123456789" uF))(mM:mg "MOST_FIGURES" =some (.int 13 uM)): { t:TS // JSs (XOf jHD "number_in" qP P w K mg base f cdv A outer s H0 E) ((jE qP).drop 1) t} :=
 have nd:=scNumIn.nd
 ⟨_,(jA (jZ (jt_w (yJ (jI yB (jH jAB gD T.len (by decide+kernel) (j4 (jv 1 rfl vL) j7 j6) j6) (jC) (jK _)) (yJ (jI op_gt (jH jAB gD T.len (by decide+kernel) (j4 (jv 1 rfl vL) j7 j6) j6) (yM (v:= .int 13) gD mM ⟨_,rfl⟩) (jK _)) (yL (kX (kI (jH (jAA rfl) gD T.all (by decide+kernel) (j4 (yZ (m:=[none]) (Nc:=["figure"]) rfl (jNP (jv 1 rfl vL)) rfl (by decide+kernel) (by decide+kernel) (yN (psc:=j9 qP) (by decide+kernel)) (kZ (N:=jHD) rfl rfl (by decide+kernel)) (fun cl C fp s H=>kU (i:=0) (show (["figure"]:List Str).Nodup by decide+kernel) rfl (xB (by decide+kernel))) (fun cl C fp s H=>qG) (fun cl C fp s H=>(yV jJJ (jv 0 rfl (yR (by decide+kernel))) (yM (v:= .str "0123456789") (gl_b (by decide+kernel)) mF ⟨_,rfl⟩) jJY)) jBF) j7 kW) kW) jY)))))) (jF (jN (yA))) jL)
   (jA (jZ (jt_w (jCG (jI yB (jW jNQ (jv 1 rfl vL) (jC) jJ) (jM) (jK _)) (jD6 (jI xF (jv 0 rfl vL) (jM) (jK _))))) (jF (jN (yA))) jL)
   (jF (jN (kL jDI gD T.int (by decide+kernel) (j4 (jv 0 rfl vL) j7 j6) j6)))))⟩
def jR6 (T:Txt mg)(mF:mg "FIGURES" =some (.str "0123456789" uF))(mM:mg "MOST_FIGURES" =some (.int 13 uM)): { t:TS // JSs (XOf jHD "number_in" qP P w K mg base f cdv A outer s H0 E) (jE qP) t} :=
 have nd:=scNumIn.nd
 ⟨_,(jA (jR (i:=1) nd rfl lL (jRH (kI (qY aU PySem.F.slot_str_startswith PySem.F.type_str_startswith jK5 (jv 0 rfl vL) (j4 (jM) j7 jB) jB) jY) (kG jBM (jv 0 rfl vL) (kT (jC)) y0) (jv 0 rfl vL)) jQ8) (jNK T mF mM).2)⟩
theorem jD2 (T:Txt mg)(mF:mg "FIGURES" =some (.str "0123456789" uF))(mM:mg "MOST_FIGURES" =some (.int 13 uM)){D:Ends}{H:Hp}{z0 z:PySem.Str}{r:Option Int}(az:Asc z)(hA:wf z.cps.toList=false->r=none)(hB:wf z.cps.toList=true->z.cps.toList.head?=some 48->z0.cps.toList≠ [48]->r=none)(hC:wf z.cps.toList=true->(z.cps.toList.head?≠some 48\/z0.cps.toList=[48])->z0.length<=640/\∃ i,r=some i/\PySem.intText? z0=some i)(q:∀ H',Ext H H'->D.rt (oV r) H'):
  (jNK (P:=P) (w:=w) (K:=K) (base:=base) (f:=f) (cdv:=cdv) (A:=A) (outer:=outer) (s:=s) (H0:=H0) (E:=E) T mF mM).1 D [some (.str z0),some (.str z)] H:=by
 have hsl:z.length<=sizeLine:=by rw[ai]; have:=az.2; omega
 have hl:=qA z
 have no:∀ {H':Hp},Ext H H'->wf z.cps.toList=false->D.rt .non H':=fun e h=>by
  have:=q _ e
  rw[hA h] at this
  exact this
 refine⟨_,rfl,z,rfl,hsl,rfl,_,rfl,ite2 (fun h=>?_) (fun h0=>?_)⟩
 ·have h0:(z.length:Int)=0:=V.int.inj (aj h)
  refine iteT (no (Ext.refl _) ?_)
  unfold wf
  rw[aq (show ¬ z.cps.toList≠ [] from fun q=>q (bc.mp (by omega))),ba]
 have h0':z.cps.toList≠ []:=fun e=>h0 (ah (by rw[<- hl,e]; rfl))
 refine⟨_,rfl,z,rfl,hsl,_,_,rfl,rfl,_,rfl,ite2 (fun h=>?_) (fun h1=>?_)⟩
 ·have h1:(z.length:Int)>13:=aj h
  refine iteT (no (Ext.refl _) ?_)
  unfold wf
  rw[aq (show ¬ z.cps.toList.length<=13 by omega),ba,aX]
 have h1':z.cps.toList.length<=13:=by
  have:¬ ((z.length:Int)>13):=fun e=>h1 (ah e)
  omega
 have hsz:z.cps.size=z.length:=rfl
 refine⟨_,rfl,z,rfl,az.1,jHN (by rw[ai]; omega) (fun D j σ' H' zs=>σ'.length=1/\zs=((z.cps.toList.take j).map fig).map V.bl/\H'=L2.upd H D (.lst zs)) ?_ ?_ ?_ ?_⟩
 ·intro D hD
  exact⟨rfl,rfl,rfl⟩
 ·rintro D j σ' H' zs hD ⟨_,rfl,rfl⟩
  exact⟨j8,by rw[af,af,bb]; omega⟩
 ·rintro D j σ' H' zs c hD hj ⟨hs,rfl,rfl⟩
  have hj':z.cps.toList[j]?=some c:=by rw[cn]; exact hj
  have hc:c<128:=by
   have:=az.1
   rw[g6] at this
   exact aj (this c (dR hj))
  match σ',hs with
  | [v0],_=>
   dsimp only [yF,qT]
   rw[aA rfl]
   refine⟨_,rfl,_,_,rfl,rfl,j8,rfl,?_,jAC⟩
   rw[jRN c hc,fo,hj']
   rw[aS,aS]
   rfl
 ·rintro D' σ' H' zs hD ⟨_,rfl,rfl⟩
  refine⟨D',_,rfl,SqL.of j8,_,rfl,?_⟩
  have x1:Ext H (L2.upd H D' (.lst (((z.cps.toList.take z.cps.size).map fig).map V.bl))):=(Ext.refl _).new hD _
  have ea:((z.cps.toList.take z.cps.size).map fig).all id=z.cps.toList.all fig:=by
   rw[bU (by rw[hl,hsz]; exact ao _),g9]
   rfl
  rw[ea]
  generalize L2.upd H D' (.lst (((z.cps.toList.take z.cps.size).map fig).map V.bl))=H1 at x1 ⊢
  cases hf:z.cps.toList.all fig with
  | false=>
   refine iteT (no x1 ?_)
   unfold wf
   rw[hf,aX,aX]
  | true=>
   have hw:wf z.cps.toList=true:=by
    unfold wf
    rw[hf,ah h0',ah h1']
    rfl
   refine iteF ?_
   cases ed:z.cps.toList with
   | nil=>exact absurd ed h0'
   | cons c r'=>
    have go:(z.cps.toList.head?≠some 48\/z0.cps.toList=[48])->z0.length<=640/\∃ n,PySem.intText? z0=some n/\D.rt (.int n) H1:=fun h=>by
     obtain⟨l,i,er,hi⟩:=hC hw h
     have:=q H1 x1
     rw[er] at this
     exact⟨l,i,hi,this⟩
    refine⟨_,rfl,z,0,c,rfl,rfl,hsl,?_,rfl,_,rfl,ite2 (fun h=>?_) (fun h=>?_)⟩
    ·rw[ed]
     exact jT (j:=0) rfl
    ·have h:=V.str.inj (aj h)
     rw[jBT] at h
     have hc:c=48:=by
      have:=bn (fun s:PySem.Str=>s.cps.toList) h
      simpa using this
     refine⟨_,rfl,rfl,_,rfl,?_⟩
     by_cases e0:z0=(("0" :String):PySem.Str)
     ·refine iteNS (by rw[e0]) ?_
      obtain⟨l,n,hn,t⟩:=go (.inr (nought_iff.mp e0))
      exact⟨_,rfl,z0,n,rfl,hn,l,t⟩
     ·have:=q H1 x1
      rw[hB hw (by rw[ed,hc]; rfl) (fun e=>e0 (nought_iff.mpr e))] at this
      rw[aq (fun e=>e0 (V.str.inj e))]
      exact iteT this
    ·obtain⟨l,n,hn,t⟩:=go (.inl fun e=>h (ah (by
      rw[ed] at e
      rw[aF e,jBT])))
     exact iteF ⟨_,rfl,z0,n,rfl,hn,l,t⟩
theorem jMA {fd:FuncData}(F:Fun K "number_in" "number_in" qP f fd)(T:Txt mg)(mF:mg "FIGURES" =some (.str "0123456789" uF))(mM:mg "MOST_FIGURES" =some (.int 13 uM)):FnOk P w K mg base CX0 1 f fd ["word"] jAU:=by
 refine F.ok scNumIn (fun vs H Q E h=>?_) (fun cdv A outer s H vs Q E hr h=>?_)
 ·obtain⟨_,rfl,_⟩:=h
  rfl
 ·obtain⟨z,rfl,az,q⟩:=h
  have hl:=qA z
  refine⟨_,(jR6 T mF mM).2.h,?_⟩
  refine⟨_,rfl,rfl,_,_,rfl,rfl,_,rfl,?_⟩
  rw[jG6]
  refine ite2 (fun h=>?_) (fun h=>?_)
  ·have hh:z.cps.toList.head?=some 45:=aj h
   cases ez:z.cps.toList with
   | nil=>rw[ez] at hh; cases hh
   | cons c cs=>
    rw[ez] at hh
    obtain rfl:c=45:=aF hh
    have h1:1<=z.length:=by rw[<- hl,ez]; exact Nat.succ_le_succ (aJ _)
    have es:(Txt.slice z (some 1) none).cps.toList=cs:=by rw[jN9 h1,ez]; rfl
    have el:(Txt.slice z (some 1) none).length<=z.length:=by rw[<- qA,es,<- hl,ez]; exact gJ _
    have ha:Asc (Txt.slice z (some 1) none):=⟨by
     have a:=az.1
     rw[<- dc,aD] at a ⊢
     intro x hx
     rw[es] at hx
     exact a x (by rw[ez]; exact ar _ hx),aO el az.2⟩
    have eo:numO z=if canD cs&&decide (cs≠ [48]) then some (-(digitsVal cs:Int)) else none:=by
     unfold numO
     rw[ez]
     rfl
    refine⟨_,rfl,1,rfl,_,rfl,by rw[ai]; have:=az.2; omega,?_⟩
    refine jD2 T mF mM (r:=numO z) ha (fun hw=>?_) (fun hw h48 _=>?_) (fun hw h48=>?_) q
    ·rw[es] at hw
     rw[eo,jBG,hw]
     rfl
    ·rw[es] at h48
     rw[eo]
     by_cases e48:cs=[48]
     ·rw[aq (fun q=>q e48),aX]
      rfl
     ·rw[jBG,aq (fun q:cs.head?≠some 48=>q h48),aq e48,gS,aX,ba]
      rfl
    ·rw[es] at hw h48
     rw[ez] at h48
     have h48':cs.head?≠some 48:=h48.resolve_right (by intro q; cases q)
     obtain⟨w1,w2,w3⟩:=wf_iff.mp hw
     have wl:z.length<=14:=by rw[<- hl,ez,aC]; omega
     refine⟨by omega,_,?_,intText_neg ez w3 w1 (by omega)⟩
     rw[eo,jBG,hw,ah h48',ah (show cs≠ [48] from fun q=>h48' (by rw[q]; rfl))]
     rfl
  ·have hh:z.cps.toList.head?≠some 45:=fun e=>h (ah e)
   have eo:numO z=if canD z.cps.toList then some (digitsVal z.cps.toList:Int) else none:=by
    unfold numO
    split
    ·rename_i cs e
     rw[e] at hh
     exact absurd rfl hh
    ·rfl
   refine⟨_,rfl,?_⟩
   refine jD2 T mF mM (r:=numO z) az (fun hw=>?_) (fun hw h48 hn=>?_) (fun hw h48=>?_) q
   ·rw[eo,jBG,hw]
    rfl
   ·rw[eo,jBG,aq (fun q:z.cps.toList.head?≠some 48=>q h48),aq hn,gS,aX]
    rfl
   ·obtain⟨w1,w2,w3⟩:=wf_iff.mp hw
    refine⟨by omega,_,?_,cY w3 w1 (by omega)⟩
    have:(decide (z.cps.toList.head?≠some 48) || decide (z.cps.toList=[48]))=true:=by
     rcases h48 with h48 | h48
     ·rw[ah h48]; rfl
     ·rw[ah h48,eZ]
    rw[eo,jBG,hw,this]
    rfl
abbrev jEB:List Str:=["word"]
theorem scNumsIn:FnScope jEB ["word"] (j9 qE):=⟨rfl,rfl,rfl,by decide+kernel,rfl,by decide+kernel,by decide+kernel⟩
def oVs (z:PySem.Str):List V:=(kP z).map fun p=>oV (numO p)
def jB0:Sp:=fun vs H Q _=>∃ z:PySem.Str,vs=[.str z]/\Asc z/\∀ t H',H' t=some (.tup (oVs z))->Ext H H'->Q (.ref t) H'
def jPB (T:Txt mg)(CI:Can P w K mg base "number_in" 1 fI fdI ["word"] jAU)(hr:Room 1 (XOf jEB "numbers_in" qE P w K mg base f cdv A outer s H0 E).A): { t:TS // JSs (XOf jEB "numbers_in" qE P w K mg base f cdv A outer s H0 E) (jE qE) t} :=
 have nd:=scNumsIn.nd
 ⟨_,(jF (jN (kL jA0 gD T.tuple (by decide+kernel) (j4 (yZ (m:=[none]) (Nc:=["part"]) rfl (jKI (qY aU bz bA jA6 (jv 0 rfl vL) (j4 (jM) j7 jB) jB)) rfl (by decide+kernel) (by decide+kernel) (yN (psc:=j9 qE) (by decide+kernel)) (kZ (N:=jEB) rfl rfl (by decide+kernel)) (fun cl C fp s H=>kU (i:=0) (show (["part"]:List Str).Nodup by decide+kernel) rfl (xB (by decide+kernel))) (fun cl C fp s H=>qG) (fun cl C fp s H=>(CI.je hr (gl_b (by decide+kernel)) (j4 (jv 0 rfl (yR (by decide+kernel))) j7 j6) j6)) jAI) j7 kW) kW)))⟩
theorem jJR {fd:FuncData}(F:Fun K "numbers_in" "numbers_in" qE f fd)(T:Txt mg)(CI:Can P w K mg base "number_in" 1 fI fdI ["word"] jAU):FnOk P w K mg base CX0 2 f fd ["word"] jB0:=by
 refine F.ok scNumsIn (fun vs H Q E h=>?_) (fun cdv A outer s H vs Q E hr h=>?_)
 ·obtain⟨_,rfl,_⟩:=h
  rfl
 ·obtain⟨z,rfl,az,q⟩:=h
  refine⟨_,(jPB T CI hr).2.h,?_⟩
  refine⟨_,rfl,rfl,_,_,rfl,rfl,by rw[jA8]; rfl,by rw[ai]; have:=az.2; omega,fun p hp=>?_⟩
  have hm:(kP z).length<=z.length+1:=by
   unfold kP
   rw[jA8]
   exact jAJ z 44
  have ap:∀ y∈kP z,Asc y:=fun y hy=>by
   unfold kP at hy
   rw[jA8] at hy
   exact az.part hy
  have x1:Ext H (L2.upd H p (.lst ((kP z).map V.str))):=(Ext.refl _).new hp _
  have hp1:(L2.upd H p (.lst ((kP z).map V.str))) p=some (.lst ((kP z).map V.str)):=j8
  generalize L2.upd H p (.lst ((kP z).map V.str))=H1 at x1 hp1 ⊢
  have z2:=az.2
  refine⟨p,rfl,⟨_,SqL.of hp1⟩,jHO (xs:=(kP z).map V.str) (by rw[af,ai]; omega) (fun D i σ' H' zs=>σ'.length=1/\zs=(oVs z).take i/\Ext H1 H'/\H' D=some (.lst zs)/\H1 D=none) ?_ ?_ ?_ ?_⟩
  ·intro D hD
   exact⟨rfl,rfl,(Ext.refl _).new hD _,j8,hD⟩
  ·rintro D i σ' H' zs hD ⟨_,rfl,e,h2,_⟩
   refine⟨e _ _ hp1,h2,?_⟩
   rw[bb]
   omega
  ·rintro D i σ' H' zs x hD hi ⟨hs,rfl,e,h2,hn⟩
   rw[aY] at hi
   cases hy:(kP z)[i]? with
   | none=>rw[hy] at hi; cases hi
   | some y=>
    rw[hy] at hi
    cases hi
    have ey:(oVs z)[i]?=some (oV (numO y)):=by
     unfold oVs
     rw[aY,hy]
     rfl
    match σ',hs with
    | [v0],_=>
     dsimp only [yF,qT]
     rw[aA rfl]
     refine⟨_,rfl,y,rfl,ap y (bq hy),fun H2 e2=>⟨e2 _ _ h2,rfl,?_,(e.trans e2).updNew hn _,j8,hn⟩⟩
     rw[fo,ey]
     rfl
  ·rintro D σ' H' zs hD ⟨_,rfl,e,h2,hn⟩
   have el:(oVs z).length=((kP z).map V.str).length:=by
    unfold oVs
    rw[af,af]
   rw[<- el,bX] at h2
   refine⟨D,_,rfl, .inl ⟨SqL.of h2,fun t ht=>q t _ j8 ((x1.trans e).new ht _)⟩⟩
end
def RowT (z:PySem.Str):Prop:=Asc z/\z.length<=95
def obO:Option Int->Ob
 | some i=> .int i
 | none=> .oth
def obs (z:PySem.Str):List Ob:=(kP z).map fun p=>obO (numO p)
abbrev yK:PySem.Str:=(("things" :String):PySem.Str)
abbrev sMay:PySem.Str:=(("may" :String):PySem.Str)
def pcO (row:PySem.Str):Ob:=match wrds row with
 | [a,b]=> .tup [.tup (obs a),obO (numO b)]
 | _=> .oth
def hdO (row:PySem.Str):Ob:=match wrds row with
 | [a,n]=>if a=yK then .tup [obO (numO n), .tup [], .tup []] else .oth
 | [a,n,m,l]=>if a=yK then (if m=sMay then .tup [obO (numO n), .tup (obs l), .tup []] else .oth) else .oth
 | _=> .oth
theorem oV_at (H:Hp)(r:Option Int):At H (obO r) (oV r):=by
 cases r with
 | none=>exact qQ H
 | some i=>exact jDJ H i
theorem jJV (H:Hp)(z:PySem.Str):Ats H (obs z) (oVs z):=by
 unfold obs oVs
 generalize kP z=l
 induction l with
 | nil=>exact ats0 H
 | cons a l ih=>exact ats1 (oV_at H _) ih
theorem RowT.word {z p:PySem.Str}(h:RowT z)(hp:p∈wrds z):RowT p:=by
 unfold wrds at hp
 rw[jCV] at hp
 exact⟨h.1.part hp,aO (jCN hp).2 h.2⟩
theorem RowT.few {z:PySem.Str}(h:RowT z):(oVs z).length<=96:=by
 have:=jAJ z 44
 have h2:=h.2
 unfold oVs kP
 rw[af,jA8]
 omega
section
variable {P:Program}{w:World}{K:W.Frag}{mg:Str->Option Value}{base:Heap}
variable {f fI fJ:Addr}{fdI fdJ:FuncData}{cdv:Value}{A:Around}{outer:List Env}{s:Shared}{H0:Hp}{E:XK}
abbrev jGH:List Str:=["row","words"]
theorem scHeadIn:FnScope jGH ["row"] (j9 jAG):=⟨rfl,rfl,rfl,by decide+kernel,rfl,by decide+kernel,by decide+kernel⟩
def jC8 (F:PySem.Str->Ob):Sp:=fun vs H Q _=>∃ z:PySem.Str,vs=[.str z]/\RowT z/\∀ v H',At H' (F z) v->Ext H H'->Q v H'
def jPO (T:Txt mg)(CI:Can P w K mg base "number_in" 1 fI fdI ["word"] jAU)(CJ:Can P w K mg base "numbers_in" 2 fJ fdJ ["word"] jB0)(hr:Room 2 (XOf jGH "head_in" jAG P w K mg base f cdv A outer s H0 E).A): { t:TS // JSs (XOf jGH "head_in" jAG P w K mg base f cdv A outer s H0 E) (jE jAG) t} :=
 have nd:=scHeadIn.nd
 ⟨_,(jA (jR (i:=1) nd rfl lL (qY aU bz bA jA6 (jv 0 rfl vL) (j4 (jM) j7 jB) jB) kD)
   (jA (jZ (jt_w (jCG (jI yB (jH jP gD T.len (by decide+kernel) (j4 (jv 1 rfl vL) j7 j6) j6) (jC) (jK _)) (jD6 (jI yB (jW jX (jv 1 rfl vL) (jC) jJ) (jM) (jK _))))) (jF (jN (y8 (j4 (CI.je (hr.mono (by decide)) gD (j4 (jW jX (jv 1 rfl vL) (jC) jJ) j7 jO) jO) (j4 (y8 j7) (j4 (y8 j7) j7 jBO) jBO) jS)))) jL)
   (jA (jZ (jt_w (jCG (jI yB (jH jP gD T.len (by decide+kernel) (j4 (jv 1 rfl vL) j7 j6) j6) (jC) (jK _)) (jCG (jI yB (jW jX (jv 1 rfl vL) (jC) jJ) (jM) (jK _)) (jD6 (jI yB (jW jX (jv 1 rfl vL) (jC) jJ) (jM) (jK _)))))) (jF (jN (y8 (j4 (CI.je (hr.mono (by decide)) gD (j4 (jW jX (jv 1 rfl vL) (jC) jJ) j7 jO) jO) (j4 (CJ.je hr gD (j4 (jW jX (jv 1 rfl vL) (jC) jJ) j7 jO) jO) (j4 (y8 j7) j7 jBO) jS) jS)))) jL)
   (jF (jN (yA))))))⟩
theorem jJT {fd:FuncData}(F:Fun K "head_in" "head_in" jAG f fd)(T:Txt mg)(CI:Can P w K mg base "number_in" 1 fI fdI ["word"] jAU)(CJ:Can P w K mg base "numbers_in" 2 fJ fdJ ["word"] jB0):FnOk P w K mg base CX0 3 f fd ["row"] (jC8 hdO):=by
 refine F.ok scHeadIn (fun vs H Q E h=>?_) (fun cdv A outer s H vs Q E hr h=>?_)
 ·obtain⟨_,rfl,_⟩:=h
  rfl
 ·obtain⟨z,rfl,rz,q⟩:=h
  have zl:=rz.2
  have eq:hdO z=match wrds z with
   | [a,n]=>if a=yK then .tup [obO (numO n), .tup [], .tup []] else .oth
   | [a,n,m,l]=>if a=yK then (if m=sMay then .tup [obO (numO n), .tup (obs l), .tup []] else .oth) else .oth
   | _=> .oth:=rfl
  refine⟨_,(jPO T CI CJ hr).2.h,?_⟩
  refine⟨_,rfl,rfl,_,_,rfl,rfl,by rw[jCV]; rfl,by rw[ai]; omega,fun p hp=>?_⟩
  have rw_:∀ y∈wrds z,RowT y:=fun y hy=>rz.word hy
  have x1:Ext H (L2.upd H p (.lst ((wrds z).map V.str))):=(Ext.refl _).new hp _
  have hp1:(L2.upd H p (.lst ((wrds z).map V.str))) p=some (.lst ((wrds z).map V.str)):=j8
  generalize L2.upd H p (.lst ((wrds z).map V.str))=H1 at x1 hp1 ⊢
  have z0:([]:List V).length<=sizeLine:=aJ _
  rw[eq] at q
  clear eq
  generalize wrds z=ws at hp1 q rw_
  have non:∀ {H'},Ext H1 H'->At H' .oth .non:=fun _=>qQ _
  refine⟨_,rfl,p,_,rfl, .inl (SqL.of hp1),rfl,_,rfl,ite2 (fun h2=>?_) (fun h2=>?_)⟩
  ·have h2:(((ws.map V.str).length:Nat):Int)=2:=V.int.inj (aj h2)
   rw[af] at h2
   match ws,h2 with
   | [a,n],_=>
    have hp2:H1 p=some (.lst [.str a, .str n]):=hp1
    refine⟨_,rfl,p,_,0,_,rfl,rfl,SqL.of hp2,jT (j:=0) rfl,rfl,_,rfl,ite2 (fun ha=>?_) (fun ha=>?_)⟩
    ·have ha:a=yK:=V.str.inj (aj ha)
     refine⟨_,rfl,p,_,1,_,rfl,rfl,SqL.of hp2,jT (j:=1) rfl,n,rfl,(rw_ n (by simp)).1,fun H2 e2=>⟨z0,fun t1 H3 u1 x3=>⟨z0,fun t2 H4 u2 x4=>⟨(by show 3<=sizeLine; decide),fun t3 H5 u3 x5=>?_⟩⟩⟩⟩
     have q':=q (.ref t3) H5
     dsimp only at q'
     rw[aA ha] at q'
     exact q' (yE u3 (by show 3<=100; decide) (ats1 (oV_at _ _) (ats1 (yE (x5 _ _ (x4 _ _ u1)) (by decide) (ats0 _)) (ats1 (yE (x5 _ _ u2) (by decide) (ats0 _)) (ats0 _))))) ((((x1.trans e2).trans x3).trans x4).trans x5)
    ·have ha:a≠yK:=fun e=>ha (ah (by rw[e]))
     refine⟨_,rfl,p,_,rfl, .inl (SqL.of hp2),rfl,_,rfl,nay (fun e=>absurd (V.int.inj e) (by show ¬ (((2:Nat):Int)=4); decide)) (iteF ?_)⟩
     have q':=q .non H1
     dsimp only at q'
     rw[aB ha] at q'
     exact q' (qQ _) x1
  ·have h2:ws.length≠2:=fun e=>h2 (ah (by rw[af,e]; rfl))
   refine iteF ?_
   refine⟨_,rfl,p,_,rfl, .inl (SqL.of hp1),rfl,_,rfl,ite2 (fun h4=>?_) (fun h4=>?_)⟩
   ·have h4:(((ws.map V.str).length:Nat):Int)=4:=V.int.inj (aj h4)
    rw[af] at h4
    match ws,h4 with
    | [a,n,m,l],_=>
     have hp2:H1 p=some (.lst [.str a, .str n, .str m, .str l]):=hp1
     have q0:=q
     dsimp only at q0
     refine⟨_,rfl,p,_,0,_,rfl,rfl,SqL.of hp2,jT (j:=0) rfl,rfl,_,rfl,ite2 (fun ha=>?_) (fun ha=>?_)⟩
     ·have ha:a=yK:=V.str.inj (aj ha)
      rw[aA ha] at q0
      refine⟨_,rfl,p,_,2,_,rfl,rfl,SqL.of hp2,jT (j:=2) rfl,rfl,_,rfl,ite2 (fun hm=>?_) (fun hm=>?_)⟩
      ·have hm:m=sMay:=V.str.inj (aj hm)
       rw[aA hm] at q0
       refine⟨_,rfl,p,_,1,_,rfl,rfl,SqL.of hp2,jT (j:=1) rfl,n,rfl,(rw_ n (by simp)).1,fun H2 e2=>?_⟩
       refine⟨_,rfl,p,_,3,_,rfl,rfl,SqL.of (e2 _ _ hp2),jT (j:=3) rfl,l,rfl,(rw_ l (by simp)).1,fun t1 H3 u1 x3=>⟨z0,fun t2 H4 u2 x4=>⟨(by show 3<=sizeLine; decide),fun t3 H5 u3 x5=>?_⟩⟩⟩
       have:=(rw_ l (by simp)).few
       exact q0 (.ref t3) H5 (yE u3 (by show 3<=100; decide) (ats1 (oV_at _ _) (ats1 (yE (x5 _ _ (x4 _ _ u1)) (by omega) (jJV _ _)) (ats1 (yE (x5 _ _ u2) (by decide) (ats0 _)) (ats0 _))))) ((((x1.trans e2).trans x3).trans x4).trans x5)
      ·have hm:m≠sMay:=fun e=>hm (ah (by rw[e]))
       rw[aB hm] at q0
       exact q0 .non H1 (qQ _) x1
     ·have ha:a≠yK:=fun e=>ha (ah (by rw[e]))
      rw[aB ha] at q0
      exact iteF (q0 .non H1 (qQ _) x1)
   ·have h4:ws.length≠4:=fun e=>h4 (ah (by rw[af,e]; rfl))
    refine iteF (q .non H1 ?_ x1)
    match ws,h2,h4 with
    | [],_,_=>exact qQ _
    | [_],_,_=>exact qQ _
    | [_,_],h,_=>exact absurd rfl h
    | [_,_,_],_,_=>exact qQ _
    | [_,_,_,_],_,h=>exact absurd rfl h
    | _::_::_::_::_::_,_,_=>exact qQ _
abbrev jEA:List Str:=["row","words"]
theorem scPieceIn:FnScope jEA ["row"] (j9 jA3):=⟨rfl,rfl,rfl,by decide+kernel,rfl,by decide+kernel,by decide+kernel⟩
def jM1 (T:Txt mg)(CI:Can P w K mg base "number_in" 1 fI fdI ["word"] jAU)(CJ:Can P w K mg base "numbers_in" 2 fJ fdJ ["word"] jB0)(hr:Room 2 (XOf jEA "piece_in" jA3 P w K mg base f cdv A outer s H0 E).A): { t:TS // JSs (XOf jEA "piece_in" jA3 P w K mg base f cdv A outer s H0 E) (jE jA3) t} :=
 have nd:=scPieceIn.nd
 ⟨_,(jA (jR (i:=1) nd rfl lL (qY aU bz bA jA6 (jv 0 rfl vL) (j4 (jM) j7 jB) jB) kD)
   (jA (jZ (jI xF (jH jP gD T.len (by decide+kernel) (j4 (jv 1 rfl vL) j7 j6) j6) (jC) (jK _)) (jF (jN (yA))) jL)
   (jF (jN (y8 (j4 (CJ.je hr gD (j4 (jW jX (jv 1 rfl vL) (jC) jJ) j7 jO) jO) (j4 (CI.je (hr.mono (by decide)) gD (j4 (jW jX (jv 1 rfl vL) (jC) jJ) j7 jO) jO) j7 jS) jS))))))⟩
theorem jI5 {fd:FuncData}(F:Fun K "piece_in" "piece_in" jA3 f fd)(T:Txt mg)(CI:Can P w K mg base "number_in" 1 fI fdI ["word"] jAU)(CJ:Can P w K mg base "numbers_in" 2 fJ fdJ ["word"] jB0):FnOk P w K mg base CX0 3 f fd ["row"] (jC8 pcO):=by
 refine F.ok scPieceIn (fun vs H Q E h=>?_) (fun cdv A outer s H vs Q E hr h=>?_)
 ·obtain⟨_,rfl,_⟩:=h
  rfl
 ·obtain⟨z,rfl,rz,q⟩:=h
  have zl:=rz.2
  have eq:pcO z=match wrds z with
   | [a,b]=> .tup [.tup (obs a),obO (numO b)]
   | _=> .oth:=rfl
  refine⟨_,(jM1 T CI CJ hr).2.h,?_⟩
  refine⟨_,rfl,rfl,_,_,rfl,rfl,by rw[jCV]; rfl,by rw[ai]; omega,fun p hp=>?_⟩
  have rw_:∀ y∈wrds z,RowT y:=fun y hy=>rz.word hy
  have x1:Ext H (L2.upd H p (.lst ((wrds z).map V.str))):=(Ext.refl _).new hp _
  have hp1:(L2.upd H p (.lst ((wrds z).map V.str))) p=some (.lst ((wrds z).map V.str)):=j8
  generalize L2.upd H p (.lst ((wrds z).map V.str))=H1 at x1 hp1 ⊢
  rw[eq] at q
  clear eq
  generalize wrds z=ws at hp1 q rw_
  by_cases h2:ws.length=2
  ·match ws,h2 with
   | [a,b],_=>
    have hp2:H1 p=some (.lst [.str a, .str b]):=hp1
    refine⟨_,rfl,p,_,rfl, .inl (SqL.of hp2),rfl,_,rfl,iteNS rfl ?_⟩
    refine⟨_,rfl,p,_,0,_,rfl,rfl,SqL.of hp2,jT (j:=0) rfl,a,rfl,(rw_ a (by simp)).1,fun t1 H2 u1 x2=>?_⟩
    refine⟨_,rfl,p,_,1,_,rfl,rfl,SqL.of (x2 _ _ hp2),jT (j:=1) rfl,b,rfl,(rw_ b (by simp)).1,fun H3 e3=>⟨(by show 2<=sizeLine; decide),fun t3 H4 u3 x4=>?_⟩⟩
    have:=(rw_ a (by simp)).few
    exact q (.ref t3) H4 (yE u3 (by show 2<=100; decide) (ats1 (yE (x4 _ _ (e3 _ _ u1)) (by omega) (jJV _ _)) (ats1 (oV_at _ _) (ats0 _)))) (((x1.trans x2).trans e3).trans x4)
  ·refine⟨_,rfl,p,_,rfl, .inl (SqL.of hp1),rfl,_,rfl,?_⟩
   rw[aq (show ¬ (V.int (((ws.map V.str).length:Nat):Int)=V.int 2) from fun e=>h2 (by have:=V.int.inj e; rw[af] at this; omega))]
   refine iteT (q .non H1 ?_ x1)
   match ws,h2 with
   | [],_=>exact qQ _
   | [_],_=>exact qQ _
   | [_,_],h=>exact absurd rfl h
   | _::_::_::_,_=>exact qQ _
end
end Eo
end
section
namespace L2
open PySem
section
variable {CX:CXT}{P:Program}{w:World}{K:W.Frag}{mg:Str->Option Value}{base:Heap}{N:List Str}{qual:Str}{sc:Scope}{f:Addr}{cdv:Value}{A:Around}{outer:List Env}{s:Shared}{H:Hp}{E:XK}{x:Str}
theorem gl_y (h:sc.names.lookup x=some .globalImplicit):Gl1 (cxOf CX P w K mg base N qual sc f cdv A outer s H E) x:=⟨h⟩
theorem vis_y (h:sc.names.lookup x=some .local):Vis1 (cxOf CX P w K mg base N qual sc f cdv A outer s H E) x:=⟨.inl h⟩
theorem loc_y (h:sc.names.lookup x=some .local):Loc1 (cxOf CX P w K mg base N qual sc f cdv A outer s H E) x:=⟨.inl h, .inl rfl⟩
end
end L2
namespace Eo
open PySem L2
section
variable {P:Program}{w:World}{K:W.Frag}{mg:Str->Option Value}{base:Heap}
variable {f fI C B:Addr}{cdv:Value}{A:Around}{outer:List Env}{s:Shared}{H0:Hp}{E:XK}
noncomputable abbrev nNti:List Str:=["self","row"]
theorem scNti:FnScope nNti ["self","row"] (j9 jAO):=⟨rfl,rfl,rfl,by decide+kernel,rfl,by decide+kernel,by decide+kernel⟩
def ntiA (xc:XCls K C B fI "row")(MB:mg "OnceError" =some (.ref B)): { t:TS // JSs (XOf nNti "NoText.__init__" jAO P w K mg base f cdv A outer s H0 E) (jE jAO) t} :=
 have nd:=scNti.nd
 ⟨_,(jA (jGL (jMQ xc gD MB (j4 (jv 0 rfl vL) (j4 (jRI (jv 1 rfl vL) (by decide+kernel) (by decide+kernel)) j7 rfl) j6) j6) kD) (jF (jPH xc (jv 0 rfl vL) (jv 1 rfl vL) ⟨fun _ _=>rfl⟩)))⟩
theorem jR1 {fd:FuncData}(F:Fun K "__init__" "NoText.__init__" jAO f fd)(xc:XCls K C B fI "row")(MB:mg "OnceError" =some (.ref B)):FnOk P w K mg base CX0 1 f fd ["self","row"] (spXI C "row"):=by
 refine F.ok scNti (fun vs H Q E h=>?_) (fun cdv A outer s H vs Q E hr h=>?_)
 ·obtain⟨_,_,rfl,_⟩:=h
  rfl
 ·obtain⟨x,i,rfl,i0,i1,hx,q⟩:=h
  refine⟨_,(ntiA xc MB).2.h,?_⟩
  refine⟨_,rfl,_,rfl,i,rfl,i0,i1,fun z=>⟨x,z,rfl,hx,?_⟩⟩
  exact⟨_,rfl,_,rfl,x,rfl,hx,fun d hd ne=>q d hd ne⟩
end
end Eo
end
section
namespace Eo
open PySem L2 Tx
theorem jEC {n:Int}{o:Ob}(h:lotB n o=true):∃ ts:List Int,o= .tup (ts.map Ob.int)/\Ris n ts:=by
 cases o with
 | int i=>cases h
 | oth=>cases h
 | tup os=>
  have h0:(os.all (upB 0 (n - 1))&&(adj (os.map val)).all id)=true:=h
  obtain⟨h1,h2⟩:=aM.mp h0
  have h1:=aD.mp h1
  have hi:∀ o∈os,∃ i,o=Ob.int i/\0<=i/\i<n:=fun o ho=>by
   have:=h1 o ho
   cases o with
   | int i=>
    have this:(decide ((0:Int)<=i)&&decide (i<=n - 1))=true:=this
    obtain⟨a,b⟩:=aM.mp this
    have a:=aj a
    have b:=aj b
    exact⟨i,rfl,a,by omega⟩
   | oth=>cases this
   | tup r=>cases this
  have e:os=(os.map val).map Ob.int:=by
   rw[fb]
   exact((eX fun o ho=>by obtain⟨i,rfl,_⟩:=hi o ho; rfl).trans (map_id os)).symm
  refine⟨os.map val,bn Ob.tup e,?_,fun z hz=>?_⟩
  ·rw[de]
   intro i j hi' hj hij
   have g1:(os.map val).getD i 0=(os.map val)[i]:=by rw[aK,bB hi']; rfl
   have g2:(os.map val).getD j 0=(os.map val)[j]:=by rw[aK,bB hj]; rfl
   have a1:=jLP h2 (k:=i) (by omega)
   have a2:=jHV h2 (i+1) j (by omega) hj
   omega
  ·obtain⟨o,ho,rfl⟩:=aP.mp hz
   obtain⟨i,rfl,a,b⟩:=hi o ho
   exact⟨a,b⟩
def obPc (pc:List Int×Int):Ob:= .tup [.tup (pc.1.map Ob.int), .int pc.2]
def pcOf:Ob->List Int×Int
 | .tup [.tup os,o]=>(os.map val,val o)
 | _=>([],0)
theorem jAQ (ts:List Int):(ts.map Ob.int).map val=ts:=by
 rw[fb]
 exact(eX fun _ _=>rfl).trans (map_id ts)
theorem jJE {w:Int}{o:Ob}(h:jV w o=true):o=obPc (pcOf o)/\GoodPc w (pcOf o):=by
 cases o with
 | int i=>cases h
 | oth=>cases h
 | tup os=>
  match os,h with
  | [a,b],h=>
   have h:(lotB w a&&!qN a&&upB (-1000000000000) 1000000000000 b)=true:=h
   obtain⟨h,hb⟩:=aM.mp h
   obtain⟨hl,he⟩:=aM.mp h
   obtain⟨ts,rfl,rt⟩:=jEC hl
   obtain⟨i,rfl,i0,i1⟩:=jEV hb
   have ev:pcOf (.tup [.tup (ts.map Ob.int), .int i])=(ts,i):=by
    show ((ts.map Ob.int).map val,i)=_
    rw[jAQ]
   rw[ev]
   refine⟨rfl,⟨rt.ris,rt.bnd,fun z=>?_⟩,i0,i1⟩
   have z:ts=[]:=z
   rw[z] at he
   cases he
theorem jBZ {H:Hp} :∀ ls:List Int,Ats H (ls.map Ob.int) (ls.map V.int)
 | []=>rfl
 | x::ls=>⟨_,_,rfl,rfl,jBZ ls⟩
theorem jCT {H:Hp} :∀ {ls:List Int}{vs:List V},Ats H (ls.map Ob.int) vs->vs=ls.map V.int
 | [],_,h=>h
 | x::ls,_,⟨v,r,e,h1,h2⟩=>by
  rw[e,show v=V.int x from h1,jCT h2]
  rfl
theorem jJF {H:Hp}{v:V}{pc:List Int×Int}(h:At H (obPc pc) v):PcAt H v pc:=by
 obtain⟨a,vs,rfl,ha,_,u1,r1,rfl,⟨q,ws,rfl,hq,_,h2⟩,u2,r2,rfl,h3,h4⟩:=h
 cases (show r2=[] from h4)
 cases (show u2=V.int pc.2 from h3)
 rw[jCT h2] at hq
 exact⟨a,q,rfl,ha,hq⟩
theorem pc_at {H:Hp}{v:V}{pc:List Int×Int}(h:PcAt H v pc)(n:pc.1.length<=100):At H (obPc pc) v:=by
 obtain⟨a,q,rfl,ha,hq⟩:=h
 exact yE ha (by show 2<=100; decide) (ats1 (yE hq (by rw[af]; exact n) (jBZ _)) (ats1 (jDJ _ _) (ats0 _)))
theorem jJD {H:Hp} :∀ {vs:List V}{pcs:List (List Int×Int)},PcsAt H vs pcs->(∀ pc∈pcs,pc.1.length<=100)->Ats H (pcs.map obPc) vs
 | [],[],_,_=>ats0 H
 | v::vs,p::ps,h,n=>ats1 (pc_at h.1 (n p (am ..))) (jJD h.2 fun pc hp=>n pc (ar _ hp))
theorem PcsAt.snoc {H:Hp}{v:V}{pc:List Int×Int}(hv:PcAt H v pc):∀ {vs:List V}{ps:List (List Int×Int)},PcsAt H vs ps->PcsAt H (vs++[v]) (ps++[pc])
 | [],[],_=>⟨hv,trivial⟩
 | _::_,_::_,h=>⟨h.1,PcsAt.snoc hv h.2⟩
abbrev Bx:=Int×List Int×List (List Int×Int)
def hdOf:Ob->Int×List Int
 | .tup [a, .tup os,_]=>(val a,os.map val)
 | _=>(0,[])
theorem jNR {row:PySem.Str}(h:bxB (hdO row)=true):hdO row= .tup [.int (hdOf (hdO row)).1, .tup ((hdOf (hdO row)).2.map Ob.int), .tup []]/\0<=(hdOf (hdO row)).1/\(hdOf (hdO row)).1<=16/\Ris (hdOf (hdO row)).1 (hdOf (hdO row)).2:=by
 have key:∀ a b,bxB (.tup [a, .tup b, .tup []])=true->(Ob.tup [a, .tup b, .tup []])= .tup [.int (hdOf (.tup [a, .tup b, .tup []])).1, .tup ((hdOf (.tup [a, .tup b, .tup []])).2.map Ob.int), .tup []]/\0<=(hdOf (.tup [a, .tup b, .tup []])).1/\(hdOf (.tup [a, .tup b, .tup []])).1<=16/\Ris (hdOf (.tup [a, .tup b, .tup []])).1 (hdOf (.tup [a, .tup b, .tup []])).2:=fun a b h=>by
  have h:(upB 0 16 a&&lotB (val a) (.tup b)&&decide (([]:List Ob).length<=32)&&([]:List Ob).all (jV (val a)))=true:=h
  obtain⟨h,_⟩:=aM.mp h
  obtain⟨h,_⟩:=aM.mp h
  obtain⟨h1,h2⟩:=aM.mp h
  obtain⟨i,rfl,i0,i1⟩:=jEV h1
  obtain⟨ts,e,rt⟩:=jEC h2
  have e:b=ts.map Ob.int:=Ob.tup.inj e
  subst e
  have ev:hdOf (.tup [.int i, .tup (ts.map Ob.int), .tup []])=(i,ts):=by
   show (i,(ts.map Ob.int).map val)=_
   rw[jAQ]
  rw[ev]
  exact⟨rfl,i0,i1,rt⟩
 unfold hdO at h ⊢
 split at h
 ·split at h
  ·rename_i hc
   rw[aA hc]
   exact key _ _ h
  ·cases h
 ·split at h
  ·rename_i hc
   rw[aA hc]
   split at h
   ·rename_i hm
    rw[aA hm]
    exact key _ _ h
   ·cases h
  ·cases h
 ·cases h
def vpc (w:Int)(row:PySem.Str):Option (List Int×Int):=if jV w (pcO row)=true then some (pcOf (pcO row)) else none
def vhd (row:PySem.Str):Option (Int×List Int):=if bxB (hdO row)=true then some (hdOf (hdO row)) else none
def rdR (w:Int):List (List Int×Int)->List PySem.Str->Nat->Nat ⊕ List (List Int×Int)
 | acc,[],_=> .inr acc
 | acc,r::rs,k=>if acc.length=32 then .inl k else match vpc w r with
  | none=> .inl k
  | some pc=>rdR w (acc++[pc]) rs (k+1)
def rd (z:PySem.Str):Nat ⊕ Bx:=match rws z with
 | []=> .inl 0
 | h::rs=>match vhd h with
  | none=> .inl 0
  | some (w,ms)=>match rdR w [] rs 1 with
   | .inl k=> .inl k
   | .inr ps=> .inr (w,ms,ps)
section
variable {P:Program}{w:World}{K:W.Frag}{mg:Str->Option Value}{base:Heap}
variable {f C B fI0 fH fP fB fI:Addr}{fdI0 fdH fdP fdB fdI:FuncData}{cdv:Value}{A:Around}{outer:List Env}{s:Shared}{H0:Hp}{E:XK}{uP:Tok}
noncomputable abbrev nRead:List Str:=["text","rows","head","pieces","row","piece"]
theorem scRead:FnScope nRead ["text"] (j9 sRead):=⟨rfl,rfl,rfl,by decide+kernel,rfl,by decide+kernel,by decide+kernel⟩
abbrev XRead (C:Addr)(P:Program)(w:World)(K:W.Frag)(mg:Str->Option Value)(base:Heap)(f:Addr)(cdv:Value)(A:Around)(outer:List Env)(s:Shared)(H:Hp)(E:XK):Cx:=cxOf (CXR P w C) P w K mg base nRead "read" (j9 sRead) f cdv A outer s H E
section
variable (T:Txt mg)(mP:mg "MOST_PIECES" =some (.int 32 uP))(CH:Can P w K mg base "head_in" 3 fH fdH ["row"] (jC8 hdO))(CP:Can P w K mg base "piece_in" 3 fP fdP ["row"] (jC8 pcO))(CB:Can P w K mg base "is_box" 6 fB fdB ["thing"] (spB bxB))(CI:Can P w K mg base "is_piece" 4 fI fdI ["thing","many"] (spB2 jV))(xc:XCls K C B fI0 "row")(FI:FnOk P w K mg base CX0 1 fI0 fdI0 ["self","row"] (spXI C "row"))(bI:Binds K fdI0 ["self","row"] [])(MN:mg "NoText" =some (.ref C))(hrI:Room 2 (XRead C P w K mg base f cdv A outer s H0 E).A)(hr:Room 6 (XRead C P w K mg base f cdv A outer s H0 E).A)
def jND: { t:TS // JSs (XRead C P w K mg base f cdv A outer s H0 E) (jFI ((jE sRead).getD 5 (.Pass ⟨0,0,0,0⟩))) t} :=
 have nd:=scRead.nd
 ⟨_,(jA (JS.nox (jR (i:=5) nd rfl (loc_x (by decide+kernel)) (CP.je (hr.mono (by decide)) (gl_x (by decide+kernel)) (j4 (jW jX (jv 1 rfl (qZ (by decide+kernel))) (jv 4 rfl (qZ (by decide+kernel))) jE2) j7 jO) jO) kD)) (jA (jZ (JT.nox (jt_w (yJ (jI yB (jH jP (gl_x (by decide+kernel)) T.len (by decide+kernel) (j4 (jv 3 rfl (qZ (by decide+kernel))) j7 j6) j6) (yM (v:= .int 32) (gl_x (by decide+kernel)) mP ⟨_,rfl⟩) (jK _)) (yL (kX (kI (CI.je (hr.mono (by decide)) (gl_x (by decide+kernel)) (j4 (jv 5 rfl (qZ (by decide+kernel))) (j4 (jW kY (jv 2 rfl (qZ (by decide+kernel))) (jC) jJ) j7 jO) j6) j6) jY)))))) (jF (jD7 rfl xc FI bI hrI (gl_x (by decide+kernel)) MN (j4 (jv 4 rfl (vis_y (by decide+kernel))) j7 j6))) jL) (jF (JS.nox (jGL (qY gi PySem.F.slot_list_append PySem.F.type_list_append jFF (jv 3 rfl (qZ (by decide+kernel))) (j4 (jv 5 rfl (qZ (by decide+kernel))) j7 j6) j6) kD)))))⟩
def readA: { t:TS // JSs (XRead C P w K mg base f cdv A outer s H0 E) (jE sRead) t} :=
 have nd:=scRead.nd
 ⟨_,(jA (jZ (JT.nox (kX (kI (jH jQ (gl_x (by decide+kernel)) T.isinstance (by decide+kernel) (j4 (jv 0 rfl (qZ (by decide+kernel))) (j4 (kO (v:= .ty "str") (gl_x (by decide+kernel)) T.str (by decide+kernel) rfl) j7 j6) j6) j6) jY))) (jF (jD7 rfl xc FI bI hrI (gl_x (by decide+kernel)) MN (j4 (jC) j7 jB))) jL) (jA (JS.nox (jR (i:=1) nd rfl (loc_x (by decide+kernel)) (qY aU bz bA jA6 (jv 0 rfl (qZ (by decide+kernel))) (j4 (jM) j7 jB) jB) kD)) (jA (JS.nox (jR (i:=2) nd rfl (loc_x (by decide+kernel)) (CH.je (hr.mono (by decide)) (gl_x (by decide+kernel)) (j4 (jW jX (jv 1 rfl (qZ (by decide+kernel))) (jC) jJ) j7 jO) jO) kD)) (jA (jZ (JT.nox (kX (kI (CB.je hr (gl_x (by decide+kernel)) (j4 (jv 2 rfl (qZ (by decide+kernel))) j7 j6) j6) jY))) (jF (jD7 rfl xc FI bI hrI (gl_x (by decide+kernel)) MN (j4 (jC) j7 jB))) jL) (jA (JS.nox (jR (i:=3) nd rfl (loc_x (by decide+kernel)) (jFN j7) jEX)) (jA (jDU PySem.PassesOwn.leaving rfl (jD9 (gl_y (by decide+kernel)) T.range (j4 (jC) (j4 (jH jP (gl_y (by decide+kernel)) T.len (by decide+kernel) (j4 (jv 1 rfl (vis_y (by decide+kernel))) j7 j6) j6) j7 jS) jB) jB jS) (kU (i:=4) nd rfl (loc_y (by decide+kernel))) (jND T mP CP CI xc FI bI MN hrI hr).2 jAI) (jF (JS.nox (jN (jDV (j4 (jW kY (jv 2 rfl (qZ (by decide+kernel))) (jC) jJ) (j4 (jW kY (jv 2 rfl (qZ (by decide+kernel))) (jC) jJ) (j4 (kL jA0 (gl_x (by decide+kernel)) T.tuple (by decide+kernel) (j4 (jv 3 rfl (qZ (by decide+kernel))) j7 j6) j6) j7 jS) jO) jO)))))))))))⟩
structure TxtOk (z:PySem.Str):Prop where
 a:Asc z
 r:∀ r∈rws z,RowT r
def XE (H:Hp)(E:XK)(k:Nat):Prop:=∀ a d H',Ext H H'->H' d=some (.xd [("row", .int (k:Int))])->E (.ref a) (some d) H'
theorem XE.go {H H1:Hp}{E:XK}{k:Nat}(h:XE H E k)(e:Ext H H1):∀ a d,H1 d=none->E (.ref a) (some d) (L2.upd H1 d (.xd [("row", .int (k:Int))])):=fun a d hd=>h a d _ (e.new hd _) j8
theorem jKD {D:Ends}{H:Hp}{p b l:Addr}{rs:List PySem.Str}{w:Int}{acc:List (List Int×Int)}{vs:List V}{r:PySem.Str}{i:Nat}{bt:List V}{v0 v5:Option V}(hp:H p=some (.lst (rs.map V.str)))(hi:rs[i+1]?=some r)(hr':RowT r)(hb:H b=some (.tup (.int w::bt)))(hl:H l=some (.lst vs))(hv:PcsAt H vs acc)(ac:acc.length<=32)(il:i<=99)
  (no:(acc.length=32\/vpc w r=none)->XE H E (i+1))
  (yes:∀ pc v5 H' vs',acc.length≠32->vpc w r=some pc->H' l=some (.lst vs')->PcsAt H' vs' (acc++[pc])->(∀ c o,H c=some o->c≠l->H' c=some o)->D.nx [v0,some (.ref p),some (.ref b),some (.ref l),some (.int (1+(i:Int))),v5] H'):
  (jND (f:=f) (cdv:=cdv) (A:=A) (outer:=outer) (s:=s) (H0:=H0) (E:=E) T mP CP CI xc FI bI MN hrI hr).1 D [v0,some (.ref p),some (.ref b),some (.ref l),some (.int (1+(i:Int))),v5] H:=by
 have e1:(1+(i:Int))=((i+1:Nat):Int):=by omega
 have hat:atI (rs.map V.str) (1+(i:Int))=some (.str r):=by
  rw[e1]
  refine jT ?_
  rw[aY,hi]
  rfl
 have vl:=hv.len
 refine⟨_,rfl,_,rfl,p,_,_,_,rfl,rfl,SqL.of hp,hat,r,rfl,hr',fun v H5 hA x5=>?_⟩
 have hl5:=x5 _ _ hl
 refine⟨_,rfl,l,_,rfl, .inl (SqL.of hl5),rfl,_,rfl,ite2 (fun h=>?_) (fun h=>?_)⟩
 ·have h:(vs.length:Int)=32:=V.int.inj (aj h)
  refine iteT ⟨_,rfl,_,rfl,by omega,by omega,?_⟩
  rw[e1]
  exact(no (.inl (by omega))).go x5
 ·have h:acc.length≠32:=fun e=>h (ah (by rw[vl,e]; rfl))
  refine⟨_,rfl,_,rfl,b,_,0,_,rfl,rfl,SqT.of (x5 _ _ hb),jT (j:=0) rfl,v,pcO r,w,rfl,hA,fun H6 x6=>⟨_,rfl,?_⟩⟩
  cases hp':jV w (pcO r) with
  | false=>
   refine iteT ⟨_,rfl,_,rfl,by omega,by omega,?_⟩
   rw[e1]
   exact(no (.inr (aB (by rw[hp']; decide)))).go (x5.trans x6)
  | true=>
   obtain⟨eo,gp⟩:=jJE hp'
   have hA6:At H6 (obPc (pcOf (pcO r))) v:=by rw[<- eo]; exact hA.ext x6
   have hl6:=x6 _ _ hl5
   refine iteF ⟨_,rfl, .inl ⟨rfl,_,SqL.of hl6⟩,_,rfl,l,vs,_,rfl,rfl,hl6,by rw[ai]; omega,?_⟩
   refine yes (pcOf (pcO r)) _ _ (vs++[v]) h (aA hp') j8 ?_ fun c o hc n=>by rw[jG n]; exact x6 _ _ (x5 _ _ hc)
   exact(PcsAt.snoc (jJF hA6) ((hv.mono fun c ws h=>x5 _ _ h).mono fun c ws h=>x6 _ _ h)).mono (Tups.upd hl6 _)
def jGV (K:W.Frag):Sp:=fun vs H Q E=>∃ v,vs=[v]/\((∃ z,v= .str z/\TxtOk z/\(∀ k,rd z= .inl k->XE H E k)/\∀ x,rd z= .inr x->∀ b H',BoxAt H' b x.1 x.2.1 x.2.2->Ext H H'->Q (.ref b) H')\/((∃ T,TyOf K H v (.type T)/\kitOne K (.type T) (.type "str")=some false)/\XE H E 0))
end
theorem jP2 {fd:FuncData}(F:Fun K "read" "read" sRead f fd)(T:Txt mg)(mP:mg "MOST_PIECES" =some (.int 32 uP))(CH:Can P w K mg base "head_in" 3 fH fdH ["row"] (jC8 hdO))(CP:Can P w K mg base "piece_in" 3 fP fdP ["row"] (jC8 pcO))(CB:Can P w K mg base "is_box" 6 fB fdB ["thing"] (spB bxB))(CI:Can P w K mg base "is_piece" 4 fI fdI ["thing","many"] (spB2 jV))(xc:XCls K C B fI0 "row")(FI:FnOk P w K mg base CX0 1 fI0 fdI0 ["self","row"] (spXI C "row"))(bI:Binds K fdI0 ["self","row"] [])(MN:mg "NoText" =some (.ref C)):FnOk P w K mg base (CXR P w C) 7 f fd ["text"] (jGV K):=by
 refine F.okR scRead (fun vs H Q E h=>?_) (fun cdv A outer s H vs Q E hr h=>?_)
 ·obtain⟨_,rfl,_⟩:=h
  rfl
 ·obtain⟨v,rfl,h⟩:=h
  have hrI:Room 2 (XRead C P w K mg base f cdv A outer s H E).A:=hr.mono (by decide)
  refine⟨_,(readA T mP CH CP CB CI xc FI bI MN hrI hr).2.h,?_⟩
  rcases h with ⟨z,rfl,tz,no,yes⟩ | ⟨⟨Ty,ty1,ty2⟩,no⟩
  ·refine⟨_,rfl,_,_,_,true,rfl, .str _,rfl,_,rfl,iteF ?_⟩
   have al:=tz.a.2
   refine⟨_,rfl,rfl,_,_,rfl,rfl,by rw[jAS]; rfl,by rw[ai]; omega,fun p hp=>?_⟩
   have x1:Ext H (L2.upd H p (.lst ((rws z).map V.str))):=(Ext.refl _).new hp _
   have hp1:(L2.upd H p (.lst ((rws z).map V.str))) p=some (.lst ((rws z).map V.str)):=j8
   generalize L2.upd H p (.lst ((rws z).map V.str))=H1 at x1 hp1 ⊢
   have ml:(rws z).length<=z.length+1:=by
    unfold rws
    rw[jAS]
    exact jAJ z 10
   have tr:=tz.r
   have pos:0<(rws z).length:=dL z _
   have er:rd z=match rws z with
    | []=> .inl 0
    | h::rs=>match vhd h with
     | none=> .inl 0
     | some (w,ms)=>match rdR w [] rs 1 with
      | .inl k=> .inl k
      | .inr ps=> .inr (w,ms,ps):=rfl
   rw[er] at no yes
   clear er
   generalize rws z=rs at hp1 ml tr pos no yes
   cases rs with
   | nil=>cases pos
   | cons h rs=>
    dsimp only at no yes
    refine⟨_,rfl,p,_,0,_,rfl,rfl,SqL.of hp1,jT (j:=0) rfl,h,rfl,tr h (am ..),fun v2 H2 hA x2=>?_⟩
    refine⟨_,rfl,v2,hdO h,rfl,hA,fun H3 x3=>⟨_,rfl,?_⟩⟩
    cases hb:bxB (hdO h) with
    | false=>
     have ev:vhd h=none:=aB (by rw[hb]; decide)
     rw[ev] at no
     exact iteT ⟨0,rfl,by decide,by decide,(no 0 rfl).go ((x1.trans x2).trans x3)⟩
    | true=>
     have ev:vhd h=some (hdOf (hdO h)):=aA hb
     rw[ev] at no yes
     obtain⟨eo,w0,w1,rm⟩:=jNR hb
     generalize hdOf (hdO h)=wm at eo w0 w1 rm no yes
     obtain⟨wi,ms⟩:=wm
     dsimp only at eo w0 w1 rm no yes
     rw[eo] at hA
     obtain⟨b,us,rfl,b1,_,u1,r1,rfl,e1,u2,r2,rfl,⟨qm,ws2,rfl,b2,_,hm⟩,u3,r3,rfl,⟨qp,ws3,rfl,b3,_,hq⟩,e4⟩:=hA
     cases (show r3=[] from e4)
     cases (show u1=V.int wi from e1)
     cases (show ws3=[] from hq)
     rw[jCT hm] at b2
     refine iteF ⟨(by show 0<=sizeLine; exact aJ _),fun l hl0=>?_⟩
     have X3:Ext H H3:=(x1.trans x2).trans x3
     have p3:=(x2.trans x3) _ _ hp1
     have c1:=x3 _ _ b1
     have pl:p≠l:=jD p3 hl0
     have bl:b≠l:=jD c1 hl0
     have rl:((h::rs).map V.str).length=rs.length+1:=by rw[af,aC]
     rw[aC] at ml
     have eH:∀ {H':Hp},(∀ c o,H3 c=some o->c≠l->H' c=some o)->Ext H H':=fun k c o hc=>k _ _ (X3 _ _ hc) (jD (X3 _ _ hc) hl0)
     refine⟨_,rfl,p,_,rfl, .inl (SqL.of (((Ext.refl _).new hl0 _) _ _ p3)),1,_,rfl,⟨by decide,by decide,by omega,by omega⟩,jAX (n:=((((h::rs).map V.str).length:Int) - 1).toNat) (fun i σ H'=>(∃ v4 v5,σ=[some (.str z),some (.ref p),some (.ref b),some (.ref l),v4,v5])/\(∀ c o,H3 c=some o->c≠l->H' c=some o)/\∃ acc vs,H' l=some (.lst vs)/\PcsAt H' vs acc/\acc.length=i/\i<=32/\rdR wi [] rs 1=rdR wi acc (rs.drop i) (i+1)) ⟨⟨_,_,rfl⟩,fun c o hc n=>by rw[jG n]; exact hc,[],[],j8,trivial,rfl,aJ _,rfl⟩ ?_ ?_⟩
     ·rintro i σ H4 hi ⟨⟨v4,v5,rfl⟩,k4,acc,vs,hv,hps,al4,i32,er⟩
      have hi':i<rs.length:=by omega
      have hri:rs[i]?=some rs[i]:=bB hi'
      have ed:rs.drop i=rs[i]::rs.drop (i+1):=df hi'
      have er2:rdR wi acc (rs.drop i) (i+1)=if acc.length=32 then .inl (i+1) else match vpc wi rs[i] with
       | none=> .inl (i+1)
       | some pc=>rdR wi (acc++[pc]) (rs.drop (i+1)) (i+1+1):=by rw[ed]; rfl
      refine jKD T mP CP CI xc FI bI MN hrI hr (rs:=h::rs) (r:=rs[i]) (acc:=acc) (k4 _ _ p3 pl) (by rw[gj]; exact hri) (tr _ (ar _ (ck hi'))) (k4 _ _ c1 bl) hv hps (by omega) (by omega) (fun hn=>?_) (fun pc v5 H5 vs' h32 hpc hl5 hp5 k5=>?_)
      ·have e2:rdR wi [] rs 1= .inl (i+1):=by
        rw[er,er2]
        rcases hn with hn | hn
        ·rw[aA hn]
        ·by_cases h32:acc.length=32
         ·rw[aA h32]
         ·rw[aB h32,hn]
       rw[e2] at no
       exact fun a d H' e hd=>no (i+1) rfl a d H' ((eH k4).trans e) hd
      ·refine⟨⟨_,_,rfl⟩,fun c o hc n=>k5 _ _ (k4 _ _ hc n) n,acc++[pc],vs',hl5,hp5,by rw[aI,al4]; rfl,by omega,?_⟩
       rw[er,er2,aB h32,hpc]
     ·rintro σ H4 ⟨⟨v4,v5,rfl⟩,k4,acc,vs,hv,hps,al4,i32,er⟩
      have en:((((h::rs).map V.str).length:Int) - 1).toNat=rs.length:=by omega
      rw[en] at al4 er
      have e2:rdR wi [] rs 1= .inr acc:=by
       rw[er,List.drop_length]
       rfl
      rw[e2] at yes
      have bH:=k4 _ _ c1 bl
      refine⟨_,rfl,b,_,0,_,rfl,rfl,SqT.of bH,jT (j:=0) rfl,_,rfl,b,_,1,_,rfl,rfl,SqT.of bH,jT (j:=1) rfl,_,rfl,l,_,rfl, .inl ⟨SqL.of hv,fun t ht=>⟨(by show 3<=sizeLine; decide),fun t3 ht3=>?_⟩⟩⟩
      have x5:Ext H4 (L2.upd (L2.upd H4 t (.tup vs)) t3 (.tup [.int wi, .ref qm, .ref t])):=((Ext.refl _).new ht _).new ht3 _
      have nt:t≠t3:=fun e=>by subst e; rw[j8] at ht3; cases ht3
      have q3:=k4 _ _ (x3 _ _ b2) (jD (x3 _ _ b2) hl0)
      refine yes (wi,ms,acc) rfl t3 _ ⟨qm,t,vs,j8,x5 _ _ q3,?_,hps.mono fun b xs h=>x5 b _ h⟩ ((eH k4).trans x5)
      rw[jG nt]
      exact j8
  ·refine⟨_,rfl,_,"str",_,false,rfl,ty1,ty2,_,rfl,iteT ⟨0,rfl,by decide,by decide,no.go (Ext.refl _)⟩⟩
end
end Eo
end
section
namespace L2
open PySem
theorem jMM {X:Cx}{a b c:Expr}{ta tb tc:TE}{pos:Pos}{op op':CmpOp}{r r':R2}(ho:OpR X (compareOp op) r)(ho':OpR X (compareOp op') r')(ha:JE X a ta)(hb:JE X b tb)(hc:JE X c tc)
  (hm:lastMarks [op,op'] [b,c]=false:=by with_unfolding_all rfl):JT X (.Compare a [op,op'] [b,c] pos) (tTest (jGU r r' ta tb tc)):=⟨jM0 ho ho' ha.h hb.h hc.h hm⟩
end L2
namespace Tx
open PySem PyProof.Rows PySem.NumText
theorem jN2:∀ c,c<128->(!decide (([c]:List Nat)< [48]))=decide (48<=c):=by decide+kernel
theorem jN1:∀ c,c<128->(!decide (([57]:List Nat)< [c]))=decide (c<=57):=by decide+kernel
theorem jPD:(("9" :String):PySem.Str)=⟨#[57]⟩:=by decide+kernel
theorem jHA {z:PySem.Str}(h:wf z.cps.toList=true):numS (digitsVal z.cps.toList:Int)=z↔canD z.cps.toList=true:=by
 obtain⟨a,b,c⟩:=wf_iff.mp h
 have es:(numS (digitsVal z.cps.toList:Int)).cps.toList=dl (digitsVal z.cps.toList):=yQ _
 have key:canD z.cps.toList=true->dl (digitsVal z.cps.toList)=z.cps.toList:=fun hc=>by
  obtain⟨_,_,_,d⟩:=canD_iff.mp hc
  have hd:∀ cs:List Nat,AllDigits cs->(cs.map Char.ofNat).map Char.toNat=cs:=fun cs hcs=>by
   induction cs with
   | nil=>rfl
   | cons x cs ih=>
    rw[bi,bi,ih hcs.tail]
    have:=hcs.head
    have e:(Char.ofNat x).toNat=x:=by
     have:∀ x,x<128->(Char.ofNat x).toNat=x:=by decide+kernel
     exact this x (by omega)
    rw[e]
  have ht:=toDigits_digitsVal (z.cps.toList.length - 1) z.cps.toList (by have:=gR.mpr a; omega) c (by
   rcases d with d | d
   ·right
    cases hz:z.cps.toList with
    | nil=>exact absurd hz a
    | cons x cs=>
     have hx:=c x (by rw[hz]; exact am ..)
     rw[hz] at d
     have hne:x≠48:=fun e=>d (by rw[e]; rfl)
     exact⟨x,cs,rfl,by omega⟩
   ·left
    rw[d]
    rfl)
  unfold dl
  rw[ht,hd _ c]
 constructor
 ·intro e
  have e2:z.cps.toList=dl (digitsVal z.cps.toList):=by
   rw[<- es,e]
  refine canD_iff.mpr ⟨a,b,c,?_⟩
  by_cases h0:digitsVal z.cps.toList=0
  ·right
   rw[e2,h0]
   rfl
  ·left
   obtain⟨x,r,e3,e4⟩:=jKZ _ (g5 h0)
   rw[e2,e3]
   intro q
   exact e4 (aF q)
 ·intro hc
  exact jBA (by rw[es,key hc])
theorem jQ1:∀ (cs:List Nat),AllDigits cs->digitsVal cs<10 ^ cs.length:=by
 intro cs
 have:∀ (cs:List Nat) (a k:Nat),AllDigits cs->a<10 ^ k->cs.foldl (fun acc c=>acc*10+(c - 48)) a<10 ^ (k+cs.length):=by
  intro cs
  induction cs with
  | nil=>intro a k _ h; exact h
  | cons x cs ih=>
   intro a k h ha
   have hx:=h.head
   have:=ih (a*10+(x - 48)) (k+1) h.tail (by rw[Nat.pow_succ]; omega)
   rw[gA,aC]
   rw[show k+(cs.length+1)=k+1+cs.length by omega]
   exact this
 intro h
 have:=this cs 0 0 h (by decide)
 rw[Nat.zero_add] at this
 exact this
end Tx
namespace Eo
open PySem L2 Tx PySem.NumText
section
variable {P:Program}{w:World}{K:W.Frag}{mg:Str->Option Value}{base:Heap}
variable {f fN:Addr}{fdN:FuncData}{cdv:Value}{A:Around}{outer:List Env}{s:Shared}{H0:Hp}{E:XK}
noncomputable abbrev nLNum:List Str:=["word"]
theorem scLNum:FnScope nLNum ["word"] (j9 xG):=⟨rfl,rfl,rfl,by decide+kernel,rfl,by decide+kernel,by decide+kernel⟩
def jCA:Sp:=fun vs H Q _=>∃ z:PySem.Str,vs=[.str z]/\Asc z/\∀ H',Ext H H'->Q (oV (numL z)) H'
def lnumA (T:Txt mg)(hr:Room 0 (XOf nLNum "_law_number" xG P w K mg base f cdv A outer s H0 E).A): { t:TS // JSs (XOf nLNum "_law_number" xG P w K mg base f cdv A outer s H0 E) (jE xG) t} :=
 have nd:=scLNum.nd
 ⟨_,(jA (jZ (jt_w (yJ (jI yB (jv 0 rfl vL) (jM) (jK _)) (yJ (jI op_gt (jH jAB gD T.len (by decide+kernel) (j4 (jv 0 rfl vL) j7 j6) j6) (jC) (jK _)) (yL (jI (jOY hr.units0) (yZ (m:=[none]) (Nc:=["sign"]) rfl (jNP (jv 0 rfl vL)) rfl (by decide+kernel) (by decide+kernel) (yN (psc:=j9 xG) (by decide+kernel)) (kZ (N:=nLNum) rfl rfl (by decide+kernel)) (fun cl C fp s H=>kU (i:=0) (show (["sign"]:List Str).Nodup by decide+kernel) rfl (xB (by decide+kernel))) (fun cl C fp s H=>jKF (kX (jMM jNI jNI (jM) (jv 0 rfl (yR (by decide+kernel))) (jM)))) (fun cl C fp s H=>(jv 0 rfl (yR (by decide+kernel)))) jBF) (jFN j7) (jK _)))))) (jF (jN (yA))) jL)
   (jA (jZ (jI xF (kL jA2 gD T.str (by decide+kernel) (j4 (kL jDI gD T.int (by decide+kernel) (j4 (jv 0 rfl vL) j7 j6) j6) j7 jS) jS) (jv 0 rfl vL) (jK _)) (jF (jN (yA))) jL)
   (jF (jN (kL jDI gD T.int (by decide+kernel) (j4 (jv 0 rfl vL) j7 j6) j6)))))⟩
theorem jP4 {fd:FuncData}(F:Fun K "_law_number" "_law_number" xG f fd)(T:Txt mg):FnOk P w K mg base CX0 1 f fd ["word"] jCA:=by
 refine F.ok scLNum (fun vs H Q E h=>?_) (fun cdv A outer s H vs Q E hr h=>?_)
 ·obtain⟨_,rfl,_⟩:=h
  rfl
 ·obtain⟨z,rfl,az,q⟩:=h
  have hl:=qA z
  have zl:=az.2
  have hsl:z.length<=sizeLine:=by rw[ai]; omega
  have hsz:z.cps.size=z.length:=rfl
  have no:∀ {H':Hp},Ext H H'->canD z.cps.toList=false->Q .non H':=fun e h=>by
   have:=q _ e
   unfold numL at this
   rw[aB (by rw[h]; decide)] at this
   exact this
  refine⟨_,(lnumA T hr).2.h,?_⟩
  refine⟨_,rfl,rfl,_,rfl,ite2 (fun h=>?_) (fun h0=>?_)⟩
  ·have h:z=(("" :String):PySem.Str):=V.str.inj (aj h)
   refine iteT (no (Ext.refl _) ?_)
   rw[h]
   rfl
  have h0':z.cps.toList≠ []:=fun e=>h0 (ah (by rw[show z=(("" :String):PySem.Str) from jBA (by rw[e]; rfl)]))
  refine⟨_,rfl,z,rfl,hsl,_,_,rfl,rfl,_,rfl,ite2 (fun h=>?_) (fun h1=>?_)⟩
  ·have h1:(z.length:Int)>13:=aj h
   refine iteT (no (Ext.refl _) ?_)
   unfold canD
   rw[aq (show ¬ z.cps.toList.length<=13 by omega),ba,aX]
  have h1':z.cps.toList.length<=13:=by
   have:¬ ((z.length:Int)>13):=fun e=>h1 (ah e)
   omega
  refine⟨_,rfl,z,rfl,az.1,jHN (by rw[ai]; omega) (fun D j σ' H' zs=>σ'.length=1/\zs=((z.cps.toList.take j).filter fun c=>!fig c).map (fun c=>V.str ⟨#[c]⟩)/\H'=L2.upd H D (.lst zs)) ?_ ?_ ?_ ?_⟩
  ·intro D hD
   exact⟨rfl,rfl,rfl⟩
  ·rintro D j σ' H' zs hD ⟨_,rfl,rfl⟩
   refine⟨j8,?_⟩
   rw[af]
   exact aO (gF _ _) (by rw[bb]; omega)
  ·rintro D j σ' H' zs c hD hj ⟨hs,rfl,rfl⟩
   have hj':z.cps.toList[j]?=some c:=by rw[cn]; exact hj
   have hc:c<128:=by
    have:=az.1
    rw[g6] at this
    exact aj (this c (dR hj))
   have et:z.cps.toList.take (j+1)=z.cps.toList.take j++[c]:=by rw[fo,hj']; rfl
   have ff:fig c=true->((z.cps.toList.take (j+1)).filter fun c=>!fig c).map (fun c=>V.str ⟨#[c]⟩)=((z.cps.toList.take j).filter fun c=>!fig c).map (fun c=>V.str ⟨#[c]⟩):=fun h=>by
    rw[et,fm,show ([c]:List Nat).filter (fun c=>!fig c)=[] by rw[List.filter_cons_of_neg (by rw[h]; decide)]; rfl,bL]
   have ft:fig c=false->((z.cps.toList.take (j+1)).filter fun c=>!fig c).map (fun c=>V.str ⟨#[c]⟩)=((z.cps.toList.take j).filter fun c=>!fig c).map (fun c=>V.str ⟨#[c]⟩)++[V.str ⟨#[c]⟩]:=fun h=>by
    rw[et,fm,show ([c]:List Nat).filter (fun c=>!fig c)=[c] by rw[List.filter_cons_of_pos (by rw[h]; decide)]; rfl,aS]
    rfl
   match σ',hs with
   | [v0],_=>
    dsimp only [yF]
    refine⟨_,rfl,_,_,rfl,rfl,_,rfl,?_⟩
    have e1:(!decide ((⟨#[c]⟩:PySem.Str).cps.toList<((("0" :String):PySem.Str)).cps.toList))=decide (48<=c):=by rw[jBT]; exact jN2 c hc
    rw[e1]
    by_cases h48:48<=c
    ·rw[ah h48]
     refine iteT ⟨_,_,rfl,rfl,_,rfl,?_⟩
     have e2:(!decide ((((("9" :String):PySem.Str)).cps.toList)<(⟨#[c]⟩:PySem.Str).cps.toList))=decide (c<=57):=by rw[jPD]; exact jN1 c hc
     rw[e2]
     by_cases h57:c<=57
     ·have hf:fig c=true:=fig_iff.mpr ⟨h48,h57⟩
      rw[ah h57]
      exact iteF ⟨rfl,(ff hf).symm,rfl⟩
     ·have hf:fig c=false:=by unfold fig; rw[aq h57,aX]
      rw[aq h57]
      exact iteT ⟨_,rfl,j8,rfl,(ft hf).symm,jAC⟩
    ·rw[aq h48]
     have hf:fig c=false:=by unfold fig; rw[aq h48]; rfl
     exact iteF ⟨_,rfl,iteT ⟨_,rfl,j8,rfl,(ft hf).symm,jAC⟩⟩
  ·rintro D' σ' H' zs hD ⟨_,rfl,rfl⟩
   have x1:Ext H (L2.upd H D' (.lst (((z.cps.toList.take z.cps.size).filter fun c=>!fig c).map (fun c=>V.str ⟨#[c]⟩)))):=(Ext.refl _).new hD _
   have hD1:(L2.upd H D' (.lst (((z.cps.toList.take z.cps.size).filter fun c=>!fig c).map (fun c=>V.str ⟨#[c]⟩)))) D'=some (.lst (((z.cps.toList.take z.cps.size).filter fun c=>!fig c).map (fun c=>V.str ⟨#[c]⟩))):=j8
   rw[bU (by rw[hl,hsz]; exact ao _)] at x1 hD1 ⊢
   generalize L2.upd H D' (.lst ((z.cps.toList.filter fun c=>!fig c).map (fun c=>V.str ⟨#[c]⟩)))=H1 at x1 hD1 ⊢
   refine⟨aJ _,fun l hl0=>⟨D',l,_,rfl,rfl,((Ext.refl _).new hl0 _) _ _ hD1,j8,_,rfl,?_⟩⟩
   have x2:Ext H (L2.upd H1 l (.lst [])):=x1.new hl0 _
   generalize L2.upd H1 l (.lst [])=H2 at x2 ⊢
   have emp:((z.cps.toList.filter fun c=>!fig c).map (fun c=>V.str ⟨#[c]⟩)=[])↔z.cps.toList.all fig=true:=by
    rw[bV,List.filter_eq_nil_iff,aD]
    exact⟨fun h x hx=>by have:=h x hx; cases hf:fig x with
     | true=>rfl
     | false=>rw[hf] at this; exact absurd rfl this,fun h x hx=>by rw[h x hx]; decide⟩
   by_cases ha:z.cps.toList.all fig=true
   ·have hw:wf z.cps.toList=true:=by
     unfold wf
     rw[ha,ah h0',ah h1']
     rfl
    obtain⟨w1,w2,w3⟩:=wf_iff.mp hw
    have hi:=cY w3 w1 (by omega:z.length<=4300)
    have hv:=jQ1 _ w3
    have hv2:digitsVal z.cps.toList<10 ^ 13:=aG hv (eG (by decide) w2)
    rw[ah (emp.mpr ha)]
    refine iteF ⟨_,rfl,z,_,rfl,hi,by omega,_,rfl,?_,_,rfl,rfl,_,rfl,?_⟩
    ·have e:((digitsVal z.cps.toList:Nat):Int).natAbs=digitsVal z.cps.toList:=rfl
     rw[e]
     by_cases h0:digitsVal z.cps.toList=0
     ·rw[h0]; decide
     ·have:=(gM h0).mpr (show digitsVal z.cps.toList<2 ^ 44 from eY hv2 (by decide))
      omega
    ·by_cases hc:canD z.cps.toList=true
     ·have e:=(jHA hw).mpr hc
      refine iteNS (bn V.str e) ⟨_,rfl,z,_,rfl,hi,by omega,?_⟩
      have:=q _ x2
      unfold numL at this
      rw[aA hc] at this
      exact this
     ·have e:¬ (V.str (PySem.Str.ofString (toString ((digitsVal z.cps.toList:Nat):Int)))=V.str z):=fun e=>hc ((jHA hw).mp (V.str.inj e))
      rw[aq e]
      exact iteT (no x2 (cS.mpr hc))
   ·rw[aq (fun e=>ha (emp.mp e))]
    refine iteT (no x2 ?_)
    rw[jBG]
    unfold wf
    rw[show z.cps.toList.all fig=false from cS.mpr ha,aX,aX,ba]
def allI:List (Option Int)->Option (List Int)
 | []=>some []
 | none::_=>none
 | some i::r=>match allI r with
  | some l=>some (i::l)
  | none=>none
theorem jAZ:∀ {l:List (Option Int)}{r:List Int},allI l=some r->l=r.map some
 | [],_,h=>by cases h; rfl
 | none::_,_,h=>by cases h
 | some i::l,r,h=>by
  unfold allI at h
  split at h
  ·rename_i l' e
   cases h
   rw[jAZ e]
   rfl
  ·cases h
theorem jG5:∀ {l:List (Option Int)},allI l=none->none∈l
 | [],h=>by cases h
 | none::_,_=>am ..
 | some i::l,h=>by
  unfold allI at h
  split at h
  ·cases h
  ·rename_i e
   exact ar _ (jG5 e)
def qB (z:PySem.Str):Option (List Int):=allI ((kP z).map numL)
abbrev jHE:List Str:=["word","parts"]
theorem scLNums:FnScope jHE ["word"] (j9 qW):=⟨rfl,rfl,rfl,by decide+kernel,rfl,by decide+kernel,by decide+kernel⟩
def jC1:Sp:=fun vs H Q _=>∃ z:PySem.Str,vs=[.str z]/\Asc z/\(qB z=none->∀ H',Ext H H'->Q .non H')/\∀ l,qB z=some l->∀ t H',H' t=some (.tup (l.map V.int))->Ext H H'->Q (.ref t) H'
def jRA (T:Txt mg)(CN:Can P w K mg base "_law_number" 1 fN fdN ["word"] jCA)(hr:Room 1 (XOf jHE "_law_numbers" qW P w K mg base f cdv A outer s H0 E).A): { t:TS // JSs (XOf jHE "_law_numbers" qW P w K mg base f cdv A outer s H0 E) (jE qW) t} :=
 have nd:=scLNums.nd
 ⟨_,(jA (jPJ (i:=1) nd rfl lL ⟨by rfl⟩ (m:=[none]) (Nc:=["part"]) rfl (jKI (qY aU bz bA jA6 (jv 0 rfl vL) (j4 (jM) j7 jB) jB)) rfl (by decide+kernel) (by decide+kernel) (yN (psc:=j9 qW) (by decide+kernel)) (kZ (N:=jHE) rfl rfl (by decide+kernel)) (fun cl C fp s H=>kU (i:=0) (show (["part"]:List Str).Nodup by decide+kernel) rfl (xB (by decide+kernel))) (fun cl C fp s H=>qG) (fun cl C fp s H=>(CN.je hr (gl_b (by decide+kernel)) (j4 (jv 0 rfl (yR (by decide+kernel))) j7 j6) j6)) jAI)
   (jA (jZ (jI jJK (yA) (jv 1 rfl vL) jJY) (jF (jN (yA))) jL)
   (jF (jN (kL jA0 gD T.tuple (by decide+kernel) (j4 (jv 1 rfl vL) j7 j6) j6)))))⟩
theorem jMB {fd:FuncData}(F:Fun K "_law_numbers" "_law_numbers" qW f fd)(T:Txt mg)(CN:Can P w K mg base "_law_number" 1 fN fdN ["word"] jCA):FnOk P w K mg base CX0 2 f fd ["word"] jC1:=by
 refine F.ok scLNums (fun vs H Q E h=>?_) (fun cdv A outer s H vs Q E hr h=>?_)
 ·obtain⟨_,rfl,_⟩:=h
  rfl
 ·obtain⟨z,rfl,az,no,yes⟩:=h
  refine⟨_,(jRA T CN hr).2.h,?_⟩
  refine⟨_,rfl,rfl,_,_,rfl,rfl,by rw[jA8]; rfl,by rw[ai]; have:=az.2; omega,fun p hp=>?_⟩
  have hm:(kP z).length<=z.length+1:=by
   unfold kP
   rw[jA8]
   exact jAJ z 44
  have ap:∀ y∈kP z,Asc y:=fun y hy=>by
   unfold kP at hy
   rw[jA8] at hy
   exact az.part hy
  have x1:Ext H (L2.upd H p (.lst ((kP z).map V.str))):=(Ext.refl _).new hp _
  have hp1:(L2.upd H p (.lst ((kP z).map V.str))) p=some (.lst ((kP z).map V.str)):=j8
  generalize L2.upd H p (.lst ((kP z).map V.str))=H1 at x1 hp1 ⊢
  have z2:=az.2
  refine⟨p,rfl,⟨_,SqL.of hp1⟩,jHO (xs:=(kP z).map V.str) (by rw[af,ai]; omega) (fun D i σ' H' zs=>σ'.length=1/\zs=(((kP z).map numL).map oV).take i/\Ext H1 H'/\H' D=some (.lst zs)/\H1 D=none) ?_ ?_ ?_ ?_⟩
  ·intro D hD
   exact⟨rfl,rfl,(Ext.refl _).new hD _,j8,hD⟩
  ·rintro D i σ' H' zs hD ⟨_,rfl,e,h2,_⟩
   refine⟨e _ _ hp1,h2,?_⟩
   rw[bb]
   omega
  ·rintro D i σ' H' zs x hD hi ⟨hs,rfl,e,h2,hn⟩
   rw[aY] at hi
   cases hy:(kP z)[i]? with
   | none=>rw[hy] at hi; cases hi
   | some y=>
    rw[hy] at hi
    cases hi
    have ey:(((kP z).map numL).map oV)[i]?=some (oV (numL y)):=by
     rw[aY,aY,hy]
     rfl
    match σ',hs with
    | [v0],_=>
     dsimp only [yF,qT]
     rw[aA rfl]
     refine⟨_,rfl,y,rfl,ap y (bq hy),fun H2 e2=>⟨e2 _ _ h2,rfl,?_,(e.trans e2).updNew hn _,j8,hn⟩⟩
     rw[fo,ey]
     rfl
  ·rintro D σ' H' zs hD ⟨_,rfl,e,h2,hn⟩
   have el:(((kP z).map numL).map oV).length=((kP z).map V.str).length:=by
    rw[af,af,af]
   rw[<- el,bX] at h2
   have E1:Ext H H':=x1.trans e
   have flat:(((kP z).map numL).map oV).all flatV=true:=by
    rw[aD]
    intro x hx
    obtain⟨r,_,rfl⟩:=aP.mp hx
    cases r <;> rfl
   have hin:inV .non (((kP z).map numL).map oV)=decide (qB z=none):=by
    unfold inV qB
    generalize (kP z).map numL=l
    rw[bP,dZ,bD]
    constructor
    ·rintro ⟨x,hx,e⟩
     obtain⟨r,hr',rfl⟩:=aP.mp hx
     cases r with
     | some i=>cases e
     | none=>
      cases hn:allI l with
      | none=>rfl
      | some l'=>
       rw[jAZ hn] at hr'
       obtain⟨_,_,q⟩:=aP.mp hr'
       cases q
    ·exact fun h=>⟨.non,aP.mpr ⟨none,jG5 h,rfl⟩,rfl⟩
   refine⟨_,rfl,D,_,rfl, .inl (SqL.of h2),rfl,flat,_,rfl,?_⟩
   show if inV .non (((kP z).map numL).map oV)=true then _ else _
   rw[hin]
   cases hn:qB z with
   | none=>exact iteT (no hn _ E1)
   | some l=>
    have el2:((kP z).map numL).map oV=l.map V.int:=by
     unfold qB at hn
     rw[jAZ hn,fb]
     rfl
    rw[el2] at h2
    exact iteF ⟨_,rfl,D,_,rfl, .inl ⟨SqL.of h2,fun t ht=>yes l hn t _ j8 (E1.new ht _)⟩⟩
end
end Eo
end
section
namespace Eo
open PySem L2 Tx
section
variable {P:Program}{w:World}{K:W.Frag}{mg:Str->Option Value}{base:Heap}
variable {f fN fM:Addr}{fdN fdM:FuncData}{cdv:Value}{A:Around}{outer:List Env}{s:Shared}{H0:Hp}{E:XK}
abbrev jBU:List Str:=["row","words","mays"]
theorem scLHead:FnScope jBU ["row"] (j9 yW):=⟨rfl,rfl,rfl,by decide+kernel,rfl,by decide+kernel,by decide+kernel⟩
abbrev jAW:List Str:=["row","words","weight"]
theorem scLPiece:FnScope jAW ["row"] (j9 yC):=⟨rfl,rfl,rfl,by decide+kernel,rfl,by decide+kernel,by decide+kernel⟩
section
variable (T:Txt mg)(CN:Can P w K mg base "_law_number" 1 fN fdN ["word"] jCA)(CM:Can P w K mg base "_law_numbers" 2 fM fdM ["word"] jC1)
def jKE (hr:Room 2 (XOf jBU "_law_head" yW P w K mg base f cdv A outer s H0 E).A): { t:TS // JSs (XOf jBU "_law_head" yW P w K mg base f cdv A outer s H0 E) ((jE yW).drop 2) t} :=
 have nd:=scLHead.nd
 have _h:=T; have _h2:=CN; have _h3:=CM
 ⟨_,(jA (jR (i:=2) nd rfl lL (y8 j7) jIR)
   (jA (jZ (jI yB (jH jP gD T.len (by decide+kernel) (j4 (jv 1 rfl vL) j7 j6) j6) (jC) (jK _)) (jF (jR (i:=2) nd rfl lL (CM.je hr gD (j4 (jW jX (jv 1 rfl vL) (jC) jJ) j7 jO) jO) kD)) jL)
   (jA (jZ (jt_w (yJ (jI jCF (CN.je (hr.mono (by decide)) gD (j4 (jW jX (jv 1 rfl vL) (jC) jJ) j7 jO) jO) (yA) (jK _)) (yL (jI jCF (jv 2 rfl vL) (yA) (jK _))))) (jF (jN (yA))) jL)
   (jF (jN (y8 (j4 (CN.je (hr.mono (by decide)) gD (j4 (jW jX (jv 1 rfl vL) (jC) jJ) j7 jO) jO) (j4 (jv 2 rfl vL) (j4 (y8 j7) j7 jBO) j6) jS)))))))⟩
def jRB (hr:Room 2 (XOf jBU "_law_head" yW P w K mg base f cdv A outer s H0 E).A): { t:TS // JSs (XOf jBU "_law_head" yW P w K mg base f cdv A outer s H0 E) (jE yW) t} :=
 have nd:=scLHead.nd
 have _h:=T; have _h2:=CN; have _h3:=CM
 ⟨_,(jA (jR (i:=1) nd rfl lL (qY aU bz bA jA6 (jv 0 rfl vL) (j4 (jM) j7 jB) jB) kD) (jA (jZ (jt_w (yJ (jI xF (jW jX (jv 1 rfl vL) (jC) jJ) (jM) (jK _)) (yJ (jI jFA (jH jP gD T.len (by decide+kernel) (j4 (jv 1 rfl vL) j7 j6) j6) (y8 (j4 (jC) (j4 (jC) j7 jB) jB)) (by rfl)) (yL (jI (jI4 hr.units101) (kG yX (jv 1 rfl vL) (kT (jC)) (kT (jC))) (y8 (j4 (yU j7) (j4 (yU (j4 (jM) j7 jB)) j7 jJ0) jJ0)) (by rfl)))))) (jF (jN (yA))) jL) (jKE T CN CM hr).2))⟩
def jK9 (hr:Room 2 (XOf jAW "_law_piece" yC P w K mg base f cdv A outer s H0 E).A): { t:TS // JSs (XOf jAW "_law_piece" yC P w K mg base f cdv A outer s H0 E) ((jE yC).drop 4) t} :=
 have nd:=scLPiece.nd
 have _h:=T; have _h2:=CN; have _h3:=CM
 ⟨_,(jA (jZ (jI jCF (jv 2 rfl vL) (yA) (jK _)) (jF (jN (yA))) jL)
   (jF (jN (y8 (j4 (CM.je hr gD (j4 (jW jX (jv 1 rfl vL) (jC) jJ) j7 jO) jO) (j4 (jv 2 rfl vL) j7 j6) jS)))))⟩
def jKA (hr:Room 2 (XOf jAW "_law_piece" yC P w K mg base f cdv A outer s H0 E).A): { t:TS // JSs (XOf jAW "_law_piece" yC P w K mg base f cdv A outer s H0 E) ((jE yC).drop 2) t} :=
 have nd:=scLPiece.nd
 have _h:=T; have _h2:=CN; have _h3:=CM
 ⟨_,(jA (jR (i:=2) nd rfl lL (CN.je (hr.mono (by decide)) gD (j4 (jW jX (jv 1 rfl vL) (jC) jJ) j7 jO) jO) kD) (jA (jZ (jt_w (jCG (jI yB (kG jBM (jW jX (jv 1 rfl vL) (jC) jJ) y0 (kT (jC))) (jM) (jK _)) (jD6 (jI xF (jW jX (jv 1 rfl vL) (jC) jJ) (jM) (jK _))))) (jA (jR (i:=2) nd rfl lL (CN.je (hr.mono (by decide)) gD (j4 (kG jBM (jW jX (jv 1 rfl vL) (jC) jJ) (kT (jC)) y0) j7 jO) jO) kD)
   (jF (jZ (jI jOW (jv 2 rfl vL) (yA) (jK _)) (jF (jR (i:=2) nd rfl lL (kQ jD0 (jC) (jv 2 rfl vL)) qU)) jL))) jL) (jK9 T CN CM hr).2))⟩
def jPF (hr:Room 2 (XOf jAW "_law_piece" yC P w K mg base f cdv A outer s H0 E).A): { t:TS // JSs (XOf jAW "_law_piece" yC P w K mg base f cdv A outer s H0 E) (jE yC) t} :=
 have nd:=scLPiece.nd
 have _h:=T; have _h2:=CN; have _h3:=CM
 ⟨_,(jA (jR (i:=1) nd rfl lL (qY aU bz bA jA6 (jv 0 rfl vL) (j4 (jM) j7 jB) jB) kD) (jA (jZ (jt_w (yJ (jI xF (jH jP gD T.len (by decide+kernel) (j4 (jv 1 rfl vL) j7 j6) j6) (jC) (jK _)) (yL (jI jCF (CM.je hr gD (j4 (jW jX (jv 1 rfl vL) (jC) jJ) j7 jO) jO) (yA) (jK _))))) (jF (jN (yA))) jL) (jKA T CN CM hr).2))⟩
def lhd (row:PySem.Str):Option (Int×List Int):=match wrds row with
 | [a,n]=>if a=yK then (match numL n with
  | some i=>some (i,[])
  | none=>none) else none
 | [a,n,m,l]=>if a=yK then (if m=sMay then (match numL n,qB l with
  | some i,some ms=>some (i,ms)
  | _,_=>none) else none) else none
 | _=>none
abbrev hdT (i:Int)(ms:List Int):Ob:= .tup [.int i, .tup (ms.map Ob.int), .tup []]
theorem yes' {A B:Prop}{c:Prop} [Decidable c](hc:c)(h:A):if decide c=true then A else B:=by
 rw[ah hc,aA rfl]
 exact h
theorem isNon {r:Option Int} :decide (oV r=V.non)=decide (r=none):=by
 cases r with
 | none=>rfl
 | some i=>exact(aq (by intro z; cases z)).trans (aq (by intro z; cases z)).symm
theorem jGK {D:Ends}{H:Hp}{p:Addr}{n:PySem.Str}{v0 v2:Option V}(hr:Room 2 (XOf jBU "_law_head" yW P w K mg base f cdv A outer s H0 E).A){a:PySem.Str}(hp:H p=some (.lst [.str a, .str n]))(rn:RowT n)(no:numL n=none->∀ H',Ext H H'->D.rt .non H')(yes:∀ i,numL n=some i->∀ v H',At H' (hdT i []) v->Ext H H'->D.rt v H'):
  (jKE T CN CM hr).1 D [v0,some (.ref p),v2] H:=by
 have z0:([]:List V).length<=sizeLine:=aJ _
 refine⟨z0,fun t0 H1 d0 e0=>?_⟩
 refine⟨_,rfl,p,_,rfl, .inl (SqL.of (e0 _ _ hp)),rfl,_,rfl,nay (fun e=>absurd (V.int.inj e) (by show ¬ (((2:Nat):Int)=4); decide)) ?_⟩
 refine⟨_,rfl,p,_,1,_,rfl,rfl,SqL.of (e0 _ _ hp),jT (j:=1) rfl,n,rfl,rn.1,fun H2 e2=>?_⟩
 have E2:=e0.trans e2
 refine⟨rfl,_,rfl,?_⟩
 rw[isNon]
 cases hn:numL n with
 | none=>exact iteT (iteT (no hn _ E2))
 | some i=>
  refine iteF ⟨_,rfl,rfl,_,rfl,iteF ?_⟩
  refine⟨_,rfl,p,_,1,_,rfl,rfl,SqL.of (E2 _ _ hp),jT (j:=1) rfl,n,rfl,rn.1,fun H3 e3=>⟨_,rfl,z0,fun t2 H4 u2 x4=>⟨(by show 3<=sizeLine; decide),fun t3 H5 u3 x5=>?_⟩⟩⟩
  rw[hn] at u3
  exact yes i hn (.ref t3) H5 (yE u3 (by show 3<=100; decide) (ats1 (jDJ _ _) (ats1 (yE (x5 _ _ (x4 _ _ (e3 _ _ (e2 _ _ d0)))) (by decide) (ats0 _)) (ats1 (yE (x5 _ _ u2) (by decide) (ats0 _)) (ats0 _))))) (((E2.trans e3).trans x4).trans x5)
theorem jGJ {D:Ends}{H:Hp}{p:Addr}{a n m l:PySem.Str}{v0 v2:Option V}(hr:Room 2 (XOf jBU "_law_head" yW P w K mg base f cdv A outer s H0 E).A)(hp:H p=some (.lst [.str a, .str n, .str m, .str l]))(rn:RowT n)(rl:RowT l)(no:(numL n=none\/qB l=none)->∀ H',Ext H H'->D.rt .non H')(yes:∀ i ms,numL n=some i->qB l=some ms->∀ v H',At H' (hdT i ms) v->Ext H H'->D.rt v H'):
  (jKE T CN CM hr).1 D [v0,some (.ref p),v2] H:=by
 have z0:([]:List V).length<=sizeLine:=aJ _
 refine⟨z0,fun t0 H1 d0 e0=>?_⟩
 refine⟨_,rfl,p,_,rfl, .inl (SqL.of (e0 _ _ hp)),rfl,_,rfl,yes' rfl ?_⟩
 refine⟨_,rfl,p,_,3,_,rfl,rfl,SqL.of (e0 _ _ hp),jT (j:=3) rfl,l,rfl,rl.1,fun hl H2 e2=>?_,fun ms hl t1 H2 d1 e2=>?_⟩
 ·have E2:=e0.trans e2
  refine⟨_,rfl,p,_,1,_,rfl,rfl,SqL.of (E2 _ _ hp),jT (j:=1) rfl,n,rfl,rn.1,fun H3 e3=>⟨rfl,_,rfl,?_⟩⟩
  rw[isNon]
  cases hn:numL n with
  | none=>exact iteT (iteT (no (.inl hn) _ (E2.trans e3)))
  | some i=>exact iteF ⟨_,rfl,rfl,_,rfl,iteT (no (.inr hl) _ (E2.trans e3))⟩
 ·have E2:=e0.trans e2
  refine⟨_,rfl,p,_,1,_,rfl,rfl,SqL.of (E2 _ _ hp),jT (j:=1) rfl,n,rfl,rn.1,fun H3 e3=>⟨rfl,_,rfl,?_⟩⟩
  rw[isNon]
  cases hn:numL n with
  | none=>exact iteT (iteT (no (.inl hn) _ (E2.trans e3)))
  | some i=>
   refine iteF ⟨_,rfl,rfl,_,rfl,iteF ?_⟩
   have E3:=E2.trans e3
   refine⟨_,rfl,p,_,1,_,rfl,rfl,SqL.of (E3 _ _ hp),jT (j:=1) rfl,n,rfl,rn.1,fun H4 e4=>⟨_,rfl,z0,fun t2 H5 u2 x5=>⟨(by show 3<=sizeLine; decide),fun t3 H6 u3 x6=>?_⟩⟩⟩
   rw[hn] at u3
   have few:ms.length<=96:=by
    have h1:=rl.few
    unfold oVs at h1
    unfold qB at hl
    have h2:=bn List.length (jAZ hl)
    rw[af] at h1
    rw[af,af] at h2
    omega
   exact yes i ms hn hl (.ref t3) H6 (yE u3 (by show 3<=100; decide) (ats1 (jDJ _ _) (ats1 (yE (x6 _ _ (x5 _ _ (e4 _ _ (e3 _ _ d1)))) (by rw[af]; omega) (jBZ _)) (ats1 (yE (x6 _ _ u2) (by decide) (ats0 _)) (ats0 _))))) (((E3.trans e4).trans x5).trans x6)
def jC9 {α:Type}(F:PySem.Str->Option α)(G:α->Ob):Sp:=fun vs H Q _=>∃ z,vs=[.str z]/\RowT z/\(F z=none->∀ H',Ext H H'->Q .non H')/\∀ x,F z=some x->∀ v H',At H' (G x) v->Ext H H'->Q v H'
end
theorem jMC {fd:FuncData}(F:Fun K "_law_head" "_law_head" yW f fd)(T:Txt mg)(CN:Can P w K mg base "_law_number" 1 fN fdN ["word"] jCA)(CM:Can P w K mg base "_law_numbers" 2 fM fdM ["word"] jC1):FnOk P w K mg base CX0 3 f fd ["row"] (jC9 lhd fun x=>hdT x.1 x.2):=by
 refine F.ok scLHead (fun vs H Q E h=>?_) (fun cdv A outer s H vs Q E hr h=>?_)
 ·obtain⟨_,rfl,_⟩:=h
  rfl
 ·obtain⟨z,rfl,rz,no,yes⟩:=h
  have zl:=rz.2
  refine⟨_,(jRB T CN CM hr).2.h,?_⟩
  refine⟨_,rfl,rfl,_,_,rfl,rfl,by rw[jCV]; rfl,by rw[ai]; omega,fun p hp=>?_⟩
  have rw_:∀ y∈wrds z,RowT y:=fun y hy=>rz.word hy
  have x1:Ext H (L2.upd H p (.lst ((wrds z).map V.str))):=(Ext.refl _).new hp _
  have hp1:(L2.upd H p (.lst ((wrds z).map V.str))) p=some (.lst ((wrds z).map V.str)):=j8
  generalize L2.upd H p (.lst ((wrds z).map V.str))=H1 at x1 hp1 ⊢
  have pos:0<(wrds z).length:=dL z _
  have eq:lhd z=match wrds z with
   | [a,n]=>if a=yK then (match numL n with
    | some i=>some (i,[])
    | none=>none) else none
   | [a,n,m,l]=>if a=yK then (if m=sMay then (match numL n,qB l with
    | some i,some ms=>some (i,ms)
    | _,_=>none) else none) else none
   | _=>none:=rfl
  rw[eq] at no yes
  clear eq
  generalize wrds z=ws at hp1 no yes rw_ pos
  cases ws with
  | nil=>cases pos
  | cons a ws=>
   refine⟨_,rfl,p,_,0,_,rfl,rfl,SqL.of hp1,jT (j:=0) rfl,rfl,_,rfl,?_⟩
   by_cases ha:a=yK
   ·refine iteNS (bn V.str ha) ?_
    refine⟨_,rfl,p,_,rfl, .inl (SqL.of hp1),(by show 2<=sizeLine; decide),fun t2 H2 d2 e2=>?_⟩
    refine⟨t2,_,rfl, .inr (SqT.of d2),rfl,rfl,_,rfl,?_⟩
    have hp2:=e2 _ _ hp1
    have stp:∀ (D:Bool->Hp->Prop) (us:List PySem.Str),cutV ((a::ws).map V.str) (some 2) (some 3)=us.map V.str->us.length<=1->(∀ H',Ext H1 H'->D (!(decide (us=[]) || decide (us=[sMay]))) H')->
      tTest (tOp (fun x y H Q=>∃ u ts,TAt H u x/\TAt H (Tr.tup ts) y/\deps ts<=100/\Q (V.bl !ts.any fun t=>eqT t u) H) (tSl (rSlL (XOf jBU "_law_head" yW P w K mg base f cdv A outer s H E).K) (tVar 1) (tPart (tC (V.int 2))) (tPart (tC (V.int 3)))) (tTupU (tCons (tLstU tNil) (tCons (tLstU (tCons (tC (V.str sMay)) tNil)) tNil)))) (List.set (L2.start jBU [V.str z]) 1 (some (V.ref p))) H2 D:=fun D us ec ul nx=>by
     refine⟨_,rfl,2,rfl,3,rfl,p,_,rfl,SqL.of hp2,fun q1 hq1=>?_⟩
     rw[ec]
     have x3:Ext H2 (L2.upd H2 q1 (.lst (us.map V.str))):=(Ext.refl _).new hq1 _
     have d3:(L2.upd H2 q1 (.lst (us.map V.str))) q1=some (.lst (us.map V.str)):=j8
     generalize L2.upd H2 q1 (.lst (us.map V.str))=H3 at x3 d3
     refine⟨aJ _,fun l1 H4 d4 e4 _=>⟨by show 1<=sizeLine; decide,fun l2 H5 d5 e5 _=>⟨by show 2<=sizeLine; decide,fun t6 H6 d6 e6=>?_⟩⟩⟩
     refine⟨.lst (us.map Tr.str),[.lst [], .lst [.str sMay]],⟨q1,_,rfl,e6 _ _ (e5 _ _ (e4 _ _ d3)),?_⟩,⟨t6,_,rfl,d6,_,_,rfl,⟨l1,_,rfl,e6 _ _ (e5 _ _ d4),rfl⟩,_,_,rfl,⟨l2,_,rfl,e6 _ _ d5,_,_,rfl,rfl,rfl⟩,rfl⟩,by decide,_,rfl,?_⟩
     ·match us,ul with
      | [],_=>rfl
      | [u],_=>exact⟨_,_,rfl,rfl,rfl⟩
     ·have ee:(!([Tr.lst [],Tr.lst [.str sMay]].any fun t=>eqT t (.lst (us.map Tr.str))))=!(decide (us=[]) || decide (us=[sMay])):=by
       match us,ul with
       | [],_=>rfl
       | [u],_=>
        by_cases hu:u=sMay
        ·subst hu
         decide
        ·have e1:eqT (.lst [.str sMay]) (.lst [.str u])=false:=by
          show ((sMay==u)&&true)=false
          rw[bO.mpr (fun e=>hu e.symm)]
          rfl
         rw[aq (show ¬ ([u]:List PySem.Str)=[] by intro q; cases q),aq (show ¬ ([u]=[sMay]) from fun q=>hu (bZ q).1)]
         show (!(eqT (.lst []) (.lst [.str u]) || (eqT (.lst [.str sMay]) (.lst [.str u]) || false)))=_
         rw[e1]
         rfl
      rw[ee]
      exact nx H6 (((x3.trans e4).trans e5).trans e6 |> e2.trans)
    have five:∀ n:Nat,n≠2->n≠4->inV (V.int (n:Int)) [V.int 2,V.int 4]=false:=fun n h2 h4=>by
     show (((2:Int)==(n:Int)) || (((4:Int)==(n:Int)) || false))=false
     rw[bO.mpr (by omega),bO.mpr (by omega)]
     rfl
    match ws,hp1,hp2,stp,no,yes,rw_ with
    | [n],hp1,hp2,stp,no,yes,rw_=>
     refine iteF (stp _ [] rfl (aJ _) fun H' e=>iteF ?_)
     have e':Ext H H':=x1.trans e
     refine jGK T CN CM hr (a:=a) (n:=n) (e _ _ hp1) (rw_ n (by simp)) (fun hn H3 e3=>no ?_ _ (e'.trans e3)) (fun i hn v H3 hv e3=>yes (i,[]) ?_ v H3 hv (e'.trans e3))
     ·dsimp only
      rw[aA ha,hn]
     ·dsimp only
      rw[aA ha,hn]
    | [n,m,l],hp1,hp2,stp,no,yes,rw_=>
     refine iteF (stp _ [m] rfl (ao _) fun H' e=>?_)
     have e':Ext H H':=x1.trans e
     by_cases hm:m=sMay
     ·rw[show (!(decide ([m]=([]:List PySem.Str)) || decide ([m]=[sMay])))=false by rw[hm]; rfl]
      refine iteF ?_
      refine jGJ T CN CM hr (a:=a) (n:=n) (m:=m) (l:=l) (e _ _ hp1) (rw_ n (by simp)) (rw_ l (by simp)) (fun hn H3 e3=>no ?_ _ (e'.trans e3)) (fun i ms hn hl v H3 hv e3=>yes (i,ms) ?_ v H3 hv (e'.trans e3))
      ·dsimp only
       rw[aA ha,aA hm]
       rcases hn with hn | hn
       ·rw[hn]
       ·cases numL n <;> rw[hn]
      ·dsimp only
       rw[aA ha,aA hm,hn,hl]
     ·rw[show (!(decide ([m]=([]:List PySem.Str)) || decide ([m]=[sMay])))=true by rw[aq (show ¬ ([m]:List PySem.Str)=[] by intro q; cases q),aq (show ¬ ([m]=[sMay]) from fun q=>hm (bZ q).1)]; rfl]
      refine iteT (no ?_ _ e')
      dsimp only
      rw[aA ha,aB hm]
    | [],hp1,hp2,stp,no,yes,rw_=>exact iteT (iteT (no rfl _ (x1.trans e2)))
    | [_,_],hp1,hp2,stp,no,yes,rw_=>exact iteT (iteT (no rfl _ (x1.trans e2)))
    | n::m::l::k::r,hp1,hp2,stp,no,yes,rw_=>
     have e5:=five ((a::n::m::l::k::r).map V.str).length (by rw[af]; show r.length+1+1+1+1+1≠2; omega) (by rw[af]; show r.length+1+1+1+1+1≠4; omega)
     show if (!inV (V.int (((a::n::m::l::k::r).map V.str).length:Int)) [V.int 2,V.int 4])=true then _ else _
     rw[e5]
     exact iteT (iteT (no rfl _ (x1.trans e2)))
   ·rw[aq (fun e=>ha (V.str.inj e))]
    refine iteT (iteT (no ?_ _ x1))
    match ws with
    | []=>rfl
    | [n]=>exact aB ha
    | [_,_]=>rfl
    | [n,m,l]=>exact aB ha
    | _::_::_::_::_=>rfl
end
end Eo
end
section
namespace Tx
open PySem PyProof.Rows PySem.NumText
theorem jIY {x:PySem.Str} :(Txt.slice x none (some 1)).cps.toList=x.cps.toList.take 1:=by
 by_cases h:1<=x.length
 ·rw[gk.mp (slice_closes_toL (x:=x) (j:=1) (by decide) (by omega))]
  rfl
 ·have h1:=Txt.slice_le x none (some 1)
  have e1:(Txt.slice x none (some 1)).cps.toList=[]:=bc.mp (by rw[qA]; omega)
  have e2:x.cps.toList=[]:=bc.mp (by rw[qA]; omega)
  rw[e1,e2]
  rfl
theorem jMZ:(("-0" :String):PySem.Str)=⟨#[45,48]⟩:=by decide+kernel
end Tx
namespace Eo
open PySem L2 Tx PySem.NumText
def lpc (row:PySem.Str):Option (List Int×Int):=match wrds row with
 | [a,b]=>(match qB a,numO b with
  | some l,some i=>some (l,i)
  | _,_=>none)
 | _=>none
section
variable {P:Program}{w:World}{K:W.Frag}{mg:Str->Option Value}{base:Heap}
variable {f fN fM:Addr}{fdN fdM:FuncData}{cdv:Value}{A:Around}{outer:List Env}{s:Shared}{H0:Hp}{E:XK}
section
variable (T:Txt mg)(CN:Can P w K mg base "_law_number" 1 fN fdN ["word"] jCA)(CM:Can P w K mg base "_law_numbers" 2 fM fdM ["word"] jC1)
theorem jFG {D:Ends}{H:Hp}{p:Addr}{a b:PySem.Str}{l:List Int}{v0 v2:Option V}(hr:Room 2 (XOf jAW "_law_piece" yC P w K mg base f cdv A outer s H0 E).A)(hp:H p=some (.lst [.str a, .str b]))(ra:RowT a)(rb:RowT b)(hl:qB a=some l)(no:numO b=none->∀ H',Ext H H'->D.rt .non H')(yes:∀ i,numO b=some i->∀ v H',At H' (obPc (l,i)) v->Ext H H'->D.rt v H'):
  (jKA T CN CM hr).1 D [v0,some (.ref p),v2] H:=by
 have bl:=rb.2
 have hlb:=qA b
 have fin:∀ {H':Hp}{v:V},v=oV (numO b)->Ext H H'->(jK9 T CN CM hr).1 D [v0,some (.ref p),some v] H':=fun {H' v} ev e=>by
  subst ev
  refine⟨_,rfl,rfl,_,rfl,?_⟩
  rw[isNon]
  cases hn:numO b with
  | none=>exact iteT (no hn _ e)
  | some i=>
   refine iteF ⟨_,rfl,p,_,0,_,rfl,rfl,SqL.of (e _ _ hp),jT (j:=0) rfl,a,rfl,ra.1,(fun h=>by rw[hl] at h; cases h),fun l' hl' t1 H2 d1 e2=>?_⟩
   rw[hl] at hl'
   cases hl'
   refine⟨_,rfl,by show 2<=sizeLine; decide,fun t3 H3 u3 x3=>?_⟩
   have few:l.length<=96:=by
    have h1:=ra.few
    unfold oVs at h1
    unfold qB at hl
    have h2:=bn List.length (jAZ hl)
    rw[af] at h1
    rw[af,af] at h2
    omega
   exact yes i hn (.ref t3) H3 (yE u3 (by show 2<=100; decide) (ats1 (yE (x3 _ _ d1) (by rw[af]; omega) (jBZ _)) (ats1 (jDJ _ _) (ats0 _)))) ((e.trans e2).trans x3)
 refine⟨_,rfl,p,_,1,_,rfl,rfl,SqL.of hp,jT (j:=1) rfl,b,rfl,rb.1,fun H1 e1=>?_⟩
 refine⟨_,rfl,p,_,1,_,rfl,rfl,SqL.of (e1 _ _ hp),jT (j:=1) rfl,1,rfl,_,rfl,by rw[ai]; omega,rfl,_,rfl,?_⟩
 have hs1:(Txt.slice b none (some 1)=(("-" :String):PySem.Str))↔b.cps.toList.head?=some 45:=by
  rw[jL3]
  constructor
  ·intro h
   have h:=bn (fun z:PySem.Str=>z.cps.toList) h
   have h:(Txt.slice b none (some 1)).cps.toList=[45]:=h
   rw[jIY] at h
   cases hb:b.cps.toList with
   | nil=>rw[hb] at h; cases h
   | cons x r=>rw[hb] at h; exact bn some (bZ h).1
  ·intro h
   refine jBA ?_
   rw[jIY]
   cases hb:b.cps.toList with
   | nil=>rw[hb] at h; cases h
   | cons x r=>
    rw[hb] at h
    rw[aF h]
    rfl
 by_cases hd:b.cps.toList.head?=some 45
 ·refine yes' (bn V.str (hs1.mpr hd)) ?_
  cases hb:b.cps.toList with
  | nil=>rw[hb] at hd; cases hd
  | cons x cs=>
   rw[hb] at hd
   obtain rfl:x=45:=aF hd
   have eo:numO b=if canD cs&&decide (cs≠ [48]) then some (-(digitsVal cs:Int)) else none:=by
    unfold numO
    rw[hb]
    rfl
   have eL:numL b=none:=by
    unfold numL
    rw[hb,aB]
    exact fun q=>jDH q
   have h0:b=(("-0" :String):PySem.Str)↔cs=[48]:=by
    rw[jMZ]
    exact⟨fun e=>by
     have:b.cps.toList=[45,48]:=by rw[e]
     rw[hb] at this
     exact(bZ this).2,fun e=>jBA (by rw[hb,e])⟩
   refine⟨_,rfl,p,_,1,_,rfl,rfl,SqL.of (e1 _ _ hp),jT (j:=1) rfl,rfl,_,rfl,?_⟩
   by_cases h00:cs=[48]
   ·refine iteNS (bn V.str (h0.mpr h00)) (fin ?_ e1)
    rw[eo,eL,h00]
    rfl
   ·rw[aq (fun e=>h00 (h0.mp (V.str.inj e)))]
    have h1:1<=b.length:=by rw[<- hlb,hb]; exact Nat.succ_le_succ (aJ _)
    have es:(Txt.slice b (some 1) none).cps.toList=cs:=by rw[jN9 h1,hb]; rfl
    have asl:Asc (Txt.slice b (some 1) none):=⟨by
     have q:=rb.1.1
     rw[<- dc,aD] at q ⊢
     intro x hx
     rw[es] at hx
     exact q x (by rw[hb]; exact ar _ hx),by
     have:=Txt.slice_le b (some 1) none
     omega⟩
    refine iteT ⟨_,rfl,p,_,1,_,rfl,rfl,SqL.of (e1 _ _ hp),jT (j:=1) rfl,1,rfl,_,rfl,by rw[ai]; omega,_,rfl,asl,fun H2 e2=>?_⟩
    have eS:numL (Txt.slice b (some 1) none)=if canD cs then some (digitsVal cs:Int) else none:=by
     unfold numL
     rw[es]
    rw[eS]
    refine⟨_,rfl,rfl,_,rfl,?_⟩
    rw[isNon]
    cases hc:canD cs with
    | false=>
     refine iteF (fin ?_ (e1.trans e2))
     rw[eo,hc]
     rfl
    | true=>
     refine iteT ⟨_,rfl,_,_,rfl,rfl,fin ?_ (e1.trans e2)⟩
     rw[eo,hc,ah h00]
     show V.int (0 - _)=V.int (- _)
     rw[Int.zero_sub]
 ·refine nay (fun e=>hd (hs1.mp (V.str.inj e))) (iteF (fin ?_ e1))
  have eo:numO b=if canD b.cps.toList then some (digitsVal b.cps.toList:Int) else none:=by
   unfold numO
   split
   ·rename_i cs e
    rw[e] at hd
    exact absurd rfl hd
   ·rfl
  rw[eo]
  rfl
end
theorem jJS {fd:FuncData}(F:Fun K "_law_piece" "_law_piece" yC f fd)(T:Txt mg)(CN:Can P w K mg base "_law_number" 1 fN fdN ["word"] jCA)(CM:Can P w K mg base "_law_numbers" 2 fM fdM ["word"] jC1):FnOk P w K mg base CX0 3 f fd ["row"] (jC9 lpc obPc):=by
 refine F.ok scLPiece (fun vs H Q E h=>?_) (fun cdv A outer s H vs Q E hr h=>?_)
 ·obtain⟨_,rfl,_⟩:=h
  rfl
 ·obtain⟨z,rfl,rz,no,yes⟩:=h
  have zl:=rz.2
  refine⟨_,(jPF T CN CM hr).2.h,?_⟩
  refine⟨_,rfl,rfl,_,_,rfl,rfl,by rw[jCV]; rfl,by rw[ai]; omega,fun p hp=>?_⟩
  have rw_:∀ y∈wrds z,RowT y:=fun y hy=>rz.word hy
  have x1:Ext H (L2.upd H p (.lst ((wrds z).map V.str))):=(Ext.refl _).new hp _
  have hp1:(L2.upd H p (.lst ((wrds z).map V.str))) p=some (.lst ((wrds z).map V.str)):=j8
  generalize L2.upd H p (.lst ((wrds z).map V.str))=H1 at x1 hp1 ⊢
  have eq:lpc z=match wrds z with
   | [a,b]=>(match qB a,numO b with
    | some l,some i=>some (l,i)
    | _,_=>none)
   | _=>none:=rfl
  rw[eq] at no yes
  clear eq
  generalize wrds z=ws at hp1 no yes rw_
  by_cases h2:ws.length=2
  ·match ws,h2,hp1,no,yes,rw_ with
   | [a,b],_,hp1,no,yes,rw_=>
    have hp2:H1 p=some (.lst [.str a, .str b]):=hp1
    dsimp only at no yes
    refine⟨_,rfl,p,_,rfl, .inl (SqL.of hp2),rfl,_,rfl,iteNS rfl ?_⟩
    refine⟨_,rfl,p,_,0,_,rfl,rfl,SqL.of hp2,jT (j:=0) rfl,a,rfl,(rw_ a (by simp)).1,fun hn H2 e2=>?_,fun l hl t H2 d2 e2=>?_⟩
    ·refine⟨rfl,_,rfl,iteT (no ?_ _ (x1.trans e2))⟩
     rw[hn]
    ·refine⟨rfl,_,rfl,iteF ?_⟩
     rw[hl] at no yes
     refine jFG T CN CM hr (a:=a) (b:=b) (e2 _ _ hp2) (rw_ a (by simp)) (rw_ b (by simp)) hl (fun hb H3 e3=>no ?_ _ ((x1.trans e2).trans e3)) (fun i hb v H3 hv e3=>yes (l,i) ?_ v H3 hv ((x1.trans e2).trans e3))
     ·rw[hb]
     ·rw[hb]
  ·refine⟨_,rfl,p,_,rfl, .inl (SqL.of hp1),rfl,_,rfl,?_⟩
   rw[aq (show ¬ (V.int (((ws.map V.str).length:Nat):Int)=V.int 2) from fun e=>h2 (by have:=V.int.inj e; rw[af] at this; omega))]
   refine iteT (iteT (no ?_ _ x1))
   match ws,h2 with
   | [],_=>rfl
   | [_],_=>rfl
   | [_,_],h=>exact absurd rfl h
   | _::_::_::_,_=>rfl
end
theorem obO_L {z:PySem.Str}{t:Int}(h:obO (numO z)= .int t)(h0:0<=t):numL z=some t:=by
 cases hn:numO z with
 | none=>rw[hn] at h; cases h
 | some i=>
  rw[hn] at h
  cases h
  rcases jR5 hn with ⟨_,q⟩ | ⟨q,_⟩
  ·exact q
  ·omega
theorem obs_L:∀ {l:List PySem.Str}{ts:List Int},l.map (fun p=>obO (numO p))=ts.map Ob.int->(∀ t∈ts,0<=t)->allI (l.map numL)=some ts
 | [],[],_,_=>rfl
 | [],_::_,h,_=>by cases h
 | _::_,[],h,_=>by cases h
 | p::l,t::ts,h,h0=>by
  obtain⟨h1,h2⟩:=bZ h
  have e1:=obO_L h1 (h0 t (am ..))
  have e2:=obs_L (l:=l) (ts:=ts) h2 fun t ht=>h0 t (ar _ ht)
  rw[bi,e1]
  unfold allI
  rw[e2]
theorem L_obs:∀ {l:List PySem.Str}{ts:List Int},allI (l.map numL)=some ts->l.map (fun p=>obO (numO p))=ts.map Ob.int
 | [],_,h=>by cases h; rfl
 | p::l,ts,h=>by
  rw[bi] at h
  cases hp:numL p with
  | none=>rw[hp] at h; cases h
  | some i=>
   rw[hp] at h
   unfold allI at h
   split at h
   ·rename_i l' e
    cases h
    rw[bi,(jJW hp).1,L_obs e]
    rfl
   ·cases h
theorem jFH (w:Int)(z:PySem.Str):lotB w (.tup (obs z))=match qB z with
  | some ms=>lotB w (.tup (ms.map Ob.int))
  | none=>false:=by
 cases hn:qB z with
 | some ms=>
  have e:obs z=ms.map Ob.int:=L_obs hn
  rw[e]
 | none=>
  cases hl:lotB w (.tup (obs z)) with
  | false=>rfl
  | true=>
   obtain⟨ts,e,rt⟩:=jEC hl
   have e:obs z=ts.map Ob.int:=Ob.tup.inj e
   have:=obs_L (l:=kP z) e fun t ht=>(rt.bnd t ht).1
   unfold qB at hn
   rw[this] at hn
   cases hn
theorem jEN (a:Ob)(b:List Ob):bxB (.tup [a, .tup b, .tup []])=(upB 0 16 a&&lotB (val a) (.tup b)):=by
 show (upB 0 16 a&&lotB (val a) (.tup b)&&decide (([]:List Ob).length<=32)&&([]:List Ob).all (jV (val a)))=_
 rw[show decide (([]:List Ob).length<=32)=true from rfl,show ([]:List Ob).all (jV (val a))=true from rfl,eg,eg]
def vhdO (o:Ob):Option (Int×List Int):=if bxB o=true then some (hdOf o) else none
def vpcO (w:Int)(o:Ob):Option (List Int×Int):=if jV w o=true then some (pcOf o) else none
theorem jMV (row:PySem.Str):vhd row=match lhd row with
  | some x=>if bxB (hdT x.1 x.2)=true then some x else none
  | none=>none:=by
 have up:∀ {n:PySem.Str},upB 0 16 (obO (numO n))=true->∃ i,obO (numO n)= .int i/\numL n=some i:=fun {n} h=>by
  obtain⟨i,e,i0,i1⟩:=jEV h
  exact⟨i,e,obO_L e i0⟩
 have key:∀ (n:PySem.Str) (b:List Ob) (ms:Option (List Int)),(∀ w,lotB w (.tup b)=match ms with
   | some l=>lotB w (.tup (l.map Ob.int))
   | none=>false)->(∀ l,ms=some l->b=l.map Ob.int)->vhdO (.tup [obO (numO n), .tup b, .tup []])=match (match numL n,ms with
    | some i,some l=>some (i,l)
    | _,_=>none) with
   | some x=>if bxB (hdT x.1 x.2)=true then some x else none
   | none=>none:=fun n b ms hl hb=>by
  unfold vhdO
  rw[jEN,hl]
  cases hn:numL n with
  | none=>
   rw[aB]
   intro q
   obtain⟨i,_,e⟩:=up (aM.mp q).1
   rw[hn] at e
   cases e
  | some i=>
   have eo:=(jJW hn).1
   rw[eo]
   cases ms with
   | none=>
    rw[aB]
    intro q
    cases (aM.mp q).2
   | some l=>
    dsimp only
    rw[hb l rfl]
    have e2:bxB (hdT i l)=(upB 0 16 (obO (some i))&&lotB (val (obO (some i))) (.tup (l.map Ob.int))):=jEN _ _
    rw[e2]
    have e3:hdOf (.tup [obO (some i), .tup (l.map Ob.int), .tup []])=(i,l):=by
     show (i,(l.map Ob.int).map val)=_
     rw[jAQ]
    rw[e3]
 show vhdO (hdO row)=_
 unfold hdO lhd
 generalize wrds row=ws
 match ws with
 | [a,n]=>
  dsimp only
  by_cases ha:a=yK
  ·rw[aA ha,aA ha]
   have:=key n [] (some []) (fun w=>rfl) (fun l hl=>by cases hl; rfl)
   rw[this]
   cases numL n <;> rfl
  ·rw[aB ha,aB ha]
   rfl
 | [a,n,m,l]=>
  dsimp only
  by_cases ha:a=yK
  ·rw[aA ha,aA ha]
   by_cases hm:m=sMay
   ·rw[aA hm,aA hm]
    exact key n (obs l) (qB l) (fun w=>jFH w l) (fun ms hl=>L_obs hl)
   ·rw[aB hm,aB hm]
    rfl
  ·rw[aB ha,aB ha]
   rfl
 | []=>rfl
 | [_]=>rfl
 | [_,_,_]=>rfl
 | _::_::_::_::_::_=>rfl
theorem jH4 (w:Int)(row:PySem.Str):vpc w row=match lpc row with
  | some pc=>if jV w (obPc pc)=true then some pc else none
  | none=>none:=by
 show vpcO w (pcO row)=_
 unfold pcO lpc
 generalize wrds row=ws
 match ws with
 | [a,b]=>
  dsimp only
  unfold vpcO
  have e1:jV w (.tup [.tup (obs a),obO (numO b)])=(lotB w (.tup (obs a))&&!qN (.tup (obs a))&&upB (-1000000000000) 1000000000000 (obO (numO b))):=rfl
  rw[e1,jFH]
  cases hn:qB a with
  | none=>
   dsimp only
   rw[aB (by intro q; cases q)]
  | some l=>
   have eo:obs a=l.map Ob.int:=L_obs hn
   cases hb:numO b with
   | none=>
    dsimp only
    rw[aB (by intro q; cases (aM.mp q).2)]
   | some i=>
    dsimp only
    rw[eo]
    have e3:pcOf (.tup [.tup (l.map Ob.int),obO (some i)])=(l,i):=by
     show ((l.map Ob.int).map val,i)=_
     rw[jAQ]
    rw[e3]
    rfl
 | []=>rfl
 | [_]=>rfl
 | _::_::_::_=>rfl
end Eo
end
section
namespace Eo
open PySem L2 Tx
theorem jPY {ts:List Int}(h:ts.Pairwise (· < ·)):(adj ts).all id=true:=by
 rw[aD]
 intro x hx
 obtain⟨k,hk,rfl⟩:=aP.mp hx
 have hk:=bR.mp hk
 have h1:k<ts.length:=by omega
 have h2:k+1<ts.length:=by omega
 have:=de.mp h k (k+1) h1 h2 (by omega)
 refine ah ?_
 rw[aK,aK]
 simpa [h1,h2] using this
theorem jKB {w:Int}{ts:List Int}(h1:ts.Pairwise (· < ·))(h2:∀ z∈ts,0<=z/\z<w):lotB w (.tup (ts.map Ob.int))=true:=by
 show ((ts.map Ob.int).all (upB 0 (w - 1))&&(adj ((ts.map Ob.int).map val)).all id)=true
 rw[jAQ,jPY h1,eg,aD]
 intro x hx
 obtain⟨i,hi,rfl⟩:=aP.mp hx
 have:=h2 i hi
 show (decide _&&decide _)=true
 rw[ah this.1,ah (by omega)]
 rfl
theorem lot16 {w:Int}{ts:List Int}(h:ts.Pairwise (· < ·))(hb:∀ z∈ts,0<=z/\z<w)(h1:w<=16):ts.length<=16:=by
 have:=jJ4 ts 0 w h hb
 omega
theorem jHT {H:Hp}{o:Ob}{v:V}(hv:At H o v):∀ {os:List Ob}{vs:List V},Ats H os vs->Ats H (os++[o]) (vs++[v])
 | [],_,h=>by
  cases (show _=[] from h)
  exact ats1 hv (ats0 H)
 | _::_,_,⟨u,r,e,h1,h2⟩=>by
  rw[e]
  exact ats1 h1 (jHT hv h2)
theorem jJG (p:List Int×Int):pcOf (obPc p)=p:=by
 show ((p.1.map Ob.int).map val,p.2)=p
 rw[jAQ]
theorem jPU {w:Int}{ms:List Int}{acc:List (List Int×Int)}{pc:List Int×Int}(w0:0<=w)(w1:w<=16)(rm:Ris w ms)(gp:∀ p∈acc,jV w (obPc p)=true):bxB (.tup [.int w, .tup (ms.map Ob.int), .tup ((acc++[pc]).map obPc)])=(decide (acc.length+1<=32)&&jV w (obPc pc)):=by
 show (upB 0 16 (.int w)&&lotB w (.tup (ms.map Ob.int))&&decide (((acc++[pc]).map obPc).length<=32)&&((acc++[pc]).map obPc).all (jV w))=_
 have e1:upB 0 16 (.int w)=true:=by
  show (decide (0<=w)&&decide (w<=16))=true
  rw[ah w0,ah w1]
  rfl
 have e2:=jKB rm.ris rm.bnd
 have e3:((acc++[pc]).map obPc).all (jV w)=jV w (obPc pc):=by
  rw[aS,List.all_append]
  have:(acc.map obPc).all (jV w)=true:=by
   rw[aD]
   intro x hx
   obtain⟨q,hq,rfl⟩:=aP.mp hx
   exact gp q hq
  rw[this,bC]
  show (jV w (obPc pc)&&true)=_
  rw[eg]
 rw[e1,e2,e3,af,aI]
 rfl
section
variable {P:Program}{w:World}{K:W.Frag}{mg:Str->Option Value}{base:Heap}
variable {f fH fP fB:Addr}{fdH fdP fdB:FuncData}{cdv:Value}{A:Around}{outer:List Env}{s:Shared}{H0:Hp}{E:XK}
noncomputable abbrev nDueT:List Str:=["text","rows","box","number","piece"]
theorem scDueT:FnScope nDueT ["text"] (j9 sDueT):=⟨rfl,rfl,rfl,by decide+kernel,rfl,by decide+kernel,by decide+kernel⟩
abbrev XDueT (P:Program)(w:World)(K:W.Frag)(mg:Str->Option Value)(base:Heap)(f:Addr)(cdv:Value)(A:Around)(outer:List Env)(s:Shared)(H:Hp)(E:XK):Cx:=XOf nDueT "_law_due_text" sDueT P w K mg base f cdv A outer s H E
section
variable (T:Txt mg)(CH:Can P w K mg base "_law_head" 3 fH fdH ["row"] (jC9 lhd fun x=>hdT x.1 x.2))(CP:Can P w K mg base "_law_piece" 3 fP fdP ["row"] (jC9 lpc obPc))(CB:Can P w K mg base "_law_box_right" 4 fB fdB ["thing"] (spB bxB))(hr:Room 4 (XDueT P w K mg base f cdv A outer s H0 E).A)
def dtlA: { t:TS // JSs (XDueT P w K mg base f cdv A outer s H0 E) (jFI ((jE sDueT).getD 3 (.Pass ⟨0,0,0,0⟩))) t} :=
 have nd:=scDueT.nd
 have _h:=T
 ⟨_,(jA (jR (i:=4) nd rfl lL (CP.je (hr.mono (by decide)) gD (j4 (jW jX (jv 1 rfl vL) (jv 3 rfl vL) jE2) j7 jO) jO) kD)
   (jA (jZ (jt_w (yJ (jI jCF (jv 4 rfl vL) (yA) (jK _)) (yL (kX (kI (CB.je hr gD (j4 (y8 (j4 (jW kY (jv 2 rfl vL) (jC) jJ) (j4 (jW kY (jv 2 rfl vL) (jC) jJ) (j4 (kQ jJL (jW kY (jv 2 rfl vL) (jC) jJ) (y8 (j4 (jv 4 rfl vL) j7 j6))) j7 qI) jO) jO)) j7 jBO) jBO) jY))))) (jF (jN (jv 3 rfl vL))) jL)
   (jF (jR (i:=2) nd rfl lL (y8 (j4 (jW kY (jv 2 rfl vL) (jC) jJ) (j4 (jW kY (jv 2 rfl vL) (jC) jJ) (j4 (kQ jJL (jW kY (jv 2 rfl vL) (jC) jJ) (y8 (j4 (jv 4 rfl vL) j7 j6))) j7 qI) jO) jO)) jIR))))⟩
def dtA: { t:TS // JSs (XDueT P w K mg base f cdv A outer s H0 E) (jE sDueT) t} :=
 have nd:=scDueT.nd
 ⟨_,(jA (jR (i:=1) nd rfl lL (qY aU bz bA jA6 (jv 0 rfl vL) (j4 (jM) j7 jB) jB) kD) (jA (jR (i:=2) nd rfl lL (CH.je (hr.mono (by decide)) gD (j4 (jW jX (jv 1 rfl vL) (jC) jJ) j7 jO) jO) kD) (jA (jZ (jt_w (yJ (jI jCF (jv 2 rfl vL) (yA) (jK _)) (yL (kX (kI (CB.je hr gD (j4 (jv 2 rfl vL) j7 j6) j6) jY))))) (jF (jN (jC))) jL) (jA (jDU cL rfl (jD9 gD T.range (j4 (jC) (j4 (jH jP gD T.len (by decide+kernel) (j4 (jv 1 rfl vL) j7 j6) j6) j7 jS) jB) jB jS) (kU (i:=3) nd rfl lL) (dtlA T CP CB hr).2 jAI) (jF (jN (jv 2 rfl vL)))))))⟩
theorem jMY {D:Ends}{H:Hp}{p b:Addr}{rs:List PySem.Str}{wi:Int}{ms:List Int}{acc:List (List Int×Int)}{r:PySem.Str}{i:Nat}{v0 v4:Option V}(hp:H p=some (.lst (rs.map V.str)))(hi:rs[i+1]?=some r)(hr':RowT r)(hb:BoxAt H b wi ms acc)(w0:0<=wi)(w1:wi<=16)(rm:Ris wi ms)(gp:∀ p∈acc,jV wi (obPc p)=true)(ac:acc.length<=32)
  (no:(acc.length=32\/vpc wi r=none)->∀ H',Ext H H'->D.rt (.int ((i+1:Nat):Int)) H')
  (yes:∀ pc b' v4 H',acc.length≠32->vpc wi r=some pc->BoxAt H' b' wi ms (acc++[pc])->Ext H H'->D.nx [v0,some (.ref p),some (.ref b'),some (.int (1+(i:Int))),v4] H'):
  (dtlA T CP CB hr).1 D [v0,some (.ref p),some (.ref b),some (.int (1+(i:Int))),v4] H:=by
 have e1:(1+(i:Int))=((i+1:Nat):Int):=by omega
 have hat:atI (rs.map V.str) (1+(i:Int))=some (.str r):=by
  rw[e1]
  refine jT ?_
  rw[aY,hi]
  rfl
 have ev:=jH4 wi r
 obtain⟨qm,qp,vs,b1,b2,b3,b4⟩:=hb.ex
 refine⟨_,rfl,_,rfl,p,_,_,_,rfl,rfl,SqL.of hp,hat,r,rfl,hr',fun hn H5 e5=>?_,fun pc hpc v H5 hv e5=>?_⟩
 ·rw[hn] at ev
  refine⟨_,rfl,rfl,_,rfl,iteT (iteT ⟨_,rfl,?_⟩)⟩
  rw[e1]
  exact no (.inr ev) _ e5
 ·rw[hpc] at ev
  dsimp only at ev
  have vn:decide (v=V.non)=false:=aq (by
   obtain⟨a,ws,rfl,_⟩:=hv
   intro z
   cases z)
  refine⟨_,rfl,rfl,_,rfl,?_⟩
  rw[vn]
  refine iteF ?_
  have c1:=e5 _ _ b1
  have c3:=e5 _ _ b3
  refine⟨_,rfl,b,_,0,_,rfl,rfl,SqT.of c1,jT (j:=0) rfl,_,rfl,b,_,1,_,rfl,rfl,SqT.of c1,jT (j:=1) rfl,_,rfl,b,_,2,_,rfl,rfl,SqT.of c1,jT (j:=2) rfl,_,rfl,by show 1<=sizeLine; decide,fun t1 H6 d6 e6=>?_⟩
  refine⟨_,_,_,_,rfl,rfl,c3 |> e6 _ _,d6,?_,fun t2 H7 d7 e7=>⟨by show 3<=sizeLine; decide,fun t3 H8 d8 e8=>?_⟩⟩
  ·have:=b4.len
   show vs.length+1<=sizeLine
   rw[ai]
   omega
  have ml:=lot16 rm.ris rm.bnd w1
  have al:∀ p∈acc,p.1.length<=100:=fun p hp=>by
   have g:=(jJE (gp p hp)).2
   rw[jJG] at g
   have:=lot16 g.lot.ris g.lot.bnd w1
   omega
  have vl:=b4.len
  have E8:Ext H H8:=(((e5.trans e6).trans e7).trans e8)
  have A8:At H8 (.tup [.int wi, .tup (ms.map Ob.int), .tup ((acc++[pc]).map obPc)]) (.ref t3):=by
   refine yE d8 (by show 3<=100; decide) (ats1 (jDJ _ _) (ats1 (yE (E8 _ _ b2) (by rw[af]; omega) (jBZ _)) (ats1 (yE (e8 _ _ d7) (by rw[aI]; show _+1<=100; omega) ?_) (ats0 _))))
   rw[aS]
   exact jHT (((hv.ext e6).ext e7).ext e8) (jJD (b4.mono fun c ws h=>E8 _ _ h) al)
  refine⟨_,_,rfl,A8,fun H9 e9=>⟨_,rfl,?_⟩⟩
  rw[jPU w0 w1 rm gp]
  have E9:=E8.trans e9
  by_cases h32:acc.length=32
  ·rw[aq (show ¬ (acc.length+1<=32) by omega),ba]
   refine iteT ⟨_,rfl,?_⟩
   rw[e1]
   exact no (.inl h32) _ E9
  rw[ah (show acc.length+1<=32 by omega),bC]
  cases hpb:jV wi (obPc pc) with
  | false=>
   rw[aB (by rw[hpb]; decide)] at ev
   refine iteT ⟨_,rfl,?_⟩
   rw[e1]
   exact no (.inr ev) _ E9
  | true=>
   rw[aA hpb] at ev
   have f1:=E9 _ _ b1
   refine iteF ⟨_,rfl,b,_,0,_,rfl,rfl,SqT.of f1,jT (j:=0) rfl,_,rfl,b,_,1,_,rfl,rfl,SqT.of f1,jT (j:=1) rfl,_,rfl,b,_,2,_,rfl,rfl,SqT.of f1,jT (j:=2) rfl,_,rfl,by show 1<=sizeLine; decide,fun t4 HA dA eA=>?_⟩
   refine⟨_,_,_,_,rfl,rfl,eA _ _ (E9 _ _ b3),dA,?_,fun t5 HB dB eB=>⟨by show 3<=sizeLine; decide,fun t6 HC dC eC=>?_⟩⟩
   ·show vs.length+1<=sizeLine
    rw[ai]
    omega
   have EC:Ext H HC:=((E9.trans eA).trans eB).trans eC
   have E5C:Ext H5 HC:=(((((e6.trans e7).trans e8).trans e9).trans eA).trans eB).trans eC
   exact yes pc t6 _ HC h32 ev ⟨qm,t5,vs++[v],dC,EC _ _ b2,eC _ _ dB,PcsAt.snoc (jJF (hv.ext E5C)) (b4.mono fun c ws h=>EC _ _ h)⟩ EC
def jIU:Sp:=fun vs H Q _=>∃ z,vs=[.str z]/\TxtOk z/\(∀ k,rd z= .inl k->∀ H',Ext H H'->Q (.int (k:Int)) H')/\∀ x,rd z= .inr x->∀ b H',BoxAt H' b x.1 x.2.1 x.2.2->Ext H H'->Q (.ref b) H'
end
theorem jP6 {fd:FuncData}(F:Fun K "_law_due_text" "_law_due_text" sDueT f fd)(T:Txt mg)(CH:Can P w K mg base "_law_head" 3 fH fdH ["row"] (jC9 lhd fun x=>hdT x.1 x.2))(CP:Can P w K mg base "_law_piece" 3 fP fdP ["row"] (jC9 lpc obPc))(CB:Can P w K mg base "_law_box_right" 4 fB fdB ["thing"] (spB bxB)):FnOk P w K mg base CX0 5 f fd ["text"] jIU:=by
 refine F.ok scDueT (fun vs H Q E h=>?_) (fun cdv A outer s H vs Q E hr h=>?_)
 ·obtain⟨_,rfl,_⟩:=h
  rfl
 ·obtain⟨z,rfl,tz,no,yes⟩:=h
  refine⟨_,(dtA T CH CP CB hr).2.h,?_⟩
  have al:=tz.a.2
  refine⟨_,rfl,rfl,_,_,rfl,rfl,by rw[jAS]; rfl,by rw[ai]; omega,fun p hp=>?_⟩
  have x1:Ext H (L2.upd H p (.lst ((rws z).map V.str))):=(Ext.refl _).new hp _
  have hp1:(L2.upd H p (.lst ((rws z).map V.str))) p=some (.lst ((rws z).map V.str)):=j8
  generalize L2.upd H p (.lst ((rws z).map V.str))=H1 at x1 hp1 ⊢
  have ml:(rws z).length<=z.length+1:=by
   unfold rws
   rw[jAS]
   exact jAJ z 10
  have tr:=tz.r
  have pos:0<(rws z).length:=dL z _
  have er:rd z=match rws z with
   | []=> .inl 0
   | h::rs=>match vhd h with
    | none=> .inl 0
    | some (w,ms)=>match rdR w [] rs 1 with
     | .inl k=> .inl k
     | .inr ps=> .inr (w,ms,ps):=rfl
  rw[er] at no yes
  clear er
  generalize rws z=rs at hp1 ml tr pos no yes
  cases rs with
  | nil=>cases pos
  | cons h rs=>
   dsimp only at no yes
   have ev:=jMV h
   refine⟨_,rfl,p,_,0,_,rfl,rfl,SqL.of hp1,jT (j:=0) rfl,h,rfl,tr h (am ..),fun hn H2 e2=>?_,fun x hx v H2 hv e2=>?_⟩
   ·rw[hn] at ev
    rw[ev] at no
    exact⟨_,rfl,rfl,_,rfl,iteT (iteT (no 0 rfl _ (x1.trans e2)))⟩
   ·obtain⟨wi,ms⟩:=x
    rw[hx] at ev
    dsimp only at ev hv
    have vn:decide (v=V.non)=false:=aq (by
     obtain⟨a,ws,rfl,_⟩:=hv
     intro z
     cases z)
    refine⟨_,rfl,rfl,_,rfl,?_⟩
    rw[vn]
    refine iteF ⟨_,rfl,v,_,rfl,hv,fun H3 e3=>⟨_,rfl,?_⟩⟩
    have X3:Ext H H3:=(x1.trans e2).trans e3
    cases hb:bxB (hdT wi ms) with
    | false=>
     rw[aB (by rw[hb]; decide)] at ev
     rw[ev] at no
     exact iteT (no 0 rfl _ X3)
    | true=>
     rw[aA hb] at ev
     rw[ev] at no yes
     dsimp only at no yes
     have hb':(upB 0 16 (.int wi)&&lotB wi (.tup (ms.map Ob.int)))=true:=by rw[<- hb]; exact(jEN (.int wi) (ms.map Ob.int)).symm
     obtain⟨hu,hlo⟩:=aM.mp hb'
     obtain⟨wi',ew,w0,w1⟩:=jEV hu
     cases ew
     obtain⟨ts,ets,rm⟩:=jEC hlo
     have ets:ms=ts:=by
      have:=bn (List.map val) (Ob.tup.inj ets)
      rw[jAQ,jAQ] at this
      exact this
     subst ets
     obtain⟨b,us,rfl,b1,_,u1,r1,rfl,e1,u2,r2,rfl,⟨qm,ws2,rfl,b2,_,hm⟩,u3,r3,rfl,⟨qp,ws3,rfl,b3,_,hq⟩,e4⟩:=hv
     cases (show r3=[] from e4)
     cases (show u1=V.int wi from e1)
     cases (show ws3=[] from hq)
     rw[jCT hm] at b2
     have p3:=(e2.trans e3) _ _ hp1
     have rl:((h::rs).map V.str).length=rs.length+1:=by rw[af,aC]
     rw[aC] at ml
     refine iteF ⟨_,rfl,p,_,rfl, .inl (SqL.of p3),1,_,rfl,⟨by decide,by decide,by omega,by omega⟩,jAX (n:=((((h::rs).map V.str).length:Int) - 1).toNat) (fun i σ H'=>Ext H3 H'/\∃ b' acc,(∃ v3 v4,σ=[some (.str z),some (.ref p),some (.ref b'),v3,v4])/\BoxAt H' b' wi ms acc/\(∀ p∈acc,jV wi (obPc p)=true)/\acc.length=i/\i<=32/\rdR wi [] rs 1=rdR wi acc (rs.drop i) (i+1)) ⟨Ext.refl _,b,[],⟨_,_,rfl⟩,⟨qm,qp,[],e3 _ _ b1,e3 _ _ b2,e3 _ _ b3,trivial⟩,fun _ h=>absurd h bj,rfl,aJ _,rfl⟩ ?_ ?_⟩
     ·rintro i σ H4 hi ⟨x4,b',acc,⟨v3,v4,rfl⟩,hB,gp,al4,i32,er⟩
      have hi':i<rs.length:=by omega
      have hri:rs[i]?=some rs[i]:=bB hi'
      have ed:rs.drop i=rs[i]::rs.drop (i+1):=df hi'
      have er2:rdR wi acc (rs.drop i) (i+1)=if acc.length=32 then .inl (i+1) else match vpc wi rs[i] with
       | none=> .inl (i+1)
       | some pc=>rdR wi (acc++[pc]) (rs.drop (i+1)) (i+1+1):=by rw[ed]; rfl
      refine jMY T CP CB hr (rs:=h::rs) (r:=rs[i]) (acc:=acc) (x4 _ _ p3) (by rw[gj]; exact hri) (tr _ (ar _ (ck hi'))) hB w0 w1 rm gp (by omega) (fun hn H5 e5=>?_) (fun pc b5 v5 H5 h32 hpc hB5 e5=>?_)
      ·have e2:rdR wi [] rs 1= .inl (i+1):=by
        rw[er,er2]
        rcases hn with hn | hn
        ·rw[aA hn]
        ·by_cases h32:acc.length=32
         ·rw[aA h32]
         ·rw[aB h32,hn]
       rw[e2] at no
       exact no (i+1) rfl _ ((X3.trans x4).trans e5)
      ·refine⟨x4.trans e5,b5,acc++[pc],⟨_,_,rfl⟩,hB5,fun q hq=>?_,by rw[aI,al4]; rfl,by omega,by rw[er,er2,aB h32,hpc]⟩
       rcases bJ.mp hq with hq | hq
       ·exact gp q hq
       ·rw[aQ.mp hq]
        have:=jH4 wi rs[i]
        rw[hpc] at this
        cases hl:lpc rs[i] with
        | none=>rw[hl] at this; cases this
        | some pc'=>
         rw[hl] at this
         dsimp only at this
         split at this
         ·rename_i hp'
          cases this
          exact hp'
         ·cases this
     ·rintro σ H4 ⟨x4,b',acc,⟨v3,v4,rfl⟩,hB,gp,al4,i32,er⟩
      have en:((((h::rs).map V.str).length:Int) - 1).toNat=rs.length:=by omega
      rw[en] at al4 er
      have e2:rdR wi [] rs 1= .inr acc:=by
       rw[er,List.drop_length]
       rfl
      rw[e2] at yes
      exact⟨_,rfl,yes (wi,ms,acc) rfl b' _ hB (X3.trans x4)⟩
end
end Eo
end
section
namespace L2
open PySem
open PySem.Spec PyProof.Rows
end L2
namespace Eo
open PySem L2
abbrev jCO:List Str:=["Held","NoCovering","NoDeed","NoOrder","NoPiece","NoRow","NoText","NoThing","NoWeight","TooMany"]
structure Kinds (K:W.Frag)(mg:Str->Option Value)(C:Addr)(cl:Nat->Addr)(ks:Nat->Bool):Prop where
 ei:ExcIs K C
 ml:∀ i x,jCO[i]?=some x->mg x=some (.ref (cl i))
 is_:∀ i,i<10->kitOne K (.ref C) (.ref (cl i))=some (ks i)
 ve:kitOne K (.ref C) (.type "ValueError")=some true
end Eo
end
section
namespace Eo
open PySem L2 Tx
section
variable {P:Program}{w:World}{K:W.Frag}{mg:Str->Option Value}{base:Heap}
variable {f fB fW cN cO:Addr}{fdB fdW:FuncData}{cl:Nat->Addr}{cdv:Value}{A:Around}{outer:List Env}{s:Shared}{H0:Hp}{E:XK}
def spWhS (x:Addr):Sp:=fun vs H Q _=>∃ i:Int,vs=[.int i]/\Q (.bl true) H
def jNZ {x:Addr}(T:Txt mg)(hr:RoomS 0 (cxS P w K mg base jHC "_law_whole" (j9 qJ) f cdv A outer s H0 E).A x): { t:TS // JSs (cxS P w K mg base jHC "_law_whole" (j9 qJ) f cdv A outer s H0 E) (jE qJ) t} :=
 have nd:=scWhole.nd
 ⟨_,(jF (jN ((qM (jH jQ (gl_s (by decide+kernel)) T.isinstance (by decide+kernel) (j4 (jv 0 rfl (vis_s (by decide+kernel))) (j4 (kO (v:= .ty "int") (gl_s (by decide+kernel)) T.int (by decide+kernel) rfl) j7 j6) j6) j6) (qL (jKL (jH jQ (gl_s (by decide+kernel)) T.isinstance (by decide+kernel) (j4 (jv 0 rfl (vis_s (by decide+kernel))) (j4 (kO (v:= .ty "bool") (gl_s (by decide+kernel)) T.bool (by decide+kernel) rfl) j7 j6) j6) j6)))))))⟩
theorem jJM {fd:FuncData}(F:Fun K "_law_whole" "_law_whole" qJ f fd)(T:Txt mg):FnS P w K mg base 1 f fd ["found"] spWhS:=by
 refine jRM F scWhole (fun x vs H Q E h=>?_) (fun cdv A outer s H vs Q E x hr h=>?_)
 ·obtain⟨_,rfl,_⟩:=h
  rfl
 ·obtain⟨i,rfl,q⟩:=h
  refine⟨_,(jNZ T hr).2.h,?_⟩
  exact⟨_,rfl,_,_,_,true,rfl, .int _,rfl,_,rfl,iteT ⟨_,rfl,_,_,_,false,rfl, .int _,rfl,_,rfl,q⟩⟩
abbrev jK1:List Str:=["text","told","e","others"]
theorem scToldT:FnScope jK1 ["text"] (j9 qV):=⟨rfl,rfl,rfl,by decide+kernel,rfl,by decide+kernel,by decide+kernel⟩
def jG7 (K:W.Frag):Sp:=fun vs H Q _=>∃ v,vs=[v]/\((∃ z,v= .str z/\TxtOk z/\(∀ k,rd z= .inl k->∀ H',Ext H H'->Q (.int (k:Int)) H')/\∀ x,rd z= .inr x->∀ b H',BoxAt H' b x.1 x.2.1 x.2.2->Ext H H'->Q (.ref b) H')\/((∃ T,TyOf K H v (.type T)/\kitOne K (.type T) (.type "str")=some false)/\∀ H',Ext H H'->Q (.int 0) H'))
def jQ4 (T:Txt mg)(FB:CanR cN P w K mg base "read" 7 fB fdB ["text"] (jGV K))(CW:CanS P w K mg base "_law_whole" 1 fW fdW ["found"] spWhS)(EI:ExcIs K cN)(hD:hasDictIn K cN=true)(hN:findIn K (.ref cN) "row" =some none)(ML:∀ i x,jCO[i]?=some x->mg x=some (.ref (cl i)))(MO:mg "OnceError" =some (.ref cO))(hr:Room 7 (XOf jK1 "_law_told_text" qV P w K mg base f cdv A outer s H0 E).A): { t:TS // JSs (XOf jK1 "_law_told_text" qV P w K mg base f cdv A outer s H0 E) (jE qV) t} :=
 have nd:=scToldT.nd
 ⟨_,(jA (jR (i:=1) nd rfl lL (yA) jLX) (jA (jPI (j:=2) nd rfl (show (j9 qV).names.lookup (("e" :String):Str)=some NameKind.local by decide+kernel) (jPL (i:=1) nd rfl lL (jML FB.G hr gD FB.m FB.kp FB.b (j4 (jv 0 rfl vL) j7 j6) rfl j6) kD) gD MO rfl rfl (fun x=>(jA (jR (i:=3) nd rfl (loc_u lL) (jH (jEM EI) (gl_u gD) T.isinstance (by decide+kernel) (j4 (jv 2 rfl (vis_u vL)) (j4 (y8 (j4 (yM (v:= .ref (cl 0)) (gl_u gD) (ML 0 _ rfl) rfl) (j4 (yM (v:= .ref (cl 1)) (gl_u gD) (ML 1 _ rfl) rfl) (j4 (yM (v:= .ref (cl 2)) (gl_u gD) (ML 2 _ rfl) rfl) (j4 (yM (v:= .ref (cl 3)) (gl_u gD) (ML 3 _ rfl) rfl) (j4 (yM (v:= .ref (cl 4)) (gl_u gD) (ML 4 _ rfl) rfl) (j4 (yM (v:= .ref (cl 5)) (gl_u gD) (ML 5 _ rfl) rfl) (j4 (yM (v:= .ref (cl 7)) (gl_u gD) (ML 7 _ rfl) rfl) (j4 (yM (v:= .ref (cl 8)) (gl_u gD) (ML 8 _ rfl) rfl) (j4 (yM (v:= .ref (cl 9)) (gl_u gD) (ML 9 _ rfl) rfl) j7 j6) j6) j6) j6) j6) j6) j6) j6) j6)) j7 jBO) j6) j6) kD)
   (jF (jZ (jt_w (jCG (kI (jH (jCJ EI) (gl_u gD) T.isinstance (by decide+kernel) (j4 (jv 2 rfl (vis_u vL)) (j4 (yM (v:= .ref (cl 6)) (gl_u gD) (ML 6 _ rfl) rfl) j7 j6) j6) j6) jY) (jCG (kI (jH (jCJ EI) (gl_u gD) T.isinstance (by decide+kernel) (j4 (jv 2 rfl (vis_u vL)) (j4 (kO (v:= .ty "ValueError") (gl_u gD) T.ValueError (by decide+kernel) rfl) j7 j6) j6) j6) jY) (jCG (kX (kI (jv 3 rfl (vis_u vL)) jO3)) (jD6 (kI (jMS CW.G (Room.suite (hr.mono (by decide)) x) (gl_u gD) CW.m CW.kp CW.b (j4 (jKK EI hD hN (jv 2 rfl (vis_u vL))) j7 jJ1) jJ1) jY)))))) (jF (jR (i:=1) nd rfl (loc_u lL) (jKK EI hD hN (jv 2 rfl (vis_u vL))) jO6)) jL))))) (jF (jN (jv 1 rfl vL)))))⟩
theorem jM8 {fd:FuncData}(F:Fun K "_law_told_text" "_law_told_text" qV f fd)(T:Txt mg)(FB:CanR cN P w K mg base "read" 7 fB fdB ["text"] (jGV K))(CW:CanS P w K mg base "_law_whole" 1 fW fdW ["found"] spWhS)(kd:Kinds K mg cN cl fun i=>decide (i=6))(hD:hasDictIn K cN=true)(hN:findIn K (.ref cN) "row" =some none)(MO:mg "OnceError" =some (.ref cO))(AB:Above K cN cO):FnOk P w K mg base CX0 8 f fd ["text"] (jG7 K):=by
 refine F.ok scToldT (fun vs H Q E h=>?_) (fun cdv A outer s H vs Q E hr h=>?_)
 ·obtain⟨_,rfl,_⟩:=h
  rfl
 ·obtain⟨v,rfl,h⟩:=h
  refine⟨_,(jQ4 T FB CW kd.ei hD hN kd.ml MO hr).2.h,?_⟩
  refine⟨_,rfl,v,rfl,?_⟩
  rcases h with ⟨z,rfl,tz,no,yes⟩ | ⟨ty,no⟩
  ·refine .inl ⟨z,rfl,tz,fun k hk=>?_,fun x hx b H' hB e=>⟨_,rfl,yes x hx b H' hB e⟩⟩
   have q:=no k hk
   intro a d H2 e2 hd x d' hx hd' hxn
   cases hx
   cases hd'
   refine⟨AB,?_⟩
   have e3:Ext H2 (L2.upd H2 a (.ext (excD a cN d))):=(Ext.refl _).new hxn _
   have d3:(L2.upd H2 a (.ext (excD a cN d))) a=some (.ext (excD a cN d)):=j8
   generalize L2.upd H2 a (.ext (excD a cN d))=H3 at e3 d3
   have hd3:=e3 _ _ hd
   have rr:∀ {a:Addr}(v:Value),RelV (.ref a) v->v= .ref a:=fun v h=>h
   refine⟨_,rfl,by show (9:Nat)<=_; decide,fun t H4 d4 e4=>?_⟩
   have d4x:=e4 _ _ d3
   have hd4:=e4 _ _ hd3
   refine⟨a,t,[cl 0,cl 1,cl 2,cl 3,cl 4,cl 5,cl 7,cl 8,cl 9],false,d,_,rfl,d4x,hd4,d4,jED fun b hb=>?_,?_⟩
   ·simp only [av,bj,cK] at hb
    rcases hb with rfl | rfl | rfl | rfl | rfl | rfl | rfl | rfl | rfl
    ·exact kd.is_ 0 (by decide)
    ·exact kd.is_ 1 (by decide)
    ·exact kd.is_ 2 (by decide)
    ·exact kd.is_ 3 (by decide)
    ·exact kd.is_ 4 (by decide)
    ·exact kd.is_ 5 (by decide)
    ·exact kd.is_ 7 (by decide)
    ·exact kd.is_ 8 (by decide)
    ·exact kd.is_ 9 (by decide)
   ·refine⟨_,rfl,a,_,_,_,d,_,rfl,d4x,hd4,rr,kd.is_ 6 (by decide),_,rfl,iteT ?_⟩
    refine⟨_,rfl,a,_,_,_,d,_,rfl,d4x,hd4,(fun _ h=>h),kd.ve,_,rfl,iteT ?_⟩
    refine⟨_,rfl,_,rfl,iteT ?_⟩
    refine⟨_,rfl,a,d,_,_,rfl,d4x,hd4,rfl,_,rfl,_,rfl,iteT ?_⟩
    refine⟨_,rfl,a,d,_,_,rfl,d4x,hd4,rfl,_,rfl,?_⟩
    exact q H4 ((e2.trans e3).trans e4)
  ·refine .inr ⟨ty,?_⟩
   have q:=no
   intro a d H2 e2 hd x d' hx hd' hxn
   cases hx
   cases hd'
   refine⟨AB,?_⟩
   have e3:Ext H2 (L2.upd H2 a (.ext (excD a cN d))):=(Ext.refl _).new hxn _
   have d3:(L2.upd H2 a (.ext (excD a cN d))) a=some (.ext (excD a cN d)):=j8
   generalize L2.upd H2 a (.ext (excD a cN d))=H3 at e3 d3
   have hd3:=e3 _ _ hd
   have rr:∀ {a:Addr}(v:Value),RelV (.ref a) v->v= .ref a:=fun v h=>h
   refine⟨_,rfl,by show (9:Nat)<=_; decide,fun t H4 d4 e4=>?_⟩
   have d4x:=e4 _ _ d3
   have hd4:=e4 _ _ hd3
   refine⟨a,t,[cl 0,cl 1,cl 2,cl 3,cl 4,cl 5,cl 7,cl 8,cl 9],false,d,_,rfl,d4x,hd4,d4,jED fun b hb=>?_,?_⟩
   ·simp only [av,bj,cK] at hb
    rcases hb with rfl | rfl | rfl | rfl | rfl | rfl | rfl | rfl | rfl
    ·exact kd.is_ 0 (by decide)
    ·exact kd.is_ 1 (by decide)
    ·exact kd.is_ 2 (by decide)
    ·exact kd.is_ 3 (by decide)
    ·exact kd.is_ 4 (by decide)
    ·exact kd.is_ 5 (by decide)
    ·exact kd.is_ 7 (by decide)
    ·exact kd.is_ 8 (by decide)
    ·exact kd.is_ 9 (by decide)
   ·refine⟨_,rfl,a,_,_,_,d,_,rfl,d4x,hd4,rr,kd.is_ 6 (by decide),_,rfl,iteT ?_⟩
    refine⟨_,rfl,a,_,_,_,d,_,rfl,d4x,hd4,(fun _ h=>h),kd.ve,_,rfl,iteT ?_⟩
    refine⟨_,rfl,_,rfl,iteT ?_⟩
    refine⟨_,rfl,a,d,_,_,rfl,d4x,hd4,rfl,_,rfl,_,rfl,iteT ?_⟩
    refine⟨_,rfl,a,d,_,_,rfl,d4x,hd4,rfl,_,rfl,?_⟩
    exact q H4 ((e2.trans e3).trans e4)
end
end Eo
end
section
namespace Tx
open PySem PyProof.Rows PySem.NumText
theorem jHF {c x:Nat} :∀ {A:List (List Nat)},x∈jl c A->x=c\/∃ a∈A,x∈a
 | [],h=>by cases h
 | [a],h=> .inr ⟨a,am,h⟩
 | a::b::r,h=>by
  have h:x∈a++c::jl c (b::r):=h
  rcases bJ.mp h with q | q
  ·exact .inr ⟨a,am,q⟩
  ·rcases av.mp q with q | q
   ·exact .inl q
   ·rcases jHF q with q | ⟨d,hd,q⟩
    ·exact .inl q
    ·exact .inr ⟨d,ar _ hd,q⟩
theorem jBR {l:List Int}{k:Nat}(h:k≠45/\(k<48\/57<k))(h2:k≠44):k∉(yP l).cps.toList:=fun q=>by
 unfold yP at q
 rw[jA8,yH] at q
 rcases jHF q with e | ⟨a,ha,e⟩
 ·exact h2 e
 ·obtain⟨s,hs,rfl⟩:=aP.mp ha
  obtain⟨i,_,rfl⟩:=aP.mp hs
  exact jB1 h e
theorem jBI {a b:PySem.Str}{k:Nat}(h:k∈(a++b).cps.toList):k∈a.cps.toList\/k∈b.cps.toList:=by
 rw[cX,di] at h
 exact bJ.mp h
theorem jEW:(("things " :String):PySem.Str)=(("things" :String):PySem.Str)++((" " :String):PySem.Str):=by decide+kernel
theorem jR8:((" may " :String):PySem.Str)=((" " :String):PySem.Str)++((("may" :String):PySem.Str)++((" " :String):PySem.Str)):=by decide+kernel
def jDO (w:Int)(ms:List Int):List PySem.Str:=if ms=[] then [(("things" :String):PySem.Str),numS w] else [(("things" :String):PySem.Str),numS w,(("may" :String):PySem.Str),yP ms]
theorem jKS (w:Int)(ms:List Int):headS w ms=PySem.Str.join ((" " :String):PySem.Str) (jDO w ms):=by
 unfold headS jDO
 split
 ·show _=(("things" :String):PySem.Str)++((" " :String):PySem.Str)++numS w
  rw[jEW]
 ·show _=(("things" :String):PySem.Str)++((" " :String):PySem.Str)++(numS w++((" " :String):PySem.Str)++((("may" :String):PySem.Str)++((" " :String):PySem.Str)++yP ms))
  rw[jEW,jR8]
  simp only [dM]
theorem jIC (w:Int)(ms:List Int):Txt.split (headS w ms) ((" " :String):PySem.Str)=jDO w ms:=by
 rw[jKS,jCV]
 have f1:32∉((("things" :String):PySem.Str)).cps.toList:=by decide+kernel
 have f2:32∉((("may" :String):PySem.Str)).cps.toList:=by decide+kernel
 have f3:32∉(numS w).cps.toList:=jB1 ⟨by decide,by decide⟩
 have f4:32∉(yP ms).cps.toList:=jBR ⟨by decide,by decide⟩ (by decide)
 refine jAK ?_ ?_
 ·unfold jDO; split <;> simp
 ·intro s hs
  unfold jDO at hs
  split at hs
  ·rcases av.mp hs with e | hs
   ·rw[e]; exact f1
   ·rw[aQ.mp hs]; exact f3
  ·rcases av.mp hs with e | hs
   ·rw[e]; exact f1
   ·rcases av.mp hs with e | hs
    ·rw[e]; exact f3
    ·rcases av.mp hs with e | hs
     ·rw[e]; exact f2
     ·rw[aQ.mp hs]; exact f4
theorem jJ3 (pc:List Int×Int):Txt.split (rowS pc) ((" " :String):PySem.Str)=[yP pc.1,numS pc.2]:=by
 have e:rowS pc=PySem.Str.join ((" " :String):PySem.Str) [yP pc.1,numS pc.2]:=rfl
 rw[e,jCV]
 refine jAK (by simp) fun s hs=>?_
 rcases av.mp hs with e | hs
 ·rw[e]; exact jBR ⟨by decide,by decide⟩ (by decide)
 ·rw[aQ.mp hs]; exact jB1 ⟨by decide,by decide⟩
theorem jC0 (w:Int)(ms:List Int)(pcs:List (List Int×Int)):Txt.split (yI w ms pcs) (("\n" :String):PySem.Str)=headS w ms::pcs.map rowS:=by
 unfold yI
 rw[jAS]
 have n1:∀ i,10∉(numS i).cps.toList:=fun i=>jB1 ⟨by decide,by decide⟩
 have n2:∀ l,10∉(yP l).cps.toList:=fun l=>jBR ⟨by decide,by decide⟩ (by decide)
 have f1:10∉((("things " :String):PySem.Str)).cps.toList:=by decide+kernel
 have f2:10∉(((" may " :String):PySem.Str)).cps.toList:=by decide+kernel
 have f3:10∉(((" " :String):PySem.Str)).cps.toList:=by decide+kernel
 refine jAK (by simp) fun s hs=>?_
 rcases av.mp hs with e | hs
 ·rw[e]
  unfold headS
  split
  ·intro q
   rcases jBI q with q | q
   ·exact f1 q
   ·exact n1 _ q
  ·intro q
   rcases jBI q with q | q
   ·rcases jBI q with q | q
    ·rcases jBI q with q | q
     ·exact f1 q
     ·exact n1 _ q
    ·exact f2 q
   ·exact n2 _ q
 ·obtain⟨pc,_,rfl⟩:=aP.mp hs
  intro q
  rcases jBI q with q | q
  ·rcases jBI q with q | q
   ·exact n2 _ q
   ·exact f3 q
  ·exact n1 _ q
theorem jKY:∀ n:Nat,digitsVal (dl n)=n:=by
 intro n
 have h:=cY (x:=numS (n:Int)) (by rw[yQ]; exact fun c hc=>jA4 n c hc) (by rw[yQ]; exact dl_ne n)
 by_cases hl:(numS (n:Int)).length<=4300
 ·have h1:=h hl
  have h2:=jH9 (n:Int) hl
  rw[h1] at h2
  have:=aF h2
  rw[yQ] at this
  omega
 ·induction n using strongRecOn with
  | _ n ih=>
   by_cases h10:n<10
   ·rw[jB4 h10]
    show 0*10+(48+n - 48)=n
    omega
   ·rw[jFR (by omega),digitsVal_snoc]
    by_cases hq:(numS ((n / 10:Nat):Int)).length<=4300
    ·have h1:=cY (x:=numS ((n / 10:Nat):Int)) (by rw[yQ]; exact fun c hc=>jA4 _ c hc) (by rw[yQ]; exact dl_ne _) hq
     have h2:=jH9 ((n / 10:Nat):Int) hq
     rw[h1] at h2
     have:=aF h2
     rw[yQ] at this
     omega
    ·rw[ih (n / 10) (by omega) (fun hl'=>cY (x:=numS ((n / 10:Nat):Int)) (by rw[yQ]; exact fun c hc=>jA4 _ c hc) (by rw[yQ]; exact dl_ne _) hl') hq]
     omega
theorem jL7 {n:Nat}(h:n<10 ^ 13):canD (dl n)=true:=by
 refine canD_iff.mpr ⟨dl_ne n,jDX 12 n h,fun c hc=>jA4 n c hc,?_⟩
 by_cases h0:n=0
 ·right
  rw[h0]
  rfl
 ·left
  obtain⟨c,r,e1,e2⟩:=jKZ n (by omega)
  rw[e1]
  intro q
  exact e2 (aF q)
theorem jCP {i:Int}(h0: -10000000000000<i)(h1:i<10000000000000):numO (numS i)=some i:=by
 cases i with
 | ofNat n=>
  have hn:n<10 ^ 13:=by
   have:(n:Int)<10000000000000:=h1
   omega
  have e:=(jJW (z:=numS (n:Int)) (i:=(n:Int)) (by
   unfold numL
   rw[yQ,aA (jL7 hn),jKY])).1
  exact e
 | negSucc n=>
  have hn:n+1<10 ^ 13:=by
   have: -10000000000000<Int.negSucc n:=h0
   rw[gP] at this
   omega
  unfold numO
  rw[jD1]
  have hne:dl (n+1)≠ [48]:=fun e=>by
   have:=jKY (n+1)
   rw[e] at this
   cases this
  show (if canD (dl (n+1))&&decide (dl (n+1)≠ [48]) then some (-(digitsVal (dl (n+1)):Int)) else none)=_
  rw[jL7 hn,ah hne,jKY]
  rfl
theorem jI3 {l:List Int}(h:l≠ []):kP (yP l)=l.map numS:=by
 unfold kP yP
 rw[jA8]
 refine jAK (fun e=>h (bV.mp e)) fun s hs=>?_
 obtain⟨i,_,rfl⟩:=aP.mp hs
 exact jB1 ⟨by decide,by decide⟩
end Tx
namespace Eo
open PySem L2 Tx PySem.NumText
abbrev Bd (i:Int):Prop:= -10000000000000<i/\i<10000000000000
theorem jH7 {l:List Int}(h:l≠ [])(hb:∀ i∈l,Bd i):obs (yP l)=l.map Ob.int:=by
 unfold obs
 rw[jI3 h,fb]
 exact eX fun i hi=>by
  show obO (numO (numS i))=_
  rw[jCP (hb i hi).1 (hb i hi).2]
  rfl
theorem jMW {w:Int}{ms:List Int}(hw:Bd w)(hm:∀ i∈ms,Bd i):hdO (headS w ms)=hdT w ms:=by
 unfold hdO wrds
 rw[jIC]
 unfold jDO
 by_cases h:ms=[]
 ·rw[aA h,h]
  dsimp only
  rw[aA rfl,jCP hw.1 hw.2]
  rfl
 ·rw[aB h]
  dsimp only
  rw[aA rfl,aA rfl,jCP hw.1 hw.2,jH7 h hm]
  rfl
theorem jJH {pc:List Int×Int}(hi:Bd pc.2)(hm:∀ i∈pc.1,Bd i)(w:Int):vpc w (rowS pc)=if jV w (obPc pc)=true then some pc else none:=by
 have e0:pcO (rowS pc)= .tup [.tup (obs (yP pc.1)), .int pc.2]:=by
  unfold pcO wrds
  rw[jJ3]
  dsimp only
  rw[jCP hi.1 hi.2]
  rfl
 show vpcO w (pcO (rowS pc))=_
 rw[e0]
 by_cases h:pc.1=[]
 ·have e1:jV w (obPc pc)=false:=by
   unfold obPc
   rw[h]
   show (lotB w (.tup [])&&!qN (.tup [])&&upB (-1000000000000) 1000000000000 (.int pc.2))=false
   rw[show qN (.tup [])=true from rfl,fQ,aX,ba]
  rw[e1]
  have e2:obs (yP pc.1)=[.oth]:=by
   rw[h]
   have e3:kP (yP [])=[⟨#[]⟩]:=by decide+kernel
   unfold obs
   rw[e3]
   rfl
  rw[e2]
  unfold vpcO
  rw[aB (show ¬ (false=true) by decide)]
  exact aB fun q=>by
   have q:(lotB w (.tup [.oth])&&!qN (.tup [.oth])&&upB (-1000000000000) 1000000000000 (.int pc.2))=true:=q
   have q:=(aM.mp (aM.mp q).1).1
   have q:(([Ob.oth]:List Ob).all (upB 0 (w - 1))&&(adj (([Ob.oth]:List Ob).map val)).all id)=true:=q
   cases (aM.mp q).1
 ·rw[jH7 h hm]
  show (if jV w (obPc pc)=true then some (pcOf (obPc pc)) else none)=_
  rw[jJG]
theorem jGZ {w:Int} :∀ {pcs acc:List (List Int×Int)}{k:Nat},(∀ p∈pcs,Bd p.2/\∀ i∈p.1,Bd i)->acc.length+pcs.length<=32->(∀ p∈pcs,jV w (obPc p)=true)->rdR w acc (pcs.map rowS) k= .inr (acc++pcs)
 | [],acc,k,_,_,_=>by rw[bL]; rfl
 | p::pcs,acc,k,hb,hl,hg=>by
  rw[aC] at hl
  have e:rdR w acc ((p::pcs).map rowS) k=if acc.length=32 then .inl k else match vpc w (rowS p) with
   | none=> .inl k
   | some pc=>rdR w (acc++[pc]) (pcs.map rowS) (k+1):=rfl
  rw[e]
  have b:=hb p (am ..)
  rw[aB (by omega),jJH b.1 b.2,aA (hg p (am ..))]
  dsimp only
  rw[jGZ (fun q hq=>hb q (ar _ hq)) (by rw[aI,cP]; omega) (fun q hq=>hg q (ar _ hq)),fz]
  rfl
theorem jJ5 {w:Int} :∀ {pcs acc:List (List Int×Int)}{k:Nat},(∀ p∈pcs,Bd p.2/\∀ i∈p.1,Bd i)->(32<acc.length+pcs.length\/∃ p∈pcs,jV w (obPc p)=false)->acc.length<=32->∃ n,rdR w acc (pcs.map rowS) k= .inl n
 | [],acc,k,_,h,ha=>by
  rcases h with h | ⟨p,hp,_⟩
  ·rw[eR] at h; omega
  ·cases hp
 | p::pcs,acc,k,hb,h,ha=>by
  have b:=hb p (am ..)
  have e:rdR w acc ((p::pcs).map rowS) k=if acc.length=32 then .inl k else match vpc w (rowS p) with
   | none=> .inl k
   | some pc=>rdR w (acc++[pc]) (pcs.map rowS) (k+1):=rfl
  rw[e]
  by_cases h32:acc.length=32
  ·rw[aA h32]
   exact⟨_,rfl⟩
  ·rw[aB h32,jJH b.1 b.2]
   cases hp:jV w (obPc p) with
   | false=>exact⟨k,rfl⟩
   | true=>
    refine jJ5 (pcs:=pcs) (acc:=acc++[p]) (k:=k+1) (fun q hq=>hb q (ar _ hq)) ?_ (by rw[aI,cP]; omega)
    rcases h with h | ⟨q,hq,h⟩
    ·left
     rw[aC] at h
     rw[aI,cP]
     omega
    ·rcases av.mp hq with e | hq
     ·rw[e,hp] at h
      cases h
     ·exact .inr ⟨q,hq,h⟩
theorem jOB {w:Int}{ms:List Int}{pcs:List (List Int×Int)}(hw:Bd w)(hm:∀ i∈ms,Bd i)(hp:∀ p∈pcs,Bd p.2/\∀ i∈p.1,Bd i):
  (bxB (.tup [.int w, .tup (ms.map Ob.int), .tup (pcs.map obPc)])=true->rd (yI w ms pcs)= .inr (w,ms,pcs))/\(bxB (.tup [.int w, .tup (ms.map Ob.int), .tup (pcs.map obPc)])=false->∃ n,rd (yI w ms pcs)= .inl n):=by
 have eb:bxB (.tup [.int w, .tup (ms.map Ob.int), .tup (pcs.map obPc)])=(upB 0 16 (.int w)&&lotB w (.tup (ms.map Ob.int))&&decide ((pcs.map obPc).length<=32)&&(pcs.map obPc).all (jV w)):=rfl
 have ev:vhd (headS w ms)=if bxB (hdT w ms)=true then some (w,ms) else none:=by
  unfold vhd
  rw[jMW hw hm]
  have:hdOf (hdT w ms)=(w,ms):=by
   show (w,(ms.map Ob.int).map val)=_
   rw[jAQ]
  rw[this]
 have eh:bxB (hdT w ms)=(upB 0 16 (.int w)&&lotB w (.tup (ms.map Ob.int))):=jEN _ _
 have er:rd (yI w ms pcs)=match vhd (headS w ms) with
  | none=> .inl 0
  | some (w,ms)=>match rdR w [] (pcs.map rowS) 1 with
   | .inl k=> .inl k
   | .inr ps=> .inr (w,ms,ps):=by
  unfold rd rws
  rw[jC0]
  try rfl
 rw[er,ev,eh,eb]
 cases hx:(upB 0 16 (.int w)&&lotB w (.tup (ms.map Ob.int))) with
 | false=>
  rw[ba,ba]
  exact⟨(fun q=>by cases q),fun _=>⟨0,rfl⟩⟩
 | true=>
  rw[bC,aA rfl]
  dsimp only
  constructor
  ·intro q
   obtain⟨q1,q2⟩:=aM.mp q
   have q1:=aj q1
   rw[af] at q1
   have q2:=aD.mp q2
   rw[jGZ hp (by rw[eR]; omega) fun p hp'=>q2 _ (aP.mpr ⟨p,hp',rfl⟩)]
   rfl
  ·intro q
   obtain⟨n,e⟩:=jJ5 (w:=w) (pcs:=pcs) (acc:=[]) (k:=1) hp (by
    cases hd:decide ((pcs.map obPc).length<=32) with
    | false=>
     left
     have:=of_decide_eq_false hd
     rw[af] at this
     rw[eR]
     omega
    | true=>
     rw[hd,bC] at q
     right
     obtain⟨x,hx1,hx2⟩:=List.all_eq_false.mp q
     obtain⟨p,hp1,rfl⟩:=aP.mp hx1
     exact⟨p,hp1,cS.mpr hx2⟩) (aJ _)
   rw[e]
   exact⟨n,rfl⟩
end Eo
end
section
namespace L2
open PySem PySem.Spec PyProof.Rows
theorem jOX {X:Cx}(hu:X.A.units<cLine):OpR X (compareOp .NotEq) (fun x y H Q=>∃ p q xs,x= .ref p/\y= .ref q/\H p=some (.tup xs)/\H q=some (.tup [])/\Q (.bl (!decide (xs=[]))) H):=by
 intro pins s σ H x y v u Q I rx ry h
 obtain⟨p,q,xs,rfl,rfl,hp,hq,k⟩:=h
 cases rx
 cases ry
 obtain⟨its,r1,p1,_⟩:=I.tuple (SqT.of hp)
 obtain⟨its2,r2,p2,_⟩:=I.tuple (SqT.of hq)
 have l1:=r1.length
 have l2:its2.length=0:=r2.length.symm
 refine SeqAt.RcNeAt.tuples (e:=fun _=>true) p1 p2 hu (fun j a1 a2=>absurd a2 (by rw[ak]; omega)) _ _ _ _ ⟨.bl _,H,I,rfl,?_⟩
 have e:(!((List.range (min its.toArray.size its2.toArray.size)).all (fun _=>true)&&its.toArray.size==its2.toArray.size))=!decide (xs=[]):=by
  have z2:its2.toArray.size=0:=by rw[ak]; exact l2
  rw[z2,Nat.min_zero]
  cases xs with
  | nil=>
   have:its.toArray.size=0:=by rw[ak]; exact l1.symm
   rw[this]
   rfl
  | cons a b=>
   have h0:its.length≠0:=by rw[<- l1]; simp
   have:(its.toArray.size==0)=false:=by
    rw[ak]
    exact bO.mpr h0
   rw[this]
   rfl
 rw[e]
 exact k
end L2
namespace Eo
open PySem L2 Tx PySem.NumText
theorem jBL {i:Int}(h:Bd i):i.natAbs.log2<1920:=by
 have h1:=h.1
 have h2:=h.2
 by_cases h:i.natAbs=0
 ·rw[h]; decide
 ·rw[gM h]
  have:i.natAbs<=10000000000000:=by omega
  exact Nat.lt_of_le_of_lt this (aG (show 10000000000000<2 ^ 44 by decide) (eG (by decide) (by decide)))
theorem jFC {i:Int}(h:Bd i):(numS i).length<=14:=by
 rw[<- qA]
 have h1:=h.1
 have h2:=h.2
 cases i with
 | ofNat n=>
  show (numS (n:Int)).cps.toList.length<=14
  rw[yQ]
  have:(n:Int)<10000000000000:=h2
  have:=jDX 12 n (by omega)
  omega
 | negSucc n=>
  rw[jD1,aC]
  rw[gP] at h1
  have:=jDX 12 (n+1) (by omega)
  omega
theorem jBS {i:Int}(h0: -20<=i)(h1:i<=20):(numS i).length<=3:=by
 rw[<- qA]
 cases i with
 | ofNat n=>
  show (numS (n:Int)).cps.toList.length<=3
  rw[yQ]
  have:(n:Int)<=20:=h1
  have:=jDX 1 n (by omega)
  omega
 | negSucc n=>
  rw[jD1,aC]
  rw[gP] at h0
  have:=jDX 1 (n+1) (by omega)
  omega
theorem getI' {is:List Int}{k:Nat}(h:k<is.length):(is.map V.int)[k]?=some (.int (is.getD k 0)):=getI h
theorem jHJ {l:List Int}{i:Nat}(h:i<l.length):l.getD i 0∈l:=by
 have:l.getD i 0=l[i]:=by simp [List.getD,h]
 rw[this]
 exact ck h
theorem jIO {l:List Int}{i:Nat}(h:i<l.length):l.take (i+1)=l.take i++[l.getD i 0]:=by
 rw[cT,aK]
 simp [h]
structure Nums (l:List Int):Prop where
 len:l.length<=17
 bnd:∀ z∈l, -20<=z/\z<=20
structure WB (w:Int)(ms:List Int)(pcs:List (List Int×Int)):Prop where
 w0: -20<=w
 w1:w<=20
 m:Nums ms
 n:pcs.length<=33
 p:∀ pc∈pcs,Nums pc.1/\ -1000000000001<=pc.2/\pc.2<=1000000000001
theorem Nums.bd {l:List Int}(h:Nums l):∀ z∈l,Bd z:=fun z hz=>by
 have:=h.bnd z hz
 exact⟨by omega,by omega⟩
theorem WB.pb {w:Int}{ms:List Int}{pcs:List (List Int×Int)}(g:WB w ms pcs):∀ p∈pcs,Bd p.2/\∀ i∈p.1,Bd i:=fun p hp=>by
 have:=g.p p hp
 exact⟨⟨by omega,by omega⟩,this.1.bd⟩
theorem jFS:((("," :String):PySem.Str)).length=1:=by decide+kernel
theorem Nums.strs {l:List Int}(h:Nums l):∀ s∈l.map numS,s.length<=3:=fun s hs=>by
 obtain⟨i,hi,rfl⟩:=aP.mp hs
 exact jBS (h.bnd i hi).1 (h.bnd i hi).2
theorem Nums.sum {l:List Int}(h:Nums l):jEY "," (l.map numS)<=68:=by
 have:=jIS "," 3 (l.map numS) 0 h.strs
 rw[af,show 3+((("," :String):PySem.Str)).length=4 by rw[jFS]] at this
 have:=h.len
 unfold jEY
 omega
theorem Nums.joined {l:List Int}(h:Nums l):(yP l).length<=68:=by
 have:=jCQ "," 3 (l.map numS) h.strs
 rw[af,jFS] at this
 have:=h.len
 unfold yP
 omega
theorem jG9 {pc:List Int×Int}(h:Nums pc.1)(hb:Bd pc.2):(rowS pc).length<=83:=by
 have h1:=h.joined
 have h2:=jFC hb
 unfold rowS
 rw[aE,aE,show (((" " :String):PySem.Str)).length=1 by decide+kernel]
 omega
theorem jEE {w:Int}{ms:List Int}(h0: -20<=w)(h1:w<=20)(hm:Nums ms):(headS w ms).length<=83:=by
 have h2:=hm.joined
 have h3:=jBS h0 h1
 have e1:((("things " :String):PySem.Str)).length=7:=by decide+kernel
 have e2:(((" may " :String):PySem.Str)).length=5:=by decide+kernel
 unfold headS
 split
 ·rw[aE]; omega
 ·rw[aE,aE,aE]; omega
theorem PcsAt.at {H:Hp} :∀ {vs:List V}{ps:List (List Int×Int)},PcsAt H vs ps->∀ {i:Nat}{v:V},vs[i]?=some v->∃ pc,ps[i]?=some pc/\PcAt H v pc
 | v::vs,p::ps,h,0,_,e=>by cases e; exact⟨p,rfl,h.1⟩
 | v::vs,p::ps,h,i+1,_,e=>PcsAt.at h.2 (i:=i) e
 | [],[],_,_,_,e=>by cases e
 | [],_::_,h,_,_,_=>h.elim
 | _::_,[],h,_,_,_=>h.elim
theorem jFL (sep x:PySem.Str):∀ (r:List PySem.Str) (a:PySem.Str),PySem.Str.join sep (a::(r++[x]))=PySem.Str.join sep (a::r)++sep++x
 | [],a=>rfl
 | b::r,a=>by
  show a++sep++PySem.Str.join sep (b::(r++[x]))=a++sep++PySem.Str.join sep (b::r)++sep++x
  rw[jFL sep x r b]
  simp only [dM]
theorem jIM (w:Int)(ms:List Int)(pcs:List (List Int×Int))(pc:List Int×Int):yI w ms (pcs++[pc])=yI w ms pcs++ "\n" ++rowS pc:=by
 unfold yI
 rw[aS]
 exact jFL _ _ _ _
theorem jFE:((("\n" :String):PySem.Str)).length=1:=by decide+kernel
theorem jNW:(((" " :String):PySem.Str)).length=1:=by decide+kernel
theorem WB.take {w:Int}{ms:List Int}{pcs:List (List Int×Int)}(g:WB w ms pcs)(i:Nat):WB w ms (pcs.take i):=⟨g.w0,g.w1,g.m,by have:=g.n; rw[bb]; omega,fun pc h=>g.p pc (da h)⟩
theorem jDZ {w:Int}{ms:List Int}{pcs:List (List Int×Int)}(g:WB w ms pcs):(yI w ms pcs).length<=2856:=by
 have h:=jCQ "\n" 83 (headS w ms::pcs.map rowS) fun s hs=>by
  rcases av.mp hs with e | hs
  ·rw[e]; exact jEE g.w0 g.w1 g.m
  ·obtain⟨pc,hp,rfl⟩:=aP.mp hs
   exact jG9 (g.p pc hp).1 (g.pb pc hp).1
 rw[aC,af,jFE] at h
 have:=g.n
 unfold yI
 omega
section
variable {P:Program}{w:World}{K:W.Frag}{mg:Str->Option Value}{base:Heap}
variable {f:Addr}{cdv:Value}{A:Around}{outer:List Env}{s:Shared}{H0:Hp}{E:XK}
theorem jEZ {m:List (Option Nat)}{σ:St}{H1:Hp}{Q:VK}{a:Addr}{l:List Int}(ha:H1 a=some (.tup (l.map V.int)))(hl:Nums l)(hm:(blkσ m σ).length=1)
  (q:∀ D,H1 D=none->Q (.ref D) (L2.upd H1 D (.lst ((l.map numS).map V.str)))):
  CompW m (yF 0) qT (tCB (fun xs H Q=>∃ i,xs=[.int i]/\i.natAbs.log2<1920/\Q (.str (toString i)) H) (tCons (tVar 0) tNil)) σ Q (Itt K a) H1:=by
 refine jHM (xs:=l.map V.int) (by rw[af,ai]; have:=hl.len; omega) (fun D i σ' H' zs=>σ'.length=1/\zs=((l.take i).map numS).map V.str/\H'=L2.upd H1 D (.lst zs)) ?_ ?_ ?_ ?_
 ·intro D hD
  exact⟨hm,rfl,rfl⟩
 ·rintro D i σ' H' zs hD ⟨_,rfl,rfl⟩
  refine⟨by rw[jG (jD ha hD)]; exact ha,j8,?_⟩
  rw[af,af,bb]
  omega
 ·rintro D i σ' H' zs x hD hi ⟨hs,rfl,rfl⟩
  have hi':i<l.length:=by
   have:=(aV.mp hi).1
   rwa [af] at this
  rw[getI' hi'] at hi
  cases hi
  obtain⟨b0,b1⟩:=hl.bnd _ (jHJ hi')
  match σ',hs with
  | [v0],_=>
   dsimp only [yF,qT]
   rw[aA rfl]
   refine⟨_,rfl,_,rfl,jBL (hl.bd _ (jHJ hi')),j8,rfl,?_,jAC⟩
   rw[jIO hi',aS,aS]
   rfl
 ·rintro D σ' H' zs hD ⟨_,rfl,rfl⟩
  rw[show (l.map V.int).length=l.length from af _,bX]
  exact q D hD
noncomputable abbrev nLawW:List Str:=["box","text","things","weight"]
theorem scLawW:FnScope nLawW ["box"] (j9 qS):=⟨rfl,rfl,rfl,by decide+kernel,rfl,by decide+kernel,by decide+kernel⟩
def jCW:Sp:=fun vs H Q _=>∃ (b:Addr) (w:Int) (ms:List Int) (pcs:List (List Int×Int)),vs=[.ref b]/\BoxAt H b w ms pcs/\WB w ms pcs/\∀ H',Ext H H'->Q (.str (yI w ms pcs)) H'
def lawWB (T:Txt mg)(hr:Room 0 (XOf nLawW "_law_written" qS P w K mg base f cdv A outer s H0 E).A): { t:TS // JSs (XOf nLawW "_law_written" qS P w K mg base f cdv A outer s H0 E) ((jE qS).drop 2) t} :=
 have nd:=scLawW.nd
 ⟨_,(jA (jDU cL rfl (jD8 (jW kY (jv 0 rfl vL) (jC) jJ)) (jMO (i:=2) (j:=3) nd rfl rfl (by decide+kernel) (by decide+kernel)) (jF (jR (i:=1) nd rfl lL (kQ kS (kQ kS (kQ kS (kQ kS (jv 1 rfl vL) (jM)) (qY aU dS dU jGI (jM) (j4 (yZ (m:=[none]) (Nc:=["one"]) rfl (jD8 (jv 2 rfl vL)) rfl (by decide+kernel) (by decide+kernel) (yN (psc:=j9 qS) (by decide+kernel)) (kZ (N:=nLawW) rfl rfl (by decide+kernel)) (fun cl C fp s H=>kU (i:=0) (show (["one"]:List Str).Nodup by decide+kernel) rfl (xB (by decide+kernel))) (fun cl C fp s H=>qG) (fun cl C fp s H=>(kL jA2 (gl_b (by decide+kernel)) T.str (by decide+kernel) (j4 (jv 0 rfl (yR (by decide+kernel))) j7 j6) j6)) jBF) j7 kW) kW)) (jM)) (kL jA2 gD T.str (by decide+kernel) (j4 (jv 3 rfl vL) j7 j6) j6)) qU)) jNS)
   (jF (jN (jv 1 rfl vL))))⟩
def lawWA (T:Txt mg)(hr:Room 0 (XOf nLawW "_law_written" qS P w K mg base f cdv A outer s H0 E).A): { t:TS // JSs (XOf nLawW "_law_written" qS P w K mg base f cdv A outer s H0 E) (jE qS) t} :=
 have nd:=scLawW.nd
 ⟨_,(jA (jR (i:=1) nd rfl lL (kQ kS (jM) (kL jA2 gD T.str (by decide+kernel) (j4 (jW kY (jv 0 rfl vL) (jC) jJ) j7 jO) jO)) qU) (jA (jZ (jI (jOX hr.units0) (jW kY (jv 0 rfl vL) (jC) jJ) (y8 j7) (jK _)) (jF (jR (i:=1) nd rfl lL (kQ kS (kQ kS (jv 1 rfl vL) (jM)) (qY aU dS dU jGI (jM) (j4 (yZ (m:=[none]) (Nc:=["one"]) rfl (jD8 (jW kY (jv 0 rfl vL) (jC) jJ)) rfl (by decide+kernel) (by decide+kernel) (yN (psc:=j9 qS) (by decide+kernel)) (kZ (N:=nLawW) rfl rfl (by decide+kernel)) (fun cl C fp s H=>kU (i:=0) (show (["one"]:List Str).Nodup by decide+kernel) rfl (xB (by decide+kernel))) (fun cl C fp s H=>qG) (fun cl C fp s H=>(kL jA2 (gl_b (by decide+kernel)) T.str (by decide+kernel) (j4 (jv 0 rfl (yR (by decide+kernel))) j7 j6) j6)) jNS) j7 kW) kW)) qU)) jL) (lawWB T hr).2))⟩
theorem jDT (T:Txt mg)(hr:Room 0 (XOf nLawW "_law_written" qS P w K mg base f cdv A outer s H0 E).A)
  {D:Ends}{H:Hp}{b:Addr}{w:Int}{ms:List Int}{pcs:List (List Int×Int)}{v2 v3:Option V}{hd:PySem.Str}(hh:hd=headS w ms) (hB:BoxAt H b w ms pcs) (g:WB w ms pcs) (q:∀ H',Ext H H'->D.rt (.str (yI w ms pcs)) H'):
  (lawWB T hr).1 D [some (.ref b),some (.str hd),v2,v3] H:=by
 subst hh
 obtain⟨qm,qp,ps,b1,b2,b3,b4⟩:=hB.ex
 have pl:=b4.len
 have gl:=g.n
 refine⟨_,rfl,b,_,2,_,rfl,rfl,SqT.of b1,rfl,qp,rfl,⟨_,SqT.of b3⟩,jKV (xs:=ps) (fun i σ H'=>(∃ v2 v3,σ=[some (.ref b),some (.str (yI w ms (pcs.take i))),v2,v3])/\Ext H H') ⟨⟨_,_,rfl⟩,Ext.refl _⟩ (fun i σ H' _ ⟨_,e⟩=>SqT.of (e _ _ b3)) ?_ ?_⟩
 ·rintro i x σ H1 hi ⟨⟨v2,v3,rfl⟩,e⟩
  obtain⟨pc,hpc,pa,pq,rfl,c1,c2⟩:=b4.at hi
  have gp:=g.p pc (bq hpc)
  have gb:=(g.pb pc (bq hpc)).1
  have nn:=gp.1
  have h1:=nn.joined
  have h3:=jFC gb
  have h4:=jDZ (g.take i)
  have hs:=nn.sum
  refine⟨pa,_,rfl,SqT.of (e _ _ c1),rfl,_,_,rfl,_,_,rfl,rfl,?_⟩
  refine⟨_,rfl,_,_,rfl,rfl,by rw[jFE,ai]; omega,rfl,_,rfl,pq,rfl,⟨_,SqT.of (e _ _ c2)⟩,jEZ (e _ _ c2) nn rfl fun D' hD=>?_⟩
  refine⟨_,D',pc.1.map numS,rfl,rfl,j8,by rw[ai]; omega,by rw[ai]; exact aO h1 (by decide),?_⟩
  refine⟨_,_,rfl,rfl,?_,_,_,rfl,rfl,?_,_,rfl,pc.2,rfl,jBL gb,_,_,rfl,rfl,?_,?_⟩
  ·rw[aE,jFE,ai]
   show (yI w ms (pcs.take i)).length+1+(yP pc.1).length<=_
   omega
  ·rw[aE,aE,jFE,jNW,ai]
   show (yI w ms (pcs.take i)).length+1+(yP pc.1).length+1<=_
   omega
  ·rw[aE,aE,aE,jFE,jNW,ai]
   show (yI w ms (pcs.take i)).length+1+(yP pc.1).length+1+(numS pc.2).length<=_
   omega
  ·have et:pcs.take (i+1)=pcs.take i++[pc]:=by
    rw[cT,hpc]
    rfl
   have ee:yI w ms (pcs.take i)++((("\n" :String):PySem.Str))++yP pc.1++(((" " :String):PySem.Str))++numS pc.2=yI w ms (pcs.take (i+1)):=by
    rw[et,jIM]
    unfold rowS
    simp only [dM]
   refine⟨⟨some (.ref pq),some (.int pc.2),?_⟩,e.new hD _⟩
   rw[<- ee]
   rfl
 ·rintro σ H1 ⟨⟨v2,v3,rfl⟩,e⟩
  rw[pl,bX]
  exact⟨_,rfl,q H1 e⟩
theorem jP5 {fd:FuncData}(F:Fun K "_law_written" "_law_written" qS f fd)(T:Txt mg):FnOk P w K mg base CX0 1 f fd ["box"] jCW:=by
 refine F.ok scLawW (fun vs H Q E h=>?_) (fun cdv A outer s H vs Q E hr h=>?_)
 ·obtain⟨_,_,_,_,rfl,_⟩:=h
  rfl
 ·obtain⟨b,w,ms,pcs,rfl,hB,g,q⟩:=h
  have hB0:=hB
  obtain⟨qm,qp,ps,b1,b2,b3,b4⟩:=hB.ex
  have w0:=g.w0
  have w1:=g.w1
  have nm:=g.m
  have hnw:=jBS (i:=w) w0 w1
  have hnm:=nm.joined
  have hsm:=nm.sum
  have e7:((("things " :String):PySem.Str)).length=7:=by decide+kernel
  have e5:(((" may " :String):PySem.Str)).length=5:=by decide+kernel
  refine⟨_,(lawWA T hr).2.h,?_⟩
  refine⟨_,rfl,b,_,0,_,rfl,rfl,SqT.of b1,rfl,w,rfl,jBL ⟨by omega,by omega⟩,_,_,rfl,rfl,?_,?_⟩
  ·rw[e7,ai]
   show 7+(numS w).length<=_
   omega
  refine⟨_,rfl,b,_,1,_,rfl,rfl,SqT.of b1,rfl,(by show 0<=sizeLine; exact aJ _),fun z H1 uz x1=>⟨qm,z,_,rfl,rfl,x1 _ _ b2,uz,_,rfl,?_⟩⟩
  have B1:=x1 _ _ b1
  have B2:=x1 _ _ b2
  have hB1:BoxAt H1 b w ms pcs:=hB0.mono fun b xs h=>x1 b _ h
  refine ite2 (fun h=>?_) (fun h=>?_)
  ·have hne:ms≠ []:=fun e=>by subst e; exact absurd h (by decide)
   refine⟨_,rfl,_,_,rfl,rfl,?_,rfl,_,rfl,b,_,1,_,rfl,rfl,SqT.of B1,rfl,qm,rfl,⟨_,SqT.of B2⟩,jEZ B2 nm rfl fun D' hD=>?_⟩
   ·rw[aE,e7,e5,ai]
    show 7+(numS w).length+5<=_
    omega
   refine⟨_,D',ms.map numS,rfl,rfl,j8,by rw[ai]; omega,by rw[ai]; exact aO hnm (by decide),?_⟩
   refine⟨_,_,rfl,rfl,?_,?_⟩
   ·rw[aE,aE,e7,e5,ai]
    show 7+(numS w).length+5+(yP ms).length<=_
    omega
   ·have eh:((("things " :String):PySem.Str))++numS w++(((" may " :String):PySem.Str))++yP ms=headS w ms:=by
     unfold headS
     rw[aB hne]
    have x2:Ext H1 (L2.upd H1 D' (.lst ((ms.map numS).map V.str))):=(Ext.refl _).new hD _
    exact jDT T hr eh (hB1.mono fun b xs h=>x2 b _ h) g fun H' e'=>q H' ((x1.trans x2).trans e')
  ·have hne:ms=[]:=by
    have:decide (ms.map V.int=[])=true:=by simpa using h
    exact bV.mp (aj this)
   have eh:((("things " :String):PySem.Str))++numS w=headS w ms:=by
    unfold headS
    rw[aA hne]
   exact jDT T hr eh hB1 g fun H' e'=>q H' (x1.trans e')
end
end Eo
end
section
namespace Eo
open PySem L2
def pcT (pc:List Int×Int):Tr:= .tup [.tup (pc.1.map Tr.int), .int pc.2]
def boxT (w:Int)(ms:List Int)(pcs:List (List Int×Int)):Tr:= .tup [.int w, .tup (ms.map Tr.int), .tup (pcs.map pcT)]
theorem jKP {H:Hp} :∀ l:List Int,TsAt H (l.map Tr.int) (l.map V.int)
 | []=>rfl
 | i::r=>⟨.int i,_,rfl,rfl,jKP r⟩
theorem pcs_T {H:Hp} :∀ {vs:List V}{pcs:List (List Int×Int)},PcsAt H vs pcs->TsAt H (pcs.map pcT) vs
 | [],[],_=>rfl
 | v::vs,p::ps,h=>by
  obtain⟨a,q,e,h1,h2⟩:=h.1
  exact⟨v,vs,rfl,⟨a,_,e,h1, .ref q,_,rfl,⟨q,_,rfl,h2,jKP _⟩, .int p.2,[],rfl,rfl,rfl⟩,pcs_T h.2⟩
 | [],_::_,h=>h.elim
 | _::_,[],h=>h.elim
theorem box_T {H:Hp}{b:Addr}{w:Int}{ms:List Int}{pcs:List (List Int×Int)}(h:BoxAt H b w ms pcs):TAt H (boxT w ms pcs) (.ref b):=by
 obtain⟨qm,qp,ps,b1,b2,b3,b4⟩:=h.ex
 exact⟨b,_,rfl,b1, .int w,_,rfl,rfl, .ref qm,_,rfl,⟨qm,_,rfl,b2,jKP _⟩, .ref qp,[],rfl,⟨qp,_,rfl,b3,pcs_T b4⟩,rfl⟩
theorem jDE:∀ l:List Int,deps (l.map Tr.int)=0
 | []=>by simp [deps]
 | i::r=>by simp [deps,dep,jDE r]
theorem jHK:∀ l:List (List Int×Int),deps (l.map pcT)<=2
 | []=>by simp [deps]
 | p::r=>by
  have:=jHK r
  simp only [bi,deps,pcT,dep,jDE]
  omega
theorem jLF (w:Int)(ms:List Int)(pcs:List (List Int×Int)):dep (boxT w ms pcs)<=4:=by
 have:=jHK pcs
 simp only [boxT,dep,deps,jDE]
 omega
end Eo
end
section
namespace L2
mutual
def wid:Tr->Nat
 | .lst ts=>max ts.length (wids ts)
 | .tup ts=>max ts.length (wids ts)
 | _=>0
def wids:List Tr->Nat
 | []=>0
 | t::ts=>max (wid t) (wids ts)
end
theorem jNX {ts:List Tr}{t:Tr}(h:t∈ts):wid t<=wids ts:=by
 induction ts with
 | nil=>cases h
 | cons a r ih=>
  rw[wids]
  rcases av.mp h with q | q
  ·subst q; omega
  ·have:=ih q; omega
end L2
namespace Eo
open PySem L2
noncomputable abbrev nSame:List Str:=["found","due"]
theorem scSame:FnScope nSame ["found","due"] (j9 xD):=⟨rfl,rfl,rfl,by decide+kernel,rfl,by decide+kernel,by decide+kernel⟩
section
variable {P:Program}{w:World}{K:W.Frag}{mg:Str->Option Value}{base:Heap}
def jCX:Sp:=fun vs H Q _=>∃ i:Int,vs=[.int i]/\Q (.bl true) H
theorem jNY {f:Addr}{fd:FuncData}(F:FnOk P w K mg base CX0 1 f fd ["found"] spWh):FnOk P w K mg base CX0 1 f fd ["found"] jCX:=F.imp fun vs H Q E ⟨i,e,q⟩=>⟨.int i, .int i,e,jDJ _ _,q⟩
def sameA {k:Nat}{spS:Sp}{f fW fS:Addr}{fdW fdS:FuncData}{cdv:Value}{A:Around}{outer:List Env}{s:Shared}{H:Hp}{E:XK}(T:Txt mg)(CW:Can P w K mg base "_law_whole" 1 fW fdW ["found"] jCX)(CS:Can P w K mg base "_law_same" (k+1) fS fdS ["found","due"] spS)
  (hr:Room (k+1) (XOf nSame "_law_same" xD P w K mg base f cdv A outer s H E).A): { t:TS // JSs (XOf nSame "_law_same" xD P w K mg base f cdv A outer s H E) (jE xD) t} :=
 have nd:=scSame.nd
 ⟨_,(jA (jZ (jI jCF (jv 1 rfl vL) (yA) (jK _)) (jF (jN (yV jCF (jv 0 rfl vL) (yA) (jK _)))) jL)
   (jA (jZ (kI (jH jQ gD T.isinstance (by decide+kernel) (j4 (jv 1 rfl vL) (j4 (kO (v:= .ty "bool") gD T.bool (by decide+kernel) rfl) j7 j6) j6) j6) jY) (jF (jN ((qM (jH jQ gD T.isinstance (by decide+kernel) (j4 (jv 0 rfl vL) (j4 (kO (v:= .ty "bool") gD T.bool (by decide+kernel) rfl) j7 j6) j6) j6) (qL (yV yB (jv 0 rfl vL) (jv 1 rfl vL) (jK _))))))) jL)
   (jA (jZ (kI (jH jQ gD T.isinstance (by decide+kernel) (j4 (jv 1 rfl vL) (j4 (kO (v:= .ty "int") gD T.int (by decide+kernel) rfl) j7 j6) j6) j6) jY) (jF (jN ((qM (CW.je (hr.mono (by omega)) gD (j4 (jv 0 rfl vL) j7 j6) j6) (qL (yV yB (jv 0 rfl vL) (jv 1 rfl vL) (jK _))))))) jL)
   (jA (jZ (kI (jH jQ gD T.isinstance (by decide+kernel) (j4 (jv 1 rfl vL) (j4 (kO (v:= .ty "str") gD T.str (by decide+kernel) rfl) j7 j6) j6) j6) jY) (jF (jN ((qM (jH jQ gD T.isinstance (by decide+kernel) (j4 (jv 0 rfl vL) (j4 (kO (v:= .ty "str") gD T.str (by decide+kernel) rfl) j7 j6) j6) j6) (qL (yV yB (jv 0 rfl vL) (jv 1 rfl vL) (jK _))))))) jL)
   (jA (jZ (jt_w (yJ (jI xF (jH jQ gD T.isinstance (by decide+kernel) (j4 (jv 1 rfl vL) (j4 (kO (v:= .ty "tuple") gD T.tuple (by decide+kernel) rfl) j7 j6) j6) j6) (jH jQ gD T.isinstance (by decide+kernel) (j4 (jv 0 rfl vL) (j4 (kO (v:= .ty "tuple") gD T.tuple (by decide+kernel) rfl) j7 j6) j6) j6) (jK _)) (yL (jI xF (jH jQ gD T.isinstance (by decide+kernel) (j4 (jv 1 rfl vL) (j4 (kO (v:= .ty "list") gD T.list (by decide+kernel) rfl) j7 j6) j6) j6) (jH jQ gD T.isinstance (by decide+kernel) (j4 (jv 0 rfl vL) (j4 (kO (v:= .ty "list") gD T.list (by decide+kernel) rfl) j7 j6) j6) j6) (jK _))))) (jF (jN (qO))) jL)
   (jF (jN ((qM (yV yB (jH jP gD T.len (by decide+kernel) (j4 (jv 0 rfl vL) j7 j6) j6) (jH jP gD T.len (by decide+kernel) (j4 (jv 1 rfl vL) j7 j6) j6) (jK _)) (qL (jH (jAA rfl) gD T.all (by decide+kernel) (j4 (yZ (m:=[none,none]) (Nc:=["one","other"]) rfl (jNO gD T.zip (j4 (jv 0 rfl vL) (j4 (jv 1 rfl vL) j7 j6) j6) j6) rfl (by decide+kernel) (by decide+kernel) (yN (psc:=j9 xD) (by decide+kernel)) (kZ (N:=nSame) rfl rfl (by decide+kernel)) (fun cl C fp s H=>jFM (i:=0) (j:=1) rfl (show (["one","other"]:List Str).Nodup by decide+kernel) rfl rfl (by decide+kernel) (by decide+kernel)) (fun cl C fp s H=>qG) (fun cl C fp s H=>(CS.je hr (gl_b (by decide+kernel)) (j4 (jv 0 rfl (yR (by decide+kernel))) (j4 (jv 1 rfl (yR (by decide+kernel))) j7 j6) j6) j6)) jAI) j7 kW) kW)))))))))))⟩
def spNo:Sp:=fun _ _ _ _=>False
theorem ok_no {k:Nat}{f:Addr}{fd:FuncData}{ps:List Str} :FnOk P w K mg base CX0 k f fd ps spNo:=⟨fun _ _ _ _ h=>h.elim,fun _ _ _ _ _ _ _ _ _ _ _ _ _ h=>h.elim⟩
def jCY (d:Nat):Sp:=fun vs H Q _=>∃ (x y:V) (t:Tr),vs=[x,y]/\TAt H t x/\TAt H t y/\dep t<=d/\wid t<=1000000/\∀ H',Ext H H'->Q (.bl true) H'
def jN8:Nat->Sp
 | 0=>spNo
 | d+1=>jCY d
theorem jN7 (n:Nat):(replicate n true).all id=true:=by
 induction n with
 | zero=>rfl
 | succ n ih=>rw[List.replicate_succ,dn,ih]; rfl
theorem jGX (d:Nat)(tp:Bool){H:Hp}{p q:Addr}{ts:List Tr}{vs ws:List V}{Q:VK}
  (hp:Sq tp K H p vs) (hq:Sq tp K H q ws) (ex:∀ H',Ext H H'->Sq tp K H' p vs/\Sq tp K H' q ws) (h1:TsAt H ts vs) (h2:TsAt H ts ws) (hd:deps ts<d) (hw:ts.length<=1000000) (hws:wids ts<=1000000) (k:∀ H',Ext H H'->Q (.bl true) H') {m:List (Option Nat)}{σ:St}
  (hm:m=[none,none]):
  CompW m (gTup K 2 (xH (yF 0) (xH (yF 1) gNil))) qT (tCall (jN8 d) [] E0 (tCons (tVar 0) (tCons (tVar 1) tNil))) σ (fun x H1=>∃ (p:Addr) (bs:List Bool),[x]=[.ref p]/\SqL K H1 p (bs.map V.bl)/\Q (.bl (bs.all id)) H1) (Itz tp tp K p q) H:=by
 subst hm
 have l1:=h1.len
 have l2:=h2.len
 refine jHL (xs:=vs) (ys:=ws) (by rw[ai]; omega) (fun D i σ' H' zs=>(∃ v1 v2,σ'=[v1,v2])/\zs=(replicate i true).map V.bl/\Ext H H'/\H' D=some (.lst zs)/\H D=none) ?_ ?_ ?_ ?_
 ·intro D hD
  exact⟨⟨_,_,rfl⟩,rfl,(Ext.refl H).new hD _,j8,hD⟩
 ·rintro D i σ' H' zs hD ⟨_,rfl,e,e2,_⟩
  obtain⟨q1,q2⟩:=ex H' e
  refine⟨q1,q2,e2,?_⟩
  rw[af,gB]
  exact ao _
 ·rintro D i σ' H' zs x y t hD hx hy ht ⟨⟨v1,v2,rfl⟩,rfl,e,e2,hn⟩
  obtain⟨u,hu,hxu⟩:=h1.get hx
  obtain⟨u',hu',hyu⟩:=h2.get hy
  rw[hu] at hu'
  cases hu'
  have tD:D≠t:=jD e2 ht
  have hmem:=bq hu
  have e3:Ext H (upd H' t (.tup [x,y])):=e.new ht _
  refine⟨t,_,rfl,SqT.of j8,rfl,_,_,rfl,_,_,rfl,rfl,?_⟩
  dsimp only [yF,qT]
  rw[aA rfl]
  cases d with
  | zero=>omega
  | succ d=>
   refine⟨_,rfl,_,rfl,x,y,u,rfl,hxu.ext e3,hyu.ext e3,by have:=jEL hmem; omega,by have:=jNX hmem; omega,fun H4 e4=>⟨e4 _ _ (by rw[jG tD]; exact e2),⟨_,_,rfl⟩,?_,(e3.trans e4).updNew hn _,j8,hn⟩⟩
   rw[List.replicate_succ',aS]
   rfl
 ·rintro D σ' H' zs hD ⟨_,rfl,e,e2,hn⟩
  refine⟨D,_,rfl,SqL.of e2,?_⟩
  rw[jN7]
  exact k H' e
theorem jF5 {f fW:Addr}{fd fdW:FuncData}(d:Nat)(F:Fun K "_law_same" "_law_same" xD f fd)(T:Txt mg)(CW:Can P w K mg base "_law_whole" 1 fW fdW ["found"] jCX)(CS:Can P w K mg base "_law_same" (d+1) f fd ["found","due"] (jN8 d)):
  FnOk P w K mg base CX0 (d+2) f fd ["found","due"] (jCY d):=by
 refine F.ok scSame (fun vs H Q E h=>?_) (fun cdv A outer s H vs Q E hr h=>?_)
 ·obtain⟨_,_,_,rfl,_⟩:=h
  rfl
 ·obtain⟨x,y,t,rfl,hx,hy,hd,hw,k⟩:=h
  refine⟨_,(sameA T CW CS hr).2.h,?_⟩
  have k0:=k H (Ext.refl H)
  cases t with
  | non=>
   cases (show x= .non from hx)
   cases (show y= .non from hy)
   exact⟨_,rfl,rfl,_,rfl,iteT ⟨_,rfl,rfl,k0⟩⟩
  | bl b=>
   cases (show x= .bl b from hx)
   cases (show y= .bl b from hy)
   refine⟨_,rfl,rfl,_,rfl,iteF ?_⟩
   refine⟨_,rfl,_,_,_,true,rfl, .bl b,rfl,true,rfl,iteT ?_⟩
   refine⟨_,rfl,_,_,_,true,rfl, .bl b,rfl,true,rfl,iteT ⟨_,rfl,_,rfl,rfl,?_⟩⟩
   show Q (.bl (decide (V.bl b=V.bl b))) H
   rw[ah rfl]
   exact k0
  | int i=>
   cases (show x= .int i from hx)
   cases (show y= .int i from hy)
   refine⟨_,rfl,rfl,_,rfl,iteF ?_⟩
   refine⟨_,rfl,_,_,_,false,rfl, .int i,rfl,false,rfl,iteF ?_⟩
   refine⟨_,rfl,_,_,_,true,rfl, .int i,rfl,true,rfl,iteT ?_⟩
   refine⟨_,rfl,_,rfl,true,rfl,iteT ⟨_,rfl,_,rfl,rfl,?_⟩⟩
   show Q (.bl (decide (V.int i=V.int i))) H
   rw[ah rfl]
   exact k0
  | str z=>
   cases (show x= .str z from hx)
   cases (show y= .str z from hy)
   refine⟨_,rfl,rfl,_,rfl,iteF ?_⟩
   refine⟨_,rfl,_,_,_,false,rfl, .str z,rfl,false,rfl,iteF ?_⟩
   refine⟨_,rfl,_,_,_,false,rfl, .str z,rfl,false,rfl,iteF ?_⟩
   refine⟨_,rfl,_,_,_,true,rfl, .str z,rfl,true,rfl,iteT ?_⟩
   refine⟨_,rfl,_,_,_,true,rfl, .str z,rfl,true,rfl,iteT ⟨_,rfl,_,rfl,rfl,?_⟩⟩
   show Q (.bl (decide (V.str z=V.str z))) H
   rw[ah rfl]
   exact k0
  | lst ts=>
   obtain⟨p,vs,rfl,hp,h1⟩:=hx
   obtain⟨q,ws,rfl,hq,h2⟩:=hy
   rw[dep] at hd
   rw[wid] at hw
   refine⟨_,rfl,rfl,_,rfl,iteF ?_⟩
   refine⟨_,rfl,_,_,_,false,rfl, .lst hq,rfl,false,rfl,iteF ?_⟩
   refine⟨_,rfl,_,_,_,false,rfl, .lst hq,rfl,false,rfl,iteF ?_⟩
   refine⟨_,rfl,_,_,_,false,rfl, .lst hq,rfl,false,rfl,iteF ?_⟩
   refine⟨_,rfl,_,_,_,false,rfl, .lst hq,rfl,_,rfl,_,_,_,false,rfl, .lst hp,rfl,rfl,_,rfl,iteF ?_⟩
   refine⟨_,rfl,_,_,_,true,rfl, .lst hq,rfl,_,rfl,_,_,_,true,rfl, .lst hp,rfl,rfl,_,rfl,iteF ?_⟩
   refine⟨_,rfl,p,_,rfl, .inl (SqL.of hp),_,rfl,q,_,rfl, .inl (SqL.of hq),rfl,_,rfl,?_⟩
   rw[show (vs.length:Int)=(ws.length:Int) by rw[h1.len,h2.len],ah rfl]
   refine iteT ⟨_,rfl,_,rfl,false,false,p,q,rfl,⟨_,SqL.of hp⟩,⟨_,SqL.of hq⟩,?_⟩
   exact jGX d false (SqL.of hp) (SqL.of hq) (fun H' e=>⟨SqL.of (e _ _ hp),SqL.of (e _ _ hq)⟩) h1 h2 (by omega) (by omega) (by omega) k rfl
  | tup ts=>
   obtain⟨p,vs,rfl,hp,h1⟩:=hx
   obtain⟨q,ws,rfl,hq,h2⟩:=hy
   rw[dep] at hd
   rw[wid] at hw
   refine⟨_,rfl,rfl,_,rfl,iteF ?_⟩
   refine⟨_,rfl,_,_,_,false,rfl, .tup hq,rfl,false,rfl,iteF ?_⟩
   refine⟨_,rfl,_,_,_,false,rfl, .tup hq,rfl,false,rfl,iteF ?_⟩
   refine⟨_,rfl,_,_,_,false,rfl, .tup hq,rfl,false,rfl,iteF ?_⟩
   refine⟨_,rfl,_,_,_,true,rfl, .tup hq,rfl,_,rfl,_,_,_,true,rfl, .tup hp,rfl,rfl,_,rfl,iteF ?_⟩
   refine⟨_,rfl,_,_,_,false,rfl, .tup hq,rfl,_,rfl,_,_,_,false,rfl, .tup hp,rfl,rfl,_,rfl,iteF ?_⟩
   refine⟨_,rfl,p,_,rfl, .inr (SqT.of hp),_,rfl,q,_,rfl, .inr (SqT.of hq),rfl,_,rfl,?_⟩
   rw[show (vs.length:Int)=(ws.length:Int) by rw[h1.len,h2.len],ah rfl]
   refine iteT ⟨_,rfl,_,rfl,true,true,p,q,rfl,⟨_,SqT.of hp⟩,⟨_,SqT.of hq⟩,?_⟩
   exact jGX d true (SqT.of hp) (SqT.of hq) (fun H' e=>⟨SqT.of (e _ _ hp),SqT.of (e _ _ hq)⟩) h1 h2 (by omega) (by omega) (by omega) k rfl
theorem jH6 {f fW:Addr}{fd fdW:FuncData}(F:Fun K "_law_same" "_law_same" xD f fd)(T:Txt mg)(CW:Can P w K mg base "_law_whole" 1 fW fdW ["found"] jCX)(hm:mg "_law_same" =some (.ref f))(kp:keepIn K (.ref f)=true)(hb:Binds K fd ["found","due"] []):
  ∀ d:Nat,FnOk P w K mg base CX0 (d+2) f fd ["found","due"] (jCY d)
 | 0=>jF5 0 F T CW ⟨ok_no,hm,kp,hb⟩
 | d+1=>jF5 (d+1) F T CW ⟨jH6 F T CW hm kp hb d,hm,kp,hb⟩
end
end Eo
end
section
namespace Eo
open PySem L2 Tx
theorem _root_.L2.Ext.tups {H H':Hp}(e:Ext H H'):Tups H H':=fun b xs h=>e b _ h
theorem jG3 {z:PySem.Str}{n:Nat}(h:∀ k,128<=k->k∉z.cps.toList)(l:z.length<=n)(hn:n<=20000):Asc z:=by
 refine⟨?_,aO l hn⟩
 rw[<- dc,aD]
 intro k hk
 refine ah ?_
 exact Nat.lt_of_not_le fun q=>h k q hk
theorem jBX {z:PySem.Str}(h:z.cps.all (· <128)=true):∀ k,128<=k->k∉z.cps.toList:=fun k hk q=>by
 rw[<- dc,aD] at h
 have:=aj (h k q)
 omega
theorem jE7 (i:Int):∀ k,128<=k->k∉(numS i).cps.toList:=fun k hk=>jB1 ⟨by omega,by omega⟩
theorem jH8 (l:List Int):∀ k,128<=k->k∉(yP l).cps.toList:=fun k hk=>jBR ⟨by omega,by omega⟩ (by omega)
theorem jBJ {a b:PySem.Str}(ha:∀ k,128<=k->k∉a.cps.toList)(hb:∀ k,128<=k->k∉b.cps.toList):∀ k,128<=k->k∉(a++b).cps.toList:=fun k hk q=>by
 rcases jBI q with q | q
 ·exact ha k hk q
 ·exact hb k hk q
theorem jGA (pc:List Int×Int):∀ k,128<=k->k∉(rowS pc).cps.toList:=
 jBJ (jBJ (jH8 _) (jBX (by decide+kernel))) (jE7 _)
theorem jEF (w:Int)(ms:List Int):∀ k,128<=k->k∉(headS w ms).cps.toList:=by
 unfold headS
 split
 ·exact jBJ (jBX (by decide+kernel)) (jE7 _)
 ·exact jBJ (jBJ (jBJ (jBX (by decide+kernel)) (jE7 _)) (jBX (by decide+kernel))) (jH8 _)
theorem jLW (w:Int)(ms:List Int)(pcs:List (List Int×Int)):∀ k,128<=k->k∉(yI w ms pcs).cps.toList:=fun k hk q=>by
 unfold yI at q
 rw[jAS,yH] at q
 rcases jHF q with e | ⟨a,ha,e⟩
 ·omega
 ·obtain⟨s,hs,rfl⟩:=aP.mp ha
  rcases av.mp hs with e' | hs
  ·rw[e'] at e
   exact jEF _ _ k hk e
  ·obtain⟨pc,_,rfl⟩:=aP.mp hs
   exact jGA pc k hk e
theorem WB.txt {w:Int}{ms:List Int}{pcs:List (List Int×Int)}(g:WB w ms pcs):TxtOk (yI w ms pcs):=by
 refine⟨jG3 (jLW w ms pcs) (jDZ g) (by decide),fun r hr=>?_⟩
 have hr:r∈Txt.split (yI w ms pcs) (("\n" :String):PySem.Str):=hr
 rw[jC0] at hr
 rcases av.mp hr with e | hs
 ·rw[e]
  have:=jEE g.w0 g.w1 g.m
  exact⟨jG3 (jEF w ms) this (by decide),aO this (by decide)⟩
 ·obtain⟨pc,hp,rfl⟩:=aP.mp hs
  have:=jG9 (g.p pc hp).1 (g.pb pc hp).1
  exact⟨jG3 (jGA pc) this (by decide),aO this (by decide)⟩
theorem jEQ (l:List Int):wids (l.map Tr.int)=0:=by
 induction l with
 | nil=>rfl
 | cons a l ih=>rw[bi,wids,ih]; rfl
theorem jGS {B:Nat} :∀ {l:List (List Int×Int)},(∀ x∈l,x.1.length<=B)->2<=B->wids (l.map pcT)<=B
 | [],_,_=>by simp [wids]
 | x::l,h,b=>by
  rw[bi,wids]
  have e:wid (pcT x)=max 2 (max (max x.1.length 0) (max 0 0)):=by
   unfold pcT
   rw[wid,wids,wid,af,jEQ,wids,show wid (.int x.2)=0 from rfl,wids]
   rfl
  have:=h x (am ..)
  have:=jGS (l:=l) (fun y hy=>h y (ar _ hy)) b
  omega
theorem WB.widB {w:Int}{ms:List Int}{pcs:List (List Int×Int)}(g:WB w ms pcs):L2.wid (boxT w ms pcs)<=1000000:=by
 have pl:=g.n
 have ml:=g.m.len
 have pw:=jGS (B:=17) (l:=pcs) (fun x hx=>(g.p x hx).1.len) (by decide)
 unfold boxT
 rw[L2.wid,wids,show L2.wid (.int w)=0 from rfl,wids,L2.wid,af,jEQ,wids,L2.wid,af,wids]
 show max 3 _<=_
 omega
end Eo
end
section
namespace Tx
open PySem PyProof.Rows PySem.NumText PySem.Builtin.Str
theorem jNB (x:PySem.Str)(l u:Option Int):(Txt.slice x l u).length<=(strSliceIndices l u 1 x.length).length:=by
 unfold Txt.slice
 split
 ·rename_i h
  have h:((strSliceIndices l u 1 x.length).length==x.length)=true:=by simpa using h
  exact Nat.le_of_eq (gk.mp h).symm
 ·show (List.filterMap _ (strSliceIndices l u 1 x.length)).toArray.size<=_
  rw[ak]
  exact List.length_filterMap_le _ _
theorem jNA {x:PySem.Str}{l u:Option Int}{k:Nat}(h:k∈(Txt.slice x l u).cps.toList):k∈x.cps.toList:=by
 unfold Txt.slice at h
 split at h
 ·exact h
 ·have h:k∈(List.filterMap (x.cps[·]?) (strSliceIndices l u 1 x.length)).toArray.toList:=h
  rw[List.toList_toArray] at h
  obtain⟨i,_,hi⟩:=fg.mp h
  exact gG.mpr (dR hi)
theorem sl_to (n:Nat){j:Int}(h:0<=j):(strSliceIndices none (some j) 1 n).length<=j.toNat:=by
 unfold strSliceIndices sliceRange
 simp only [show (1:Int)>0 by decide,ef,af,cR]
 split <;> (try split) <;> (try split) <;> (try simp only [g7]) <;> omega
theorem sl_fr (n:Nat){j:Int}(h:0<=j):(strSliceIndices (some j) none 1 n).length<=n - j.toNat:=by
 unfold strSliceIndices sliceRange
 simp only [show (1:Int)>0 by decide,ef,af,cR]
 split <;> (try split) <;> (try split) <;> (try simp only [g7]) <;> omega
theorem jNN (c:Nat):∀ {A B:List (List Nat)},A≠ []->B≠ []->jl c (A++B)=jl c A++c::jl c B
 | [],_,h,_=>absurd rfl h
 | [a],b::r,_,_=>rfl
 | [a],[],_,h=>absurd rfl h
 | a::a'::r,B,_,hB=>by
  show a++c::jl c ((a'::r)++B)=(a++c::jl c (a'::r))++c::jl c B
  rw[jNN c (by simp) hB]
  simp
theorem jKH (c:Nat):∀ ss:List PySem.Str,jl c ((ss.flatMap fun s=>Txt.split s ⟨#[c]⟩).map (·.cps.toList))=jl c (ss.map (·.cps.toList))
 | []=>rfl
 | [a]=>by
  have e:=bn (fun s:PySem.Str=>s.cps.toList) (cI a ⟨#[c]⟩)
  simp only [yH] at e
  rw[dN,List.flatMap_nil,bL,e]; rfl
 | a::b::r=>by
  have e:=bn (fun s:PySem.Str=>s.cps.toList) (cI a ⟨#[c]⟩)
  simp only [yH] at e
  have p:=split_pos a ⟨#[c]⟩
  have p2:=split_pos b ⟨#[c]⟩
  rw[dN,aS,jNN c (fun q=>by rw[bV.mp q] at p; exact absurd p (by decide)) (fun q=>?_),e,jKH c (b::r)]
  ·rfl
  ·rw[bV,dN] at q
   rw[(gn.mp q).1] at p2
   exact absurd p2 (by decide)
theorem jF1 {c:Nat}{ss:List PySem.Str}(hne:ss≠ []):Txt.split (PySem.Str.join ⟨#[c]⟩ ss) ⟨#[c]⟩=ss.flatMap fun s=>Txt.split s ⟨#[c]⟩:=by
 have e:PySem.Str.join ⟨#[c]⟩ ss=PySem.Str.join ⟨#[c]⟩ (ss.flatMap fun s=>Txt.split s ⟨#[c]⟩):=by
  apply jBA
  rw[yH,yH,jKH]
 rw[e]
 refine jAK (fun q=>?_) (fun s hs=>?_)
 ·cases ss with
  | nil=>exact hne rfl
  | cons a r=>
   have p:=split_pos a ⟨#[c]⟩
   rw[dN] at q
   rw[(gn.mp q).1] at p
   exact absurd p (by decide)
 ·obtain⟨a,_,h⟩:=List.mem_flatMap.mp hs
  exact StrLaws.split_free a c s h
end Tx
namespace Eo
open PySem L2 Tx
def Sm (n:Nat)(z:PySem.Str):Prop:=(∀ k,128<=k->k∉z.cps.toList)/\z.length<=n
theorem Sm.mono {n m:Nat}{z:PySem.Str}(h:Sm n z)(l:n<=m):Sm m z:=⟨h.1,aO h.2 l⟩
theorem jBB (a b:PySem.Str):(a++b).length=a.length+b.length:=by
 rw[<- qA,<- qA,<- qA,cX,di,aI]
theorem Sm.app {n m:Nat}{a b:PySem.Str}(ha:Sm n a)(hb:Sm m b):Sm (n+m) (a++b):=⟨jBJ ha.1 hb.1,by rw[jBB]; exact Nat.add_le_add ha.2 hb.2⟩
theorem Sm.lit {n:Nat}{z:PySem.Str}(h:(z.cps.all (· <128)&&decide (z.length<=n))=true):Sm n z:=by
 rw[aL] at h
 exact⟨jBX h.1,aj h.2⟩
theorem Sm.to {n:Nat}{z:PySem.Str}(h:Sm n z){j:Int}(h0:0<=j):Sm j.toNat (Txt.slice z none (some j)):=⟨fun k hk q=>h.1 k hk (jNA q),aO (jNB _ _ _) (sl_to _ h0)⟩
theorem Sm.fr {n:Nat}{z:PySem.Str}(h:Sm n z){j:Int}(h0:0<=j):Sm (z.length - j.toNat) (Txt.slice z (some j) none):=⟨fun k hk q=>h.1 k hk (jNA q),aO (jNB _ _ _) (sl_fr _ h0)⟩
theorem Sm.asc {n:Nat}{z:PySem.Str}(h:Sm n z)(l:n<=20000):Asc z:=jG3 h.1 h.2 l
theorem Sm.size {n:Nat}{z:PySem.Str}(h:Sm n z)(l:n<=20000):z.length<=sizeLine:=by
 have:=h.2
 rw[ai]
 omega
def Rw (n L:Nat)(ss:List PySem.Str):Prop:=ss.length<=n/\∀ z∈ss,Sm L z
theorem Rw.mono {n L m M:Nat}{ss:List PySem.Str}(h:Rw n L ss)(a:n<=m)(b:L<=M):Rw m M ss:=⟨aO h.1 a,fun z hz=>(h.2 z hz).mono b⟩
theorem Rw.app {n m L:Nat}{a b:List PySem.Str}(ha:Rw n L a)(hb:Rw m L b):Rw (n+m) L (a++b):=⟨by rw[aI]; exact Nat.add_le_add ha.1 hb.1,fun z hz=>(bJ.mp hz).elim (ha.2 z) (hb.2 z)⟩
theorem Rw.one {L:Nat}{z:PySem.Str}(h:Sm L z):Rw 1 L [z]:=⟨ao _,fun y hy=>by rw[aQ.mp hy]; exact h⟩
theorem Rw.cut {n L:Nat}{ss:List PySem.Str}(h:Rw n L ss)(lo hi:Option Int):∃ ss',cutV (ss.map V.str) lo hi=ss'.map V.str/\Rw n L ss':=by
 refine⟨(ss.drop (HT.sIx (ss.map V.str).length 0 lo)).take (HT.sIx (ss.map V.str).length (ss.map V.str).length hi - HT.sIx (ss.map V.str).length 0 lo),?_,?_,fun z hz=>h.2 z (cU (da hz))⟩
 ·unfold cutV
  rw[List.map_take,List.map_drop]
 ·rw[bb,bW]
  have:=h.1
  omega
theorem jPK {ss:List PySem.Str}(hne:ss≠ [])(h:Rw 60 94 ss):TxtOk (PySem.Str.join (("\n" :String):PySem.Str) ss):=by
 have hb:∀ k,128<=k->k∉(PySem.Str.join (("\n" :String):PySem.Str) ss).cps.toList:=fun k hk q=>by
  rw[jAS,yH] at q
  rcases jHF q with e | ⟨a,ha,e⟩
  ·omega
  ·obtain⟨z,hz,rfl⟩:=aP.mp ha
   exact(h.2 z hz).1 k hk e
 have hl:(PySem.Str.join (("\n" :String):PySem.Str) ss).length<=6000:=by
  have h1:=jCQ (("\n" :String):PySem.Str) 94 ss fun z hz=>(h.2 z hz).2
  have h2:=h.1
  have e:((("\n" :String):PySem.Str)).length=1:=by decide+kernel
  rw[e] at h1
  omega
 refine⟨jG3 hb hl (by decide),fun r hr=>?_⟩
 have hr:r∈Txt.split (PySem.Str.join (("\n" :String):PySem.Str) ss) (("\n" :String):PySem.Str):=hr
 rw[jAS,jF1 hne] at hr
 obtain⟨a,ha,hr⟩:=List.mem_flatMap.mp hr
 have sa:=h.2 a ha
 exact⟨(sa.asc (by decide)).part hr,aO (jCN hr).2 (aO sa.2 (by decide))⟩
section
variable {P:Program}{w:World}{K:W.Frag}{mg:Str->Option Value}{base:Heap}
variable {f fT:Addr}{fdT:FuncData}{cdv:Value}{A:Around}{outer:List Env}{s:Shared}{H0:Hp}{E:XK}
noncomputable abbrev nBent:List Str:=["pot","rows","wide","at","row","way","place","sign","odd","head"]
theorem scBent:FnScope nBent ["pot","rows","wide"] (j9 qH):=⟨rfl,rfl,rfl,by decide+kernel,rfl,by decide+kernel,by decide+kernel⟩
abbrev xI (P:Program)(w:World)(K:W.Frag)(mg:Str->Option Value)(base:Heap)(f:Addr)(cdv:Value)(A:Around)(outer:List Env)(s:Shared)(H:Hp)(E:XK):Cx:=XOf nBent "_law_bent" qH P w K mg base f cdv A outer s H E
section
variable (T:Txt mg)(CT:Can P w K mg base "_law_take" 1 fT fdT ["pot","wide"] yS)(hr:Room 1 (xI P w K mg base f cdv A outer s H0 E).A)
def b14A: { t:TS // JSs (xI P w K mg base f cdv A outer s H0 E) ((jE qH).drop 14) t} :=
 have nd:=scBent.nd
 have _h:=T; have _h2:=hr; have _h3:=CT
 ⟨_,(jF (jN (kQ jA5 (kQ jA5 (kG yX (jv 1 rfl vL) y0 (kT (jv 3 rfl vL))) (yU (j4 (jv 4 rfl vL) j7 j6))) (kG yX (jv 1 rfl vL) (kT (kQ yG (jv 3 rfl vL) (jC))) y0))))⟩
def b13A: { t:TS // JSs (xI P w K mg base f cdv A outer s H0 E) ((jE qH).drop 13) t} :=
 have nd:=scBent.nd
 have _h:=T; have _h2:=hr; have _h3:=CT
 ⟨_,(jA (jZ (jI yB (jv 5 rfl vL) (jC) (jK _)) (jF (jR (i:=4) nd rfl lL (kQ kS (jv 4 rfl vL) (jW jX (yU (j4 (jM) (j4 (jM) (j4 (jM) (j4 (jM) (j4 (jM) j7 jB) jB) jB) jB) jB)) (CT.je hr gD (j4 (jv 0 rfl vL) (j4 (jC) j7 jB) j6) j6) jBC)) qU)) jL) (b14A T CT hr).2)⟩
def b12A: { t:TS // JSs (xI P w K mg base f cdv A outer s H0 E) ((jE qH).drop 12) t} :=
 have nd:=scBent.nd
 have _h:=T; have _h2:=hr; have _h3:=CT
 ⟨_,(jA (jZ (jI yB (jv 5 rfl vL) (jC) (jK _)) (jF (jR (i:=4) nd rfl lL (jW jX (yU (j4 (jM) (j4 (jM) (j4 (jM) (j4 (jM) (j4 (jM) (j4 (jM) (j4 (jM) (j4 (jM) (j4 (jM) j7 jB) jB) jB) jB) jB) jB) jB) jB) jB)) (CT.je hr gD (j4 (jv 0 rfl vL) (j4 (jC) j7 jB) j6) j6) jBC) jCU)) jL) (b13A T CT hr).2)⟩
def b11A: { t:TS // JSs (xI P w K mg base f cdv A outer s H0 E) ((jE qH).drop 11) t} :=
 have nd:=scBent.nd
 have _h:=T; have _h2:=hr; have _h3:=CT
 ⟨_,(jA (jZ (jI yB (jv 5 rfl vL) (jC) (jK _)) (jA (jR (i:=9) nd rfl lL (yU (j4 (jM) (j4 (jM) (j4 (jM) (j4 (jM) (j4 (jM) (j4 (jM) j7 jB) jB) jB) jB) jB) jB)) jEX)
   (jA (jR (i:=9) nd rfl lL (kQ jA5 (jv 9 rfl vL) (yU (j4 (jM) (j4 (jM) (j4 (jM) (j4 (jM) (j4 (jM) j7 jB) jB) jB) jB) jB))) qU)
   (jF (jN (kQ jA5 (yU (j4 (jW jX (jv 9 rfl vL) (CT.je hr gD (j4 (jv 0 rfl vL) (j4 (jC) j7 jB) j6) j6) jBC) j7 jO)) (kG yX (jv 1 rfl vL) (kT (jC)) y0)))))) jL) (b12A T CT hr).2)⟩
def b10A: { t:TS // JSs (xI P w K mg base f cdv A outer s H0 E) ((jE qH).drop 10) t} :=
 have nd:=scBent.nd
 have _h:=T; have _h2:=hr; have _h3:=CT
 ⟨_,(jA (jZ (jI yB (jv 5 rfl vL) (jC) (jK _)) (jA (jR (i:=8) nd rfl lL (yU (j4 (jM) (j4 (jM) (j4 (jM) (j4 (kQ kS (kL jA2 gD T.str (by decide+kernel) (j4 (jv 2 rfl vL) j7 j6) j6) (jM)) (j4 (jM) (j4 (jM) j7 jB) jB) qI) jB) jB) jB)) jEX)
   (jA (jR (i:=8) nd rfl lL (kQ jA5 (jv 8 rfl vL) (yU (j4 (jM) (j4 (jM) (j4 (jM) j7 jB) jB) jB))) qU)
   (jF (jN (kQ jA5 (kQ jA5 (kG yX (jv 1 rfl vL) y0 (kT (jv 3 rfl vL))) (yU (j4 (jW jX (jv 8 rfl vL) (CT.je hr gD (j4 (jv 0 rfl vL) (j4 (jC) j7 jB) j6) j6) jBC) j7 jO))) (kG yX (jv 1 rfl vL) (kT (jv 3 rfl vL)) y0)))))) jL) (b11A T CT hr).2)⟩
def b8A: { t:TS // JSs (xI P w K mg base f cdv A outer s H0 E) ((jE qH).drop 8) t} :=
 have nd:=scBent.nd
 have _h:=T; have _h2:=hr; have _h3:=CT
 ⟨_,(jA (jZ (jI yB (jv 5 rfl vL) (jC) (jK _)) (jF (jN (kQ jA5 (kG yX (jv 1 rfl vL) y0 (kT (jv 3 rfl vL))) (kG yX (jv 1 rfl vL) (kT (kQ yG (jv 3 rfl vL) (jC))) y0)))) jL) (jA (jZ (jI yB (jv 5 rfl vL) (jC) (jK _)) (jF (jN (kQ jA5 (kG yX (jv 1 rfl vL) y0 (kT (kQ yG (jv 3 rfl vL) (jC)))) (kG yX (jv 1 rfl vL) (kT (jv 3 rfl vL)) y0)))) jL) (b10A T CT hr).2))⟩
def b7A: { t:TS // JSs (xI P w K mg base f cdv A outer s H0 E) ((jE qH).drop 7) t} :=
 have nd:=scBent.nd
 have _h:=T; have _h2:=hr; have _h3:=CT
 ⟨_,(jA (jZ (jI yB (jv 5 rfl vL) (jC) (jK _)) (jF (jR (i:=4) nd rfl lL (kQ kS (kQ kS (kG jBM (jv 4 rfl vL) y0 (kT (jv 6 rfl vL))) (jv 7 rfl vL)) (kG jBM (jv 4 rfl vL) (kT (kQ yG (jv 6 rfl vL) (jC))) y0)) qU)) jL) (b8A T CT hr).2)⟩
def b6A: { t:TS // JSs (xI P w K mg base f cdv A outer s H0 E) ((jE qH).drop 6) t} :=
 have nd:=scBent.nd
 have _h:=T; have _h2:=hr; have _h3:=CT
 ⟨_,(jA (jZ (jI yB (jv 5 rfl vL) (jC) (jK _)) (jF (jR (i:=4) nd rfl lL (kQ kS (kG jBM (jv 4 rfl vL) y0 (kT (jv 6 rfl vL))) (kG jBM (jv 4 rfl vL) (kT (kQ yG (jv 6 rfl vL) (jC))) y0)) qU)) jL) (b7A T CT hr).2)⟩
def b5A: { t:TS // JSs (xI P w K mg base f cdv A outer s H0 E) ((jE qH).drop 5) t} :=
 have nd:=scBent.nd
 have _h:=T; have _h2:=hr; have _h3:=CT
 ⟨_,(jA (jZ (jI yB (jv 5 rfl vL) (jC) (jK _)) (jF (jR (i:=4) nd rfl lL (kQ kS (kQ kS (kG jBM (jv 4 rfl vL) y0 (kT (jv 6 rfl vL))) (jv 7 rfl vL)) (kG jBM (jv 4 rfl vL) (kT (jv 6 rfl vL)) y0)) qU)) jL) (b6A T CT hr).2)⟩
def b0A: { t:TS // JSs (xI P w K mg base f cdv A outer s H0 E) ((jE qH).drop 0) t} :=
 have nd:=scBent.nd
 have _h:=T; have _h2:=hr; have _h3:=CT
 ⟨_,(jA (jR (i:=3) nd rfl lL (CT.je hr gD (j4 (jv 0 rfl vL) (j4 (jH jP gD T.len (by decide+kernel) (j4 (jv 1 rfl vL) j7 j6) j6) j7 jS) j6) j6) kD) (jA (jR (i:=4) nd rfl lL (jW jX (jv 1 rfl vL) (jv 3 rfl vL) jE2) jCU) (jA (jR (i:=5) nd rfl lL (CT.je hr gD (j4 (jv 0 rfl vL) (j4 (jC) j7 jB) j6) j6) kD) (jA (jR (i:=6) nd rfl lL (CT.je hr gD (j4 (jv 0 rfl vL) (j4 (kQ yG (jH jAB gD T.len (by decide+kernel) (j4 (jv 4 rfl vL) j7 j6) j6) (jC)) j7 qI) j6) j6) kD) (jA (jR (i:=7) nd rfl lL (jW jNQ (jM) (CT.je hr gD (j4 (jv 0 rfl vL) (j4 (jC) j7 jB) j6) j6) jBC) jCU) (b5A T CT hr).2)))))⟩
abbrev BQ (H:Hp)(p:Addr)(R:V->Hp->Prop):Prop:=∀ (l':Addr) (N':Int) (ss':List PySem.Str) (H':Hp),0<=N'->H' p=some (.lst [.int N'])->H' l'=some (.lst (ss'.map V.str))->Rw 40 94 ss'->Keep H H' p->R (.ref l') H'
theorem jAT {H:Hp}{l:Addr}{ss:List PySem.Str}{n L:Nat}{lo hi:Option Int}{Q:VK}(hl:H l=some (.lst (ss.map V.str)))(hs:Rw n L ss)(k:∀ r s1 H1,H1 r=some (.lst (s1.map V.str))->Rw n L s1->Ext H H1->Q (.ref r) H1):rSlL K (.ref l) lo hi H Q:=by
 obtain⟨s1,c1,w1⟩:=hs.cut lo hi
 refine⟨l,_,rfl,SqL.of hl,fun r h=>?_⟩
 rw[c1]
 exact k r s1 _ j8 w1 ((Ext.refl _).new h _)
theorem jAY {H:Hp}{a b:Addr}{sa sb:List PySem.Str}{n m L:Nat}{Q:VK}(ha:H a=some (.lst (sa.map V.str)))(hb:H b=some (.lst (sb.map V.str)))(wa:Rw n L sa)(wb:Rw m L sb)(hn:n+m<=1000)(k:∀ r H1,H1 r=some (.lst ((sa++sb).map V.str))->Rw (n+m) L (sa++sb)->Ext H H1->Q (.ref r) H1):∃ l b' xs zs,V.ref a=V.ref l/\V.ref b=V.ref b'/\H l=some (HO.lst xs)/\H b'=some (HO.lst zs)/\xs.length+zs.length<=sizeLine/\LstR H (xs++zs) Q:=by
 refine⟨a,b,_,_,rfl,rfl,ha,hb,?_,fun r H1 d e _=>k r H1 (by rw[aS]; exact d) (wa.app wb) e⟩
 rw[af,af,ai]
 have:=wa.1
 have:=wb.1
 omega
theorem jA7 {H:Hp}{p:Addr}{o:HO} :Keep H (L2.upd H p o) p:=fun x o hx n=>by rw[jG n]; exact hx
theorem jL6 {H:Hp}{a b:Addr}{sa sb:List PySem.Str}{n m L:Nat}{Q:VK}(wa:Rw n L sa)(wb:Rw m L sb)(ha:H a=some (.lst (sa.map V.str)))(hb:H b=some (.lst (sb.map V.str)))(hn:n+m<=1000)(k:∀ r H1,H1 r=some (.lst ((sa++sb).map V.str))->Rw (n+m) L (sa++sb)->Ext H H1->Q (.ref r) H1):∃ l b' xs zs,V.ref a=V.ref l/\V.ref b=V.ref b'/\H l=some (HO.lst xs)/\H b'=some (HO.lst zs)/\xs.length+zs.length<=sizeLine/\LstR H (xs++zs) Q:=jAY ha hb wa wb hn k
theorem Keep.tr {H H1 H2:Hp}{p:Addr}(a:Keep H H1 p)(b:Keep H1 H2 p):Keep H H2 p:=fun c o h n=>b c o (a c o h n) n
theorem Keep.ex {H H1 H2:Hp}{p:Addr}(a:Keep H H1 p)(b:Ext H1 H2):Keep H H2 p:=fun c o h n=>b c o (a c o h n)
theorem Keep.of {H H1:Hp}{p:Addr}(b:Ext H H1):Keep H H1 p:=fun c o h _=>b c o h
theorem qK {H:Hp}{p l:Addr}{N:Int}{ss:List PySem.Str}(hp:H p=some (.lst [.int N]))(hl:H l=some (.lst (ss.map V.str))):l≠p:=fun z=>by
 rw[z,hp] at hl
 match ss,hl with
 | [],hl=>cases hl
 | [_],hl=>cases hl
 | _::_::_,hl=>cases hl
theorem Rw.at {n L:Nat}{ss:List PySem.Str}{r:Int}(h:Rw n L ss)(h0:0<=r)(h1:r<ss.length):∃ z,atI (ss.map V.str) r=some (.str z)/\Sm L z:=by
 obtain⟨j,rfl⟩:∃ j:Nat,r=(j:Int):=⟨r.toNat,by omega⟩
 have hj:j<ss.length:=by omega
 exact⟨ss[j],jT (by simp [hj]),h.2 _ (ck hj)⟩
theorem Rw.lit {n L:Nat}{ss:List PySem.Str}(h:(decide (ss.length<=n)&&ss.all fun z=>z.cps.all (· <128)&&decide (z.length<=L))=true):Rw n L ss:=by
 rw[aL,aD] at h
 exact⟨aj h.1,fun z hz=>Sm.lit (h.2 z hz)⟩
theorem jHR {D:Ends}{H:Hp}{p l:Addr}{N a:Int}{ss:List PySem.Str}{row:PySem.Str}{v2 v5 v6 v7 v8 v9:Option V}(hp:H p=some (.lst [.int N]))(hN:0<=N)(hl:H l=some (.lst (ss.map V.str)))(hs:Rw 14 83 ss)(hrow:Sm 94 row)(q:BQ H p D.rt):
  (b14A T CT hr).1 D [some (.ref p),some (.ref l),v2,some (.int a),some (.str row),v5,v6,v7,v8,v9] H:=by
 have np:=qK hp hl
 refine⟨_,rfl,_,rfl,a,rfl,jAT hl (hs.mono (m:=14) (M:=94) (by decide) (by decide)) fun r1 s1 H1 d1 w1 e1=>?_⟩
 refine⟨_,rfl,by show (1:Nat)<=_; decide,fun l2 H2 d2 e2 n2=>?_⟩
 refine jAY (sb:=[row]) (e2 _ _ d1) d2 w1 (Rw.one hrow) (by decide) fun r3 H3 d3 w3 e3=>?_
 have E3:=(e1.trans e2).trans e3
 refine⟨_,rfl,_,rfl,_,_,rfl,rfl,_,rfl,?_⟩
 dsimp only [jAD]
 refine jAT (E3 _ _ hl) (hs.mono (m:=14) (M:=94) (by decide) (by decide)) fun r4 s4 H4 d4 w4 e4=>?_
 refine jAY (e4 _ _ d3) d4 w3 w4 (by decide) fun r5 H5 d5 w5 e5=>?_
 have E5:=(E3.trans e4).trans e5
 exact q r5 N _ H5 hN (E5 _ _ hp) d5 (w5.mono (by decide) (ao _)) (Keep.of E5)
def RowW (wy k:Int)(row:PySem.Str):Prop:=Sm 83 row\/(wy<k/\Sm 84 row)
theorem RowW.all {wy k:Int}{row:PySem.Str}(h:RowW wy k row):Sm 84 row:=h.elim (fun h=>h.mono (by decide)) (·.2)
theorem RowW.at {k:Int}{row:PySem.Str}(h:RowW k k row):Sm 83 row:=h.elim id fun h=>absurd h.1 (by omega)
theorem RowW.up {wy k k':Int}{row:PySem.Str}(h:RowW wy k row)(l:k<=k'):RowW wy k' row:=h.imp id fun h=>⟨by omega,h.2⟩
theorem jHS {D:Ends}{H:Hp}{p l:Addr}{N a wy:Int}{ss:List PySem.Str}{row:PySem.Str}{v2 v6 v7 v8 v9:Option V}(hp:H p=some (.lst [.int N]))(hN:0<=N)(hl:H l=some (.lst (ss.map V.str)))(hs:Rw 14 83 ss)(hrow:RowW wy 8 row\/(wy<8/\Sm 94 row))(q:BQ H p D.rt):
  (b13A T CT hr).1 D [some (.ref p),some (.ref l),v2,some (.int a),some (.str row),some (.int wy),v6,v7,v8,v9] H:=by
 have np:=qK hp hl
 refine⟨_,rfl,rfl,_,rfl,ite2 (fun h=>?_) (fun h=>?_)⟩
 ·cases V.int.inj (aj h)
  have hrow:Sm 83 row:=hrow.elim (·.at) fun h=>absurd h.1 (by omega)
  refine⟨_,rfl,by show (5:Nat)<=_; decide,fun l1 H1 d1 e1 n1=>?_⟩
  refine⟨_,rfl,p,_,5,rfl,e1 _ _ hp,hN,by decide,by decide,fun N2 r hN2 r0 r1=>?_⟩
  have hp2:(L2.upd H1 p (.lst [.int N2])) p=some (.lst [.int N2]):=j8
  have k2:Keep H1 (L2.upd H1 p (.lst [.int N2])) p:=jA7
  generalize L2.upd H1 p (.lst [.int N2])=H2 at hp2 k2
  have nl:l1≠p:=(jD hp n1).symm
  have rl:Rw 5 11 [(("0" :String):PySem.Str),((" " :String):PySem.Str),((" 1" :String):PySem.Str),(("00000000000" :String):PySem.Str),(("," :String):PySem.Str)]:=Rw.lit (by decide+kernel)
  obtain⟨z,hz,sz⟩:=rl.at r0 r1
  refine⟨l1,_,r,_,rfl,rfl,SqL.of (k2 _ _ d1 nl),hz,_,_,rfl,rfl,?_,?_⟩
  ·have:=hrow.2
   have:=sz.2
   rw[ai]
   omega
  ·exact jHR T CT hr hp2 hN2 (k2 _ _ (e1 _ _ hl) np) hs (hrow.app sz) fun l' N' ss' H' a1 a2 a3 a4 a5=>q l' N' ss' H' a1 a2 a3 a4 (((Keep.of e1).tr k2).tr a5)
 ·exact jHR T CT hr hp hN hl hs (hrow.elim (fun h=>h.all.mono (by decide)) (·.2)) q
theorem jN4 {D:Ends}{H:Hp}{p l:Addr}{N a wy:Int}{ss:List PySem.Str}{row:PySem.Str}{v2 v6 v7 v8 v9:Option V}(hp:H p=some (.lst [.int N]))(hN:0<=N)(hl:H l=some (.lst (ss.map V.str)))(hs:Rw 14 83 ss)(hrow:RowW wy 7 row)(q:BQ H p D.rt):
  (b12A T CT hr).1 D [some (.ref p),some (.ref l),v2,some (.int a),some (.str row),some (.int wy),v6,v7,v8,v9] H:=by
 have np:=qK hp hl
 refine⟨_,rfl,rfl,_,rfl,ite2 (fun h=>?_) (fun h=>?_)⟩
 ·cases V.int.inj (aj h)
  refine⟨by show (9:Nat)<=_; decide,fun l1 H1 d1 e1 n1=>?_⟩
  refine⟨_,rfl,p,_,9,rfl,e1 _ _ hp,hN,by decide,by decide,fun N2 r2 hN2 r02 r12=>?_⟩
  have hp2:(L2.upd H1 p (.lst [.int N2])) p=some (.lst [.int N2]):=j8
  have k2:Keep H1 (L2.upd H1 p (.lst [.int N2])) p:=jA7
  generalize L2.upd H1 p (.lst [.int N2])=H2 at hp2 k2
  have nl:l1≠p:=(jD hp n1).symm
  have rl:Rw 9 11 [(("0 01" :String):PySem.Str),(("00 1" :String):PySem.Str),(("0, 1" :String):PySem.Str),((",0 1" :String):PySem.Str),(("0 " :String):PySem.Str),((" 0" :String):PySem.Str),(("0 1 1" :String):PySem.Str),(("0;1 1" :String):PySem.Str),(("0 1-" :String):PySem.Str)]:=Rw.lit (by decide+kernel)
  obtain⟨z,hz,sz⟩:=rl.at r02 r12
  refine⟨l1,_,r2,_,rfl,rfl,SqL.of (k2 _ _ d1 nl),hz,?_⟩
  exact jHS T CT hr hp2 hN2 (k2 _ _ (e1 _ _ hl) np) hs (.inr ⟨by decide,sz.mono (by decide)⟩) fun l' N' ss' H' a1 a2 a3 a4 a5=>q l' N' ss' H' a1 a2 a3 a4 (((Keep.of e1).tr k2).tr a5)
 ·exact jHS T CT hr hp hN hl hs (.inl (hrow.up (by decide))) q
theorem jN5 {D:Ends}{H:Hp}{p l:Addr}{N a wy:Int}{ss:List PySem.Str}{row:PySem.Str}{v2 v6 v7 v8 v9:Option V}(hp:H p=some (.lst [.int N]))(hN:0<=N)(hl:H l=some (.lst (ss.map V.str)))(hs:Rw 14 83 ss)(hrow:RowW wy 6 row)(q:BQ H p D.rt):
  (b11A T CT hr).1 D [some (.ref p),some (.ref l),v2,some (.int a),some (.str row),some (.int wy),v6,v7,v8,v9] H:=by
 have np:=qK hp hl
 refine⟨_,rfl,rfl,_,rfl,ite2 (fun h=>?_) (fun h=>?_)⟩
 ·refine⟨by show (6:Nat)<=_; decide,fun l1 H1 d1 e1 n1=>?_⟩
  refine⟨_,rfl,by show (5:Nat)<=_; decide,fun l2 H2 d2 e2 n2=>?_⟩
  have ra:Rw 6 83 [(("things" :String):PySem.Str),(("things 17" :String):PySem.Str),(("things 3 may" :String):PySem.Str),(("things 3 may 3" :String):PySem.Str),(("things 3 may 0,0" :String):PySem.Str),(("thing 3" :String):PySem.Str)]:=Rw.lit (by decide+kernel)
  have rb:Rw 5 83 [(("things -1" :String):PySem.Str),(("3" :String):PySem.Str),(("things 03" :String):PySem.Str),(("things 3  may 1" :String):PySem.Str),(("Things 3" :String):PySem.Str)]:=Rw.lit (by decide+kernel)
  refine jL6 ra rb (e2 _ _ d1) d2 (by decide) fun l3 H3 d3 w3 e3=>?_
  have E3:=(e1.trans e2).trans e3
  have nl:=qK (E3 _ _ hp) d3
  refine⟨_,rfl,?_⟩
  refine⟨_,rfl,p,_,11,rfl,E3 _ _ hp,hN,by decide,by decide,fun N4 r4 hN4 r04 r14=>?_⟩
  have hp4:(L2.upd H3 p (.lst [.int N4])) p=some (.lst [.int N4]):=j8
  have k4:Keep H3 (L2.upd H3 p (.lst [.int N4])) p:=jA7
  generalize L2.upd H3 p (.lst [.int N4])=H4 at hp4 k4
  obtain⟨z,hz,sz⟩:=w3.at r04 r14
  refine⟨l3,_,r4,_,rfl,rfl,SqL.of (k4 _ _ d3 nl),hz,?_⟩
  refine⟨by show (1:Nat)<=_; decide,fun l5 H5 d5 e5 n5=>?_⟩
  refine⟨_,rfl,_,rfl,?_⟩
  dsimp only [jAD]
  refine jAT (e5 _ _ (k4 _ _ (E3 _ _ hl) np)) hs fun r6 s6 H6 d6 w6 e6=>?_
  refine jAY (sa:=[z]) (e6 _ _ d5) d6 (Rw.one sz) w6 (by decide) fun r7 H7 d7 w7 e7=>?_
  have E7:=(e5.trans e6).trans e7
  exact q r7 N4 _ H7 hN4 (E7 _ _ hp4) d7 (w7.mono (by decide) (by decide)) (((Keep.of E3).tr k4).ex E7)
 ·exact jN4 T CT hr hp hN hl hs (hrow.up (by decide)) q
theorem jN6 {D:Ends}{H:Hp}{p l:Addr}{N a wy:Int}{ss:List PySem.Str}{row:PySem.Str}{wi:Int}{v6 v7 v8 v9:Option V}(hp:H p=some (.lst [.int N]))(hN:0<=N)(hl:H l=some (.lst (ss.map V.str)))(hs:Rw 14 83 ss)(hrow:RowW wy 5 row)(w0:0<=wi)(w1:wi<=16)(q:BQ H p D.rt):
  (b10A T CT hr).1 D [some (.ref p),some (.ref l),some (.int wi),some (.int a),some (.str row),some (.int wy),v6,v7,v8,v9] H:=by
 have np:=qK hp hl
 refine⟨_,rfl,rfl,_,rfl,ite2 (fun h=>?_) (fun h=>?_)⟩
 ·have bw:Bd wi:=⟨by omega,by omega⟩
  refine⟨_,rfl,_,rfl,jBL bw,_,_,rfl,rfl,?_,?_⟩
  ·have:=jBS (i:=wi) (by omega) (by omega)
   have e2:(((" 0" :String):PySem.Str)).length=2:=by decide+kernel
   rw[ai,e2]
   show (numS wi).length+2<=_
   omega
  refine⟨by show (6:Nat)<=_; decide,fun l1 H1 d1 e1 n1=>?_⟩
  refine⟨_,rfl,by show (3:Nat)<=_; decide,fun l2 H2 d2 e2 n2=>?_⟩
  have sw:Sm 83 (numS wi++((" 0" :String):PySem.Str)):=(Sm.app (n:=3) (m:=2) ⟨jE7 wi,jBS (by omega) (by omega)⟩ (Sm.lit (by decide+kernel))).mono (by decide)
  have ra:Rw (3+1+2) 83 ([(("" :String):PySem.Str),(("0 0" :String):PySem.Str),(("things 3" :String):PySem.Str)]++[numS wi++((" 0" :String):PySem.Str)]++[(("0,0 1" :String):PySem.Str),(("1,0 1" :String):PySem.Str)]):=((Rw.lit (by decide+kernel)).app (Rw.one sw)).app (Rw.lit (by decide+kernel))
  have rb:Rw 3 83 [(("0 1000000000001" :String):PySem.Str),(("0 -1000000000001" :String):PySem.Str),(("0 -0" :String):PySem.Str)]:=Rw.lit (by decide+kernel)
  refine jL6 ra rb (e2 _ _ d1) d2 (by decide) fun l3 H3 d3 w3 e3=>?_
  have E3:=(e1.trans e2).trans e3
  have nl:=qK (E3 _ _ hp) d3
  refine⟨_,rfl,_,rfl,a,rfl,jAT (E3 _ _ hl) hs fun r5 s5 H5 d5 w5 e5=>?_⟩
  have E5:=E3.trans e5
  refine⟨_,rfl,?_⟩
  refine⟨_,rfl,p,_,9,rfl,E5 _ _ hp,hN,by decide,by decide,fun N6 r6 hN6 r06 r16=>?_⟩
  have hp6:(L2.upd H5 p (.lst [.int N6])) p=some (.lst [.int N6]):=j8
  have k6:Keep H5 (L2.upd H5 p (.lst [.int N6])) p:=jA7
  generalize L2.upd H5 p (.lst [.int N6])=H6 at hp6 k6
  obtain⟨z,hz,sz⟩:=w3.at r06 r16
  have n5:=qK (E5 _ _ hp) d5
  refine⟨l3,_,r6,_,rfl,rfl,SqL.of (k6 _ _ (e5 _ _ d3) nl),hz,?_⟩
  refine⟨by show (1:Nat)<=_; decide,fun l7 H7 d7 e7 n7=>?_⟩
  refine jAY (sb:=[z]) (e7 _ _ (k6 _ _ d5 n5)) d7 w5 (Rw.one sz) (by decide) fun r8 H8 d8 w8 e8=>?_
  have E8:=e7.trans e8
  refine⟨_,rfl,_,rfl,a,rfl,?_⟩
  dsimp only [jAD]
  refine jAT (E8 _ _ (k6 _ _ (E5 _ _ hl) np)) hs fun r9 s9 H9 d9 w9 e9=>?_
  refine jAY (e9 _ _ d8) d9 w8 w9 (by decide) fun rA HA dA wA eA=>?_
  have EA:=(E8.trans e9).trans eA
  exact q rA N6 _ HA hN6 (EA _ _ hp6) dA (wA.mono (by decide) (by decide)) (((Keep.of E5).tr k6).ex EA)
 ·exact jN5 T CT hr hp hN hl hs (hrow.up (by decide)) q
theorem jLJ {D:Ends}{H:Hp}{p l:Addr}{N a wy:Int}{ss:List PySem.Str}{row:PySem.Str}{wi:Int}{v6 v7 v8 v9:Option V}(hp:H p=some (.lst [.int N]))(hN:0<=N)(hl:H l=some (.lst (ss.map V.str)))(hs:Rw 14 83 ss)(hrow:RowW wy 3 row)(w0:0<=wi)(w1:wi<=16)(q:BQ H p D.rt):
  (b8A T CT hr).1 D [some (.ref p),some (.ref l),some (.int wi),some (.int a),some (.str row),some (.int wy),v6,v7,v8,v9] H:=by
 have np:=qK hp hl
 refine⟨_,rfl,rfl,_,rfl,ite2 (fun h=>?_) (fun h=>?_)⟩
 ·refine⟨_,rfl,_,rfl,a,rfl,jAT hl hs fun r1 s1 H1 d1 w1 e1=>?_⟩
  refine⟨_,rfl,_,rfl,_,_,rfl,rfl,_,rfl,?_⟩
  dsimp only [jAD]
  refine jAT (e1 _ _ hl) hs fun r2 s2 H2 d2 w2 e2=>?_
  refine jAY (e2 _ _ d1) d2 w1 w2 (by decide) fun r3 H3 d3 w3 e3=>?_
  have E3:=(e1.trans e2).trans e3
  exact q r3 N _ H3 hN (E3 _ _ hp) d3 (w3.mono (by decide) (by decide)) (Keep.of E3)
 ·refine⟨_,rfl,rfl,_,rfl,ite2 (fun h=>?_) (fun h=>?_)⟩
  ·refine⟨_,rfl,_,rfl,_,_,rfl,rfl,_,rfl,jAT hl hs fun r1 s1 H1 d1 w1 e1=>?_⟩
   refine⟨_,rfl,_,rfl,a,rfl,?_⟩
   dsimp only [jAD]
   refine jAT (e1 _ _ hl) hs fun r2 s2 H2 d2 w2 e2=>?_
   refine jAY (e2 _ _ d1) d2 w1 w2 (by decide) fun r3 H3 d3 w3 e3=>?_
   have E3:=(e1.trans e2).trans e3
   exact q r3 N _ H3 hN (E3 _ _ hp) d3 (w3.mono (by decide) (by decide)) (Keep.of E3)
  ·exact jN6 T CT hr hp hN hl hs (hrow.up (by decide)) w0 w1 q
theorem jLK {D:Ends}{H:Hp}{p l:Addr}{N a wy:Int}{ss:List PySem.Str}{row:PySem.Str}{wi pl:Int}{sg:PySem.Str}{v8 v9:Option V}(hp:H p=some (.lst [.int N]))(hN:0<=N)(hl:H l=some (.lst (ss.map V.str)))(hs:Rw 14 83 ss)(hrow:RowW wy 2 row)(w0:0<=wi)(w1:wi<=16)(p0:0<=pl)(p1:2<=wy->wy<3->pl<=row.length)(sg1:Sm 1 sg)(q:BQ H p D.rt):
  (b7A T CT hr).1 D [some (.ref p),some (.ref l),some (.int wi),some (.int a),some (.str row),some (.int wy),some (.int pl),some (.str sg),v8,v9] H:=by
 have np:=qK hp hl
 refine⟨_,rfl,rfl,_,rfl,ite2 (fun h=>?_) (fun h=>?_)⟩
 ·cases V.int.inj (aj h)
  have hrow:Sm 83 row:=hrow.at
  have p1:=p1 (by decide) (by decide)
  have s1:=hrow.to p0
  have s2:=hrow.fr (j:=(pl+1)) (by omega)
  have hsz:=hrow.size (by decide)
  have l1:=s1.2
  have l2:=s2.2
  have l3:=sg1.2
  have lr:=hrow.2
  refine⟨_,rfl,_,rfl,pl,rfl,row,rfl,hsz,?_⟩
  refine⟨_,rfl,_,_,rfl,rfl,by rw[ai]; omega,?_⟩
  refine⟨_,rfl,_,rfl,_,_,rfl,rfl,_,rfl,?_⟩
  dsimp only [jAD]
  refine⟨row,rfl,hsz,_,_,rfl,rfl,by rw[jBB,ai]; omega,?_⟩
  exact jLJ T CT hr hp hN hl hs (.inr ⟨by decide,((s1.app sg1).app s2).mono (by omega)⟩) w0 w1 q
 ·exact jLJ T CT hr hp hN hl hs (hrow.up (by decide)) w0 w1 q
theorem jLL {D:Ends}{H:Hp}{p l:Addr}{N a wy:Int}{ss:List PySem.Str}{row:PySem.Str}{wi pl:Int}{sg:PySem.Str}{v8 v9:Option V}(hp:H p=some (.lst [.int N]))(hN:0<=N)(hl:H l=some (.lst (ss.map V.str)))(hs:Rw 14 83 ss)(hrow:RowW wy 1 row)(w0:0<=wi)(w1:wi<=16)(p0:0<=pl)(p1:1<=wy->wy<3->pl<=row.length)(sg1:Sm 1 sg)(q:BQ H p D.rt):
  (b6A T CT hr).1 D [some (.ref p),some (.ref l),some (.int wi),some (.int a),some (.str row),some (.int wy),some (.int pl),some (.str sg),v8,v9] H:=by
 have np:=qK hp hl
 refine⟨_,rfl,rfl,_,rfl,ite2 (fun h=>?_) (fun h=>?_)⟩
 ·cases V.int.inj (aj h)
  have hrow:Sm 83 row:=hrow.at
  have p1:=p1 (by decide) (by decide)
  have s1:=hrow.to p0
  have s2:=hrow.fr (j:=(pl+1)) (by omega)
  have hsz:=hrow.size (by decide)
  have l1:=s1.2
  have l2:=s2.2
  have l3:=sg1.2
  have lr:=hrow.2
  refine⟨_,rfl,_,rfl,pl,rfl,row,rfl,hsz,?_⟩
  refine⟨_,rfl,_,rfl,_,_,rfl,rfl,_,rfl,?_⟩
  dsimp only [jAD]
  refine⟨row,rfl,hsz,_,_,rfl,rfl,by rw[ai]; omega,?_⟩
  exact jLK T CT hr hp hN hl hs (.inr ⟨by decide,(s1.app s2).mono (by omega)⟩) w0 w1 p0 (fun h=>absurd h (by decide)) sg1 q
 ·exact jLK T CT hr hp hN hl hs (hrow.up (by decide)) w0 w1 p0 (fun h=>p1 (by omega)) sg1 q
theorem jPV {D:Ends}{H:Hp}{p l:Addr}{N a wy:Int}{ss:List PySem.Str}{row:PySem.Str}{wi pl:Int}{sg:PySem.Str}{v8 v9:Option V}(hp:H p=some (.lst [.int N]))(hN:0<=N)(hl:H l=some (.lst (ss.map V.str)))(hs:Rw 14 83 ss)(hrow:RowW wy 0 row)(w0:0<=wi)(w1:wi<=16)(p0:0<=pl)(p1:0<=wy->wy<3->pl<=row.length)(sg1:Sm 1 sg)(q:BQ H p D.rt):
  (b5A T CT hr).1 D [some (.ref p),some (.ref l),some (.int wi),some (.int a),some (.str row),some (.int wy),some (.int pl),some (.str sg),v8,v9] H:=by
 have np:=qK hp hl
 refine⟨_,rfl,rfl,_,rfl,ite2 (fun h=>?_) (fun h=>?_)⟩
 ·cases V.int.inj (aj h)
  have hrow:Sm 83 row:=hrow.at
  have p1:=p1 (by decide) (by decide)
  have s1:=hrow.to p0
  have s2:=hrow.fr (j:=pl) (by omega)
  have hsz:=hrow.size (by decide)
  have l1:=s1.2
  have l2:=s2.2
  have l3:=sg1.2
  have lr:=hrow.2
  refine⟨_,rfl,_,rfl,pl,rfl,row,rfl,hsz,?_⟩
  refine⟨_,rfl,_,_,rfl,rfl,by rw[ai]; omega,?_⟩
  refine⟨_,rfl,_,rfl,pl,rfl,?_⟩
  dsimp only [jAD]
  refine⟨row,rfl,hsz,_,_,rfl,rfl,by rw[jBB,ai]; omega,?_⟩
  exact jLL T CT hr hp hN hl hs (.inr ⟨by decide,((s1.app sg1).app s2).mono (by omega)⟩) w0 w1 p0 (fun h=>absurd h (by decide)) sg1 q
 ·exact jLL T CT hr hp hN hl hs (hrow.up (by decide)) w0 w1 p0 (fun h=>p1 (by omega)) sg1 q
end
def jIW:Sp:=fun vs H Q _=>∃ (p l:Addr) (N wi:Int) (ss:List PySem.Str),vs=[.ref p, .ref l, .int wi]/\H p=some (.lst [.int N])/\0<=N/\H l=some (.lst (ss.map V.str))/\Rw 14 83 ss/\ss≠ []/\0<=wi/\wi<=16/\BQ H p Q
theorem jP9 {fd:FuncData}(F:Fun K "_law_bent" "_law_bent" qH f fd)(T:Txt mg)(CT:Can P w K mg base "_law_take" 1 fT fdT ["pot","wide"] yS):FnOk P w K mg base CX0 2 f fd ["pot","rows","wide"] jIW:=by
 refine F.ok scBent (fun vs H Q E h=>?_) (fun cdv A outer s H vs Q E hr h=>?_)
 ·obtain⟨_,_,_,_,_,rfl,_⟩:=h
  rfl
 ·obtain⟨p,l,N,wi,ss,rfl,hp,hN,hl,hs,hne,w0,w1,q⟩:=h
  have np:=qK hp hl
  have sp:0<ss.length:=gR.mpr hne
  have s1:=hs.1
  refine⟨_,(b0A T CT hr).2.h,?_⟩
  have ln:((ss.map V.str).length:Int)=ss.length:=by rw[af]
  refine⟨_,rfl,_,rfl,l,_,rfl, .inl (SqL.of hl),?_⟩
  rw[ln]
  refine⟨p,_,_,rfl,hp,hN,by omega,by omega,fun N1 r1 hN1 r01 r11=>?_⟩
  have hp1:(L2.upd H p (.lst [.int N1])) p=some (.lst [.int N1]):=j8
  have k1:Keep H (L2.upd H p (.lst [.int N1])) p:=jA7
  generalize L2.upd H p (.lst [.int N1])=H1 at hp1 k1
  have hl1:=k1 _ _ hl np
  obtain⟨row,hz,sz⟩:=hs.at r01 r11
  have hlen:=sz.2
  refine⟨_,rfl,_,rfl,l,_,_,_,rfl,rfl,SqL.of hl1,hz,?_⟩
  refine⟨_,rfl,p,_,9,rfl,hp1,hN1,by decide,by decide,fun N2 r2 hN2 r02 r12=>?_⟩
  have hp2:(L2.upd H1 p (.lst [.int N2])) p=some (.lst [.int N2]):=j8
  have k2:Keep H1 (L2.upd H1 p (.lst [.int N2])) p:=jA7
  generalize L2.upd H1 p (.lst [.int N2])=H2 at hp2 k2
  have hl2:=k2 _ _ hl1 np
  refine⟨_,rfl,_,rfl,row,rfl,sz.size (by decide),_,_,rfl,rfl,?_⟩
  refine⟨p,_,_,rfl,hp2,hN2,by omega,by omega,fun N3 r3 hN3 r03 r13=>?_⟩
  have hp3:(L2.upd H2 p (.lst [.int N3])) p=some (.lst [.int N3]):=j8
  have k3:Keep H2 (L2.upd H2 p (.lst [.int N3])) p:=jA7
  generalize L2.upd H2 p (.lst [.int N3])=H3 at hp3 k3
  have hl3:=k3 _ _ hl2 np
  refine⟨_,rfl,?_⟩
  refine⟨p,_,11,rfl,hp3,hN3,by decide,by decide,fun N4 r4 hN4 r04 r14=>?_⟩
  have hp4:(L2.upd H3 p (.lst [.int N4])) p=some (.lst [.int N4]):=j8
  have k4:Keep H3 (L2.upd H3 p (.lst [.int N4])) p:=jA7
  generalize L2.upd H3 p (.lst [.int N4])=H4 at hp4 k4
  have hl4:=k4 _ _ hl3 np
  obtain⟨c,hc,sc⟩:∃ c,atI ((((" -,0m91\n+ ." :String):PySem.Str)).cps.toList) r4=some c/\Sm 1 ⟨#[c]⟩:=by
   obtain⟨j,rfl⟩:∃ j:Nat,r4=(j:Int):=⟨r4.toNat,by omega⟩
   have hj:j<11:=by omega
   have ha:∀ j,j<11->∃ c,((((" -,0m91\n+ ." :String):PySem.Str)).cps.toList)[j]?=some c/\c<128:=by
    have:∀ j,j<11->(match ((((" -,0m91\n+ ." :String):PySem.Str)).cps.toList)[j]? with | some c=>decide (c<128) | none=>false)=true:=by decide+kernel
    intro j hj
    have:=this j hj
    split at this
    ·rename_i c hc
     exact⟨c,hc,aj this⟩
    ·cases this
   obtain⟨c,hc,h1⟩:=ha j hj
   refine⟨c,jT hc,fun k hk q=>?_,ao _⟩
   have q:k∈[c]:=q
   rw[aQ.mp q] at hk
   omega
  refine⟨_,r4,c,rfl,rfl,(Sm.lit (n:=11) (by decide+kernel)).size (by decide),hc,?_⟩
  exact jPV T CT hr hp4 hN4 hl4 hs (.inl sz) w0 w1 r03 (fun _ _=>by omega) sc fun l' N' ss' H' a1 a2 a3 a4 a5=>q l' N' ss' H' a1 a2 a3 a4 ((((k1.tr k2).tr k3).tr k4).tr a5)
end
theorem Good.wb {w:Int}{ms:List Int}{pcs:List (List Int×Int)}(g:Good 16 32 w ms pcs):WB w ms pcs:=by
 have w0:=g.w0
 have w1:=g.w1
 have nu:∀ {ts:List Int},ts.Pairwise (· < ·)->(∀ z∈ts,0<=z/\z<w)->Nums ts:=fun h hb=>⟨by have:=lot16 h hb w1; omega,fun z hz=>by have:=hb z hz; omega⟩
 refine⟨by omega,by omega,nu g.mr.ris g.mr.bnd,by have:=g.pl; omega,fun pc hp=>?_⟩
 have gp:=g.pg pc hp
 have:=gp.lo
 have:=gp.hi
 exact⟨nu gp.lot.ris gp.lot.bnd,by omega,by omega⟩
theorem jH0 {w:Int} :∀ {rs:List PySem.Str}{acc ps:List (List Int×Int)}{k:Nat},acc.length<=32->(∀ pc∈acc,GoodPc w pc)->rdR w acc rs k= .inr ps->ps.length<=32/\∀ pc∈ps,GoodPc w pc
 | [],acc,ps,k,h1,h2,h=>by cases h; exact⟨h1,h2⟩
 | r::rs,acc,ps,k,h1,h2,h=>by
  unfold rdR at h
  split at h
  ·cases h
  ·rename_i hn
   split at h
   ·cases h
   ·rename_i pc hv
    refine jH0 (by rw[aI]; show acc.length+1<=32; omega) (fun x hx=>?_) h
    rcases bJ.mp hx with z | z
    ·exact h2 x z
    ·rw[aQ.mp z]
     unfold vpc at hv
     split at hv
     ·rename_i hb
      cases hv
      exact(jJE hb).2
     ·cases hv
theorem jOC {z:PySem.Str}{x:Bx}(h:rd z= .inr x):Good 16 32 x.1 x.2.1 x.2.2:=by
 unfold rd at h
 split at h
 ·cases h
 ·split at h
  ·cases h
  ·rename_i w ms hv
   split at h
   ·cases h
   ·rename_i ps hr
    cases h
    unfold vhd at hv
    split at hv
    ·rename_i hb
     have hi:=(jNR hb).2
     rw[aF hv] at hi
     obtain⟨h1,h2⟩:=jH0 (aJ _) (fun pc hp=>by cases hp) hr
     exact⟨hi.1,hi.2.1,hi.2.2,by show (ps.length:Int)<=32; omega,h2⟩
    ·cases hv
theorem jMX {w:Int}{ms:List Int}{pcs:List (List Int×Int)}(g:Good 16 32 w ms pcs):bxB (.tup [.int w, .tup (ms.map Ob.int), .tup (pcs.map obPc)])=true:=by
 rw[bx3]
 have h1:upB 0 16 (.int w)=true:=by
  show (decide _&&decide _)=true
  rw[ah g.w0,ah g.w1]
  rfl
 have h2:lotB w (.tup (ms.map Ob.int))=true:=jKB g.mr.ris g.mr.bnd
 have h3:psB w (.tup (pcs.map obPc))=true:=by
  show (decide _&&(pcs.map obPc).all (jV w))=true
  have:=g.pl
  rw[ah (by rw[af]; omega),bC,aD]
  intro x hx
  obtain⟨pc,hpc,rfl⟩:=aP.mp hx
  have gp:=g.pg pc hpc
  show (lotB w _&&!qN _&&upB _ _ _)=true
  rw[jKB gp.lot.ris gp.lot.bnd]
  have he:qN (.tup (pc.1.map Ob.int))=false:=by
   cases e:pc.1 with
   | nil=>exact absurd e gp.lot.ne
   | cons _ _=>rfl
  rw[he]
  show (decide _&&decide _)=true
  rw[ah gp.lo,ah gp.hi]
  rfl
 have e:val (.int w)=w:=rfl
 rw[h1,e,h2,h3]
 rfl
theorem Keep.ext {H H':Hp}{p:Addr}{o:HO}(k:Keep (L2.upd H p o) H' p)(hp:H p=none):Ext H H':=fun b u hb=>by
 have n:b≠p:=jD hb hp
 exact k b u (by rw[jG n]; exact hb) n
theorem Sm.txt {z:PySem.Str}(h:Sm 94 z):TxtOk z:=by
 refine⟨h.asc (by decide),fun r hr=>?_⟩
 have hr:r∈Txt.split z (("\n" :String):PySem.Str):=hr
 rw[jAS] at hr
 exact⟨(h.asc (by decide)).part hr,aO (jCN hr).2 (aO h.2 (by decide))⟩
theorem jMN {ss:List PySem.Str}(h:Rw 60 94 ss):TxtOk (PySem.Str.join (("\n" :String):PySem.Str) ss):=by
 cases ss with
 | nil=>exact Sm.txt (Sm.lit (by decide+kernel))
 | cons a r=>exact jPK (by simp) h
theorem jGY:rd (("" :String):PySem.Str)= .inl 0:=by decide+kernel
section
variable {P:Program}{w:World}{K:W.Frag}{mg:Str->Option Value}{base:Heap}
variable {f fC fP fT fB fN fV fD fL fS:Addr}{fdC fdP fdT fdB fdN fdV fdD fdL fdS:FuncData}{cdv:Value}{A:Around}{outer:List Env}{s:Shared}{H0:Hp}{E:XK}
noncomputable abbrev nLaw:List Str:=["script","k","pot","box","rows","text","odd"]
theorem scLaw:FnScope nLaw ["script"] (j9 sLaw):=⟨rfl,rfl,rfl,by decide+kernel,rfl,by decide+kernel,by decide+kernel⟩
abbrev XLaw (P:Program)(w:World)(K:W.Frag)(mg:Str->Option Value)(base:Heap)(f:Addr)(cdv:Value)(A:Around)(outer:List Env)(s:Shared)(H:Hp)(E:XK):Cx:=XOf nLaw "law" sLaw P w K mg base f cdv A outer s H E
structure LW (P:Program)(w:World)(K:W.Frag)(mg:Str->Option Value)(base:Heap)(fC fP fT fB fN fV fD fL fS:Addr)(fdC fdP fdT fdB fdN fdV fdD fdL fdS:FuncData):Prop where
 T:Txt mg
 CC:Can P w K mg base "_law_cell_at" 1 fC fdC ["script","k"] (jIV K)
 CP:Can P w K mg base "_law_pot" 1 fP fdP ["cell"] spPot
 CT:Can P w K mg base "_law_take" 1 fT fdT ["pot","wide"] yS
 CB:Can P w K mg base "_law_box" 3 fB fdB ["pot","most_things","most_pieces"] spBox
 CN:Can P w K mg base "_law_bent" 2 fN fdN ["pot","rows","wide"] jIW
 CV:Can P w K mg base "_law_written" 1 fV fdV ["box"] jCW
 CD:Can P w K mg base "_law_due_text" 5 fD fdD ["text"] jIU
 CL:Can P w K mg base "_law_told_text" 8 fL fdL ["text"] (jG7 K)
 CS:Can P w K mg base "_law_same" 6 fS fdS ["found","due"] (jCY 4)
abbrev lawL:List Stmt:=jFI ((jE sLaw).getD 0 (.Pass ⟨0,0,0,0⟩))
section
variable (G:LW P w K mg base fC fP fT fB fN fV fD fL fS fdC fdP fdT fdB fdN fdV fdD fdL fdS)(hr:Room 8 (XLaw P w K mg base f cdv A outer s H0 E).A)
def lt5A: { t:TS // JSs (XLaw P w K mg base f cdv A outer s H0 E) (lawL.drop 5) t} :=
 have nd:=scLaw.nd
 have _h:=G; have _h2:=hr
 ⟨_,(jA (jR (i:=6) nd rfl lL (jW jX (yU (j4 (yA) (j4 (jC) (j4 (qO) (j4 (yU (j4 (jv 5 rfl vL) j7 j6)) (j4 (jv 3 rfl vL) (j4 (jMR) (j4 (y8 (j4 (jM) j7 jB)) j7 jBO) jO9) j6) jJ0) jB) jB) jB)) (G.CT.je (hr.mono (by decide)) gD (j4 (jv 2 rfl vL) (j4 (jC) j7 jB) j6) j6) jBC) jCU)
   (jF (jZ (jt_w (yJ (kX (kI (G.CS.je (hr.mono (by decide)) gD (j4 (G.CL.je hr gD (j4 (jv 6 rfl vL) j7 j6) j6) (j4 (jC) j7 jB) jS) jS) jY)) (yL (kX (kI (G.CS.je (hr.mono (by decide)) gD (j4 (G.CL.je hr gD (j4 (G.CV.je (hr.mono (by decide)) gD (j4 (jv 3 rfl vL) j7 j6) j6) j7 jS) jS) (j4 (jv 3 rfl vL) j7 j6) jS) jS) jY))))) (jF (jN (qO))) jL)))⟩
def lt0A: { t:TS // JSs (XLaw P w K mg base f cdv A outer s H0 E) lawL t} :=
 have nd:=scLaw.nd
 ⟨_,(jA (jR (i:=2) nd rfl lL (G.CP.je (hr.mono (by decide)) gD (j4 (G.CC.je (hr.mono (by decide)) gD (j4 (jv 0 rfl vL) (j4 (jv 1 rfl vL) j7 j6) j6) j6) j7 jS) jS) kD) (jA (jR (i:=3) nd rfl lL (G.CB.je (hr.mono (by decide)) gD (j4 (jv 2 rfl vL) (j4 (jC) (j4 (jC) j7 jB) jB) j6) j6) kD) (jA (jR (i:=4) nd rfl lL (G.CN.je (hr.mono (by decide)) gD (j4 (jv 2 rfl vL) (j4 (qY aU bz bA jA6 (G.CV.je (hr.mono (by decide)) gD (j4 (jv 3 rfl vL) j7 j6) j6) (j4 (jM) j7 jB) jB) (j4 (jW kY (jv 3 rfl vL) (jC) jJ) j7 jO) jS) j6) j6) kD) (jA (jR (i:=5) nd rfl lL (qY aU dS dU jGI (jM) (j4 (jv 4 rfl vL) j7 j6) j6) kD) (jA (jZ (kX (kI (G.CS.je (hr.mono (by decide)) gD (j4 (G.CL.je hr gD (j4 (jv 5 rfl vL) j7 j6) j6) (j4 (G.CD.je (hr.mono (by decide)) gD (j4 (jv 5 rfl vL) j7 j6) j6) j7 jS) jS) jS) jY)) (jF (jN (qO))) jL) (lt5A G hr).2)))))⟩
def lawA: { t:TS // JSs (XLaw P w K mg base f cdv A outer s H0 E) (jE sLaw) t} :=
 have nd:=scLaw.nd
 ⟨_,(jA (jDU cL rfl (jDA gD G.T.range (j4 (jH (jLB rfl) gD G.T.max (by decide+kernel) (j4 (jC) (j4 (jH (jLA rfl) gD G.T.min (by decide+kernel) (j4 (jH jP gD G.T.len (by decide+kernel) (j4 (jv 0 rfl vL) j7 j6) j6) (j4 (jC) j7 jB) jS) jS) j7 jS) jB) jB) j7 jS) jS) (kU (i:=1) nd rfl lL) (lt0A G hr).2 jAI) (jF (jN (G.CS.je (hr.mono (by decide)) gD (j4 (G.CL.je hr gD (j4 (jM) j7 jB) jB) (j4 (jC) j7 jB) jS) jS))))⟩
theorem jIQ {D:Ends}{H:Hp}{p b:Addr}{N wi:Int}{ms:List Int}{pcs:List (List Int×Int)}{tx:PySem.Str}{v0 v1 v4 v6:Option V}(hp:H p=some (.lst [.int N]))(hN:0<=N)(hB:BoxAt H b wi ms pcs)(g:Good 16 32 wi ms pcs)
  (nx:∀ H' v6,Keep H H' p->D.nx [v0,v1,some (.ref p),some (.ref b),v4,some (.str tx),v6] H'):
  (lt5A G hr).1 D [v0,v1,some (.ref p),some (.ref b),v4,some (.str tx),v6] H:=by
 refine⟨_,rfl,by show (1:Nat)<=_; decide,fun l1 H1 d1 e1 n1=>?_⟩
 refine⟨_,rfl,fun q2 H2 d2 e2=>?_⟩
 refine⟨by show (1:Nat)<=_; decide,fun r3 H3 d3 e3=>?_⟩
 refine⟨by show (7:Nat)<=_; decide,fun l4 H4 d4 e4 n4=>?_⟩
 have E4:=((e1.trans e2).trans e3).trans e4
 have n4p:l4≠p:=(jD (((e1.trans e2).trans e3) _ _ hp) n4).symm
 have n1p:l1≠p:=(jD hp n1).symm
 refine⟨_,rfl,p,_,7,rfl,E4 _ _ hp,hN,by decide,by decide,fun N5 r hN5 r0 r1=>?_⟩
 have hp5:(L2.upd H4 p (.lst [.int N5])) p=some (.lst [.int N5]):=j8
 have k5:Keep H4 (L2.upd H4 p (.lst [.int N5])) p:=jA7
 generalize L2.upd H4 p (.lst [.int N5])=H5 at hp5 k5
 have K5:Keep H H5 p:=(Keep.of E4).tr k5
 have tk:∀ {c:Addr}{xs:List V},H4 c=some (.tup xs)->H5 c=some (.tup xs):=fun {c xs} h=>k5 _ _ h fun z=>by rw[z,E4 _ _ hp] at h; cases h
 have dk:H5 q2=some (.dK []):=k5 _ _ (e4 _ _ (e3 _ _ d2)) fun z=>by rw[z,e2 _ _ (e1 _ _ hp)] at d2; cases d2
 obtain⟨qm,qp,ps,b1,_⟩:=hB.ex
 obtain⟨v,hat,T,ty,kt⟩:∃ v,atI [V.non, .int 7, .bl true, .ref l1, .ref b, .ref q2, .ref r3] r=some v/\∃ T,TyOf K H5 v (.type T)/\kitOne K (.type T) (.type "str")=some false:=by
  obtain⟨j,rfl⟩:∃ j:Nat,r=(j:Int):=⟨r.toNat,by omega⟩
  have hj:j<7:=by omega
  match j,hj with
  | 0,_=>exact⟨_,rfl,_, .non,rfl⟩
  | 1,_=>exact⟨_,rfl,_, .int _,rfl⟩
  | 2,_=>exact⟨_,rfl,_, .bl _,rfl⟩
  | 3,_=>exact⟨_,rfl,_, .lst (k5 _ _ (e4 _ _ (e3 _ _ (e2 _ _ d1))) n1p),rfl⟩
  | 4,_=>exact⟨_,rfl,_, .tup (tk (E4 _ _ b1)),rfl⟩
  | 5,_=>exact⟨_,rfl,_, .dK dk,rfl⟩
  | 6,_=>exact⟨_,rfl,_, .tup (tk (e4 _ _ d3)),rfl⟩
 refine⟨l4,_,r,v,rfl,rfl,SqL.of (k5 _ _ d4 n4p),hat,?_⟩
 refine⟨_,rfl,v,rfl, .inr ⟨⟨T,ty,kt⟩,fun H6 e6=>?_⟩⟩
 refine⟨_,_, .int 0,rfl,rfl,rfl,(by show 0<=4; decide),(by show 0<=1000000; decide),fun H7 e7=>?_⟩
 have K7:Keep H H7 p:=K5.ex (e6.trans e7)
 have tu7:Tups H H7:=fun c xs h=>K7 _ _ h fun z=>by rw[z,hp] at h; cases h
 have hB7:=hB.mono tu7
 have gw:=g.wb
 have rt:=(jOB (w:=wi) (ms:=ms) (pcs:=pcs) ⟨by have:=gw.w0; omega,by have:=gw.w1; omega⟩ gw.m.bd gw.pb).1 (jMX g)
 refine⟨_,rfl,iteF ?_⟩
 refine⟨_,rfl,b,wi,ms,pcs,rfl,hB7,gw,fun H8 e8=>?_⟩
 refine⟨_,rfl, .inl ⟨_,rfl,gw.txt,fun k hk=>by(rw[rt] at hk; cases hk),fun x hx b9 H9 hB9 e9=>?_⟩⟩
 rw[rt] at hx
 cases hx
 refine⟨_,rfl,_,_,boxT wi ms pcs,rfl,box_T hB9,box_T (hB7.mono (e8.trans e9).tups),jLF _ _ _,gw.widB,fun HA eA=>?_⟩
 refine⟨_,rfl,iteF ?_⟩
 exact nx HA _ (K7.ex ((e8.trans e9).trans eA))
theorem jO5 {D:Ends}{H:Hp}{a:Addr}{ns:List Int}{k:Int}{v2 v3 v4 v5 v6:Option V}(hS:SqL K H a (ns.map V.int))(k0:0<=k)
  (nx:∀ H' v2 v3 v4 v5 v6,Ext H H'->D.nx [some (.ref a),some (.int k),v2,v3,v4,v5,v6] H'):
  (lt0A G hr).1 D [some (.ref a),some (.int k),v2,v3,v4,v5,v6] H:=by
 refine⟨_,rfl,_,rfl,a,ns,k,rfl,hS,k0,fun c=>?_⟩
 refine⟨c,rfl,fun p N hp hN=>?_⟩
 refine⟨_,rfl,p,N,16,12,rfl,j8,hN,by decide,by decide,by decide,by decide,fun b N1 wi ms pcs H1 hN1 hp1 hB c4 c5=>?_⟩
 have x1:Ext H H1:=c5.ext hp
 have g:Good 16 32 wi ms pcs:=⟨c4.w0,c4.w1,c4.mr,by have:=c4.pl; omega,c4.pg⟩
 have gw:=g.wb
 refine⟨_,rfl,_,rfl,b,wi,ms,pcs,rfl,hB,gw,fun H2 e2=>?_⟩
 have tl:=jDZ gw
 refine⟨rfl,_,_,rfl,rfl,by decide+kernel,by rw[ai]; omega,fun q hq=>?_⟩
 have e3:Ext H2 (L2.upd H2 q (.lst ((Txt.split (yI wi ms pcs) (("\n" :String):PySem.Str)).map V.str))):=(Ext.refl _).new hq _
 have d3:(L2.upd H2 q (.lst ((Txt.split (yI wi ms pcs) (("\n" :String):PySem.Str)).map V.str))) q=some (.lst ((Txt.split (yI wi ms pcs) (("\n" :String):PySem.Str)).map V.str)):=j8
 generalize L2.upd H2 q (.lst ((Txt.split (yI wi ms pcs) (("\n" :String):PySem.Str)).map V.str))=H3 at e3 d3
 rw[jC0] at d3
 have E3:=e2.trans e3
 have hB3:=hB.mono E3.tups
 obtain⟨qm,qp,ps,b1,_⟩:=hB3.ex
 have rw3:Rw 14 83 (headS wi ms::pcs.map rowS):=by
  refine⟨by have:=c4.pl; rw[aC,af]; omega,fun z hz=>?_⟩
  rcases av.mp hz with e | hz
  ·rw[e]
   exact⟨jEF wi ms,jEE gw.w0 gw.w1 gw.m⟩
  ·obtain⟨pc,hpc,rfl⟩:=aP.mp hz
   exact⟨jGA pc,jG9 (gw.p pc hpc).1 (gw.pb pc hpc).1⟩
 refine⟨_,rfl,b,_,0,_,rfl,rfl,SqT.of b1,rfl,p,q,N1,wi,_,rfl,E3 _ _ hp1,hN1,d3,rw3,by simp,g.w0,g.w1,fun l4 N4 ss H4 hN4 hp4 d4 w4 k4=>?_⟩
 have tj:=jMN (w4.mono (by decide) (ao _))
 have E4:∀ c o,H1 c=some o->c≠p->H4 c=some o:=fun c o h n=>k4 _ _ (E3 _ _ h) n
 have jl1:(PySem.Str.join (("\n" :String):PySem.Str) ss).length<=sizeLine:=by
  have:=tj.a.2
  rw[ai]
  omega
 have e1:((("\n" :String):PySem.Str)).length=1:=by decide+kernel
 have sl:jEY (("\n" :String):PySem.Str) ss<=sizeLine:=by
  rw[ai]
  have key:∀ (l:List PySem.Str) (n:Nat),(∀ z∈l,z.length<=94)->l.foldl (· + ·.length+((("\n" :String):PySem.Str)).length) n<=n+95*l.length:=by
   intro l
   induction l with
   | nil=>intro n _; simp
   | cons z l ih=>
    intro n h
    have h1:=h z (am ..)
    have:=ih (n+z.length+((("\n" :String):PySem.Str)).length) fun y hy=>h y (ar _ hy)
    rw[gA,aC]
    rw[e1] at this ⊢
    omega
  have:=key ss 0 fun z hz=>(w4.2 z hz).2
  have:=w4.1
  unfold jEY
  omega
 refine⟨rfl,_,rfl,_,l4,ss,rfl,rfl,d4,sl,jl1,?_⟩
 have hB4:=hB.mono (H':=H4) fun c xs h=>E4 _ _ h fun z=>by rw[z,hp1] at h; cases h
 have fin:∀ H5 v6 v4 v5,Keep H4 H5 p->D.nx [some (.ref a),some (.int k),some (.ref p),some (.ref b),v4,v5,v6] H5:=fun H5 v6 v4 v5 k5=>nx H5 _ _ _ _ _ fun c o h=>k5 _ _ (E4 _ _ (x1 _ _ h) (jD h hp)) (jD h hp)
 cases hx:rd (PySem.Str.join (("\n" :String):PySem.Str) ss) with
 | inl n=>
  refine⟨_,rfl,_,rfl, .inl ⟨_,rfl,tj,fun k hk H5 e5=>?_,fun x hx2=>by(rw[hx] at hx2; cases hx2)⟩⟩
  rw[hx] at hk
  cases hk
  refine⟨_,rfl,_,rfl,tj,fun k hk H6 e6=>?_,fun x hx2=>by(rw[hx] at hx2; cases hx2)⟩
  rw[hx] at hk
  cases hk
  refine⟨_,_, .int (n:Int),rfl,rfl,rfl,(by show 0<=4; decide),(by show 0<=1000000; decide),fun H7 e7=>?_⟩
  have E7:=(e5.trans e6).trans e7
  refine⟨_,rfl,iteF ?_⟩
  exact jIQ G hr (E7 _ _ hp4) hN4 (hB4.mono E7.tups) g fun H8 v6 k8=>fin H8 _ _ _ ((Keep.of E7).tr k8)
 | inr y=>
  have gy:=(jOC hx).wb
  refine⟨_,rfl,_,rfl, .inl ⟨_,rfl,tj,fun k hk=>by(rw[hx] at hk; cases hk),fun x hx2 b5 H5 hB5 e5=>?_⟩⟩
  rw[hx] at hx2
  cases hx2
  refine⟨_,rfl,_,rfl,tj,fun k hk=>by(rw[hx] at hk; cases hk),fun x hx2 b6 H6 hB6 e6=>?_⟩
  rw[hx] at hx2
  cases hx2
  refine⟨_,_,boxT y.1 y.2.1 y.2.2,rfl,box_T (hB5.mono e6.tups),box_T hB6,jLF _ _ _,gy.widB,fun H7 e7=>?_⟩
  have E7:=(e5.trans e6).trans e7
  refine⟨_,rfl,iteF ?_⟩
  exact jIQ G hr (E7 _ _ hp4) hN4 (hB4.mono E7.tups) g fun H8 v6 k8=>fin H8 _ _ _ ((Keep.of E7).tr k8)
end
theorem sq_ex {H H':Hp}{a:Addr}{xs:List V}(h:SqL K H a xs)(e:Ext H H'):SqL K H' a xs:=by
 rcases h with (h | ⟨o,h⟩) | h
 ·exact .inl (.inl (e _ _ h))
 ·exact .inl (.inr ⟨o,e _ _ h⟩)
 ·exact .inr h
def spLaw (K:W.Frag):Sp:=fun vs H Q _=>∃ (a:Addr) (ns:List Int),vs=[.ref a]/\SqL K H a (ns.map V.int)/\ns.length<=63/\∀ H',Q (.bl true) H'
theorem jR3 {fd:FuncData}(F:Fun K "law" "law" sLaw f fd)(G:LW P w K mg base fC fP fT fB fN fV fD fL fS fdC fdP fdT fdB fdN fdV fdD fdL fdS):FnOk P w K mg base CX0 9 f fd ["script"] (spLaw K):=by
 refine F.ok scLaw (fun vs H Q E h=>?_) (fun cdv A outer s H vs Q E hr h=>?_)
 ·obtain⟨_,_,rfl,_⟩:=h
  rfl
 ·obtain⟨a,ns,rfl,hS,hlen,q⟩:=h
  refine⟨_,(lawA G hr).2.h,?_⟩
  refine⟨_,rfl,a,_,rfl, .inl hS,_,_,rfl,_,_,rfl,_,rfl,?_,?_,jAX (fun i σ H2=>(∃ v1 v2 v3 v4 v5 v6,σ=[some (.ref a),v1,v2,v3,v4,v5,v6])/\Ext H H2) ⟨⟨_,_,_,_,_,_,rfl⟩,Ext.refl H⟩ ?_ ?_⟩
  ·split <;> split <;> omega
  ·rw[af]
   split <;> split <;> omega
  ·rintro i σ H2 hi ⟨⟨v1,v2,v3,v4,v5,v6,rfl⟩,x⟩
   exact jO5 G hr (sq_ex hS x) (by omega) fun H' v2 v3 v4 v5 v6 x'=>⟨⟨_,_,_,_,_,_,rfl⟩,x.trans x'⟩
  ·rintro σ H2 ⟨⟨v1,v2,v3,v4,v5,v6,rfl⟩,x⟩
   refine⟨_,rfl, .inl ⟨_,rfl,Sm.txt (Sm.lit (by decide+kernel)),fun k hk H3 e3=>?_,fun x hx=>by(rw[jGY] at hx; cases hx)⟩⟩
   rw[jGY] at hk
   cases hk
   exact⟨_,_, .int 0,rfl,rfl,rfl,(by show 0<=4; decide),(by show 0<=1000000; decide),fun H4 e4=>q H4⟩
end
end Eo
end
section
namespace Eo
open PySem L2
theorem qF {P:List Value->Prop} :∀ {us:List Value},us.length=1->(∀ a,P [a])->P us
 | [a],_,h=>h a
theorem lenU2 {P:List Value->Prop} :∀ {us:List Value},us.length=2->(∀ a b,P [a,b])->P us
 | [a,b],_,h=>h a b
theorem lenU3 {P:List Value->Prop} :∀ {us:List Value},us.length=3->(∀ a b c,P [a,b,c])->P us
 | [a,b,c],_,h=>h a b c
set_option maxHeartbeats 8000000 in
theorem all_mk {l:PySem.W.OpenLaw}{w:World}{K:W.Frag}{h:Heap}{mg:Str->Option Value}{fa f1 f2 f3 f4 f5 f6 f7 f8 f9 f10 f11 f12 f13 f14 f15 f16 f17 f18 f19 f20 f21 f22 f23 f24 f25 f26 f27 f28 f29 f30 f31:Addr}(X:K.In h)(G:h.Ns mainGlobals mg)(hfa:mg "law" =some (.ref fa))
  {od1 an1 od2 an2 od3 an3 od4 an4 od5 an5 od6 an6 od7 an7 od8 an8 od9 an9 od10 an10 od11 an11 od12 an12 od13 an13 od14 an14 od15 an15 od16 an16 od17 an17 od18 an18 od19 an19 od20 an20 od21 an21 od22 an22 od23 an23 od24 an24 od25 an25 od26 an26 od27 an27 od28 an28 od29 an29 od30 an30 od31 an31:Option Addr}{sl1 sl2 sl3 sl4 sl5 sl6 sl7 sl8 sl9 sl10 sl11 sl12 sl13 sl14 sl15 sl16 sl17 sl18 sl19 sl20 sl21 sl22 sl23 sl24 sl25 sl26 sl27 sl28 sl29 sl30 sl31:Array (Option Value)}{oc1 kV1 dc1 pm1 cd1 ct1 oc2 kV2 dc2 pm2 cd2 ct2 oc3 kV3 dc3 pm3 cd3 ct3 oc4 kV4 dc4 pm4 cd4 ct4 oc5 kV5 dc5 pm5 cd5 ct5 oc6 kV6 dc6 pm6 cd6 ct6 oc7 kV7 dc7 pm7 cd7 ct7 oc8 kV8 dc8 pm8 cd8 ct8 oc9 kV9 dc9 pm9 cd9 ct9 oc10 kV10 dc10 pm10 cd10 ct10 oc11 kV11 dc11 pm11 cd11 ct11 oc12 kV12 dc12 pm12 cd12 ct12 oc13 kV13 dc13 pm13 cd13 ct13 oc14 kV14 dc14 pm14 cd14 ct14 oc15 kV15 dc15 pm15 cd15 ct15 oc16 kV16 dc16 pm16 cd16 ct16 oc17 kV17 dc17 pm17 cd17 ct17 oc18 kV18 dc18 pm18 cd18 ct18 oc19 kV19 dc19 pm19 cd19 ct19 oc20 kV20 dc20 pm20 cd20 ct20 oc21 kV21 dc21 pm21 cd21 ct21 oc22 kV22 dc22 pm22 cd22 ct22 oc23 kV23 dc23 pm23 cd23 ct23 oc24 kV24 dc24 pm24 cd24 ct24 oc25 kV25 dc25 pm25 cd25 ct25 oc26 kV26 dc26 pm26 cd26 ct26 oc27 kV27 dc27 pm27 cd27 ct27 oc28 kV28 dc28 pm28 cd28 ct28 oc29 kV29 dc29 pm29 cd29 ct29 oc30 kV30 dc30 pm30 cd30 ct30 oc31 kV31 dc31 pm31 cd31 ct31:Value}{u1 u2 u3 u4:Tok}
  (a1:PySem.W.nsIn K mainGlobals "is_whole" =some (some (.ref f1))) (l1:K.lookup f1=some ⟨oc1,od1, .func (PySem.W.fnOf "is_whole" "is_whole" (jU jAN) (jE jAN) (j9 jAN) .none kV1 dc1 pm1 an1 cd1 ct1),sl1⟩) (c1:PySem.W.codeIn K cd1 "is_whole" =true) (k1:keepIn K (.ref f1)=true)
  (a2:PySem.W.nsIn K mainGlobals "is_rising" =some (some (.ref f2))) (l2:K.lookup f2=some ⟨oc2,od2, .func (PySem.W.fnOf "is_rising" "is_rising" (jU yY) (jE yY) (j9 yY) .none kV2 dc2 pm2 an2 cd2 ct2),sl2⟩) (c2:PySem.W.codeIn K cd2 "is_rising" =true) (k2:keepIn K (.ref f2)=true)
  (a3:PySem.W.nsIn K mainGlobals "is_lot" =some (some (.ref f3))) (l3:K.lookup f3=some ⟨oc3,od3, .func (PySem.W.fnOf "is_lot" "is_lot" (jU jB7) (jE jB7) (j9 jB7) .none kV3 dc3 pm3 an3 cd3 ct3),sl3⟩) (c3:PySem.W.codeIn K cd3 "is_lot" =true) (k3:keepIn K (.ref f3)=true)
  (a4:PySem.W.nsIn K mainGlobals "is_weight" =some (some (.ref f4))) (l4:K.lookup f4=some ⟨oc4,od4, .func (PySem.W.fnOf "is_weight" "is_weight" (jU jAF) (jE jAF) (j9 jAF) .none kV4 dc4 pm4 an4 cd4 ct4),sl4⟩) (c4:PySem.W.codeIn K cd4 "is_weight" =true) (k4:keepIn K (.ref f4)=true)
  (a5:PySem.W.nsIn K mainGlobals "is_piece" =some (some (.ref f5))) (l5:K.lookup f5=some ⟨oc5,od5, .func (PySem.W.fnOf "is_piece" "is_piece" (jU jB6) (jE jB6) (j9 jB6) .none kV5 dc5 pm5 an5 cd5 ct5),sl5⟩) (c5:PySem.W.codeIn K cd5 "is_piece" =true) (k5:keepIn K (.ref f5)=true)
  (a6:PySem.W.nsIn K mainGlobals "are_pieces" =some (some (.ref f6))) (l6:K.lookup f6=some ⟨oc6,od6, .func (PySem.W.fnOf "are_pieces" "are_pieces" (jU qD) (jE qD) (j9 qD) .none kV6 dc6 pm6 an6 cd6 ct6),sl6⟩) (c6:PySem.W.codeIn K cd6 "are_pieces" =true) (k6:keepIn K (.ref f6)=true)
  (a7:PySem.W.nsIn K mainGlobals "is_box" =some (some (.ref f7))) (l7:K.lookup f7=some ⟨oc7,od7, .func (PySem.W.fnOf "is_box" "is_box" (jU jB8) (jE jB8) (j9 jB8) .none kV7 dc7 pm7 an7 cd7 ct7),sl7⟩) (c7:PySem.W.codeIn K cd7 "is_box" =true) (k7:keepIn K (.ref f7)=true)
  (a8:PySem.W.nsIn K mainGlobals "number_in" =some (some (.ref f8))) (l8:K.lookup f8=some ⟨oc8,od8, .func (PySem.W.fnOf "number_in" "number_in" (jU qP) (jE qP) (j9 qP) .none kV8 dc8 pm8 an8 cd8 ct8),sl8⟩) (c8:PySem.W.codeIn K cd8 "number_in" =true) (k8:keepIn K (.ref f8)=true)
  (a9:PySem.W.nsIn K mainGlobals "numbers_in" =some (some (.ref f9))) (l9:K.lookup f9=some ⟨oc9,od9, .func (PySem.W.fnOf "numbers_in" "numbers_in" (jU qE) (jE qE) (j9 qE) .none kV9 dc9 pm9 an9 cd9 ct9),sl9⟩) (c9:PySem.W.codeIn K cd9 "numbers_in" =true) (k9:keepIn K (.ref f9)=true)
  (a10:PySem.W.nsIn K mainGlobals "head_in" =some (some (.ref f10))) (l10:K.lookup f10=some ⟨oc10,od10, .func (PySem.W.fnOf "head_in" "head_in" (jU jAG) (jE jAG) (j9 jAG) .none kV10 dc10 pm10 an10 cd10 ct10),sl10⟩) (c10:PySem.W.codeIn K cd10 "head_in" =true) (k10:keepIn K (.ref f10)=true)
  (a11:PySem.W.nsIn K mainGlobals "piece_in" =some (some (.ref f11))) (l11:K.lookup f11=some ⟨oc11,od11, .func (PySem.W.fnOf "piece_in" "piece_in" (jU jA3) (jE jA3) (j9 jA3) .none kV11 dc11 pm11 an11 cd11 ct11),sl11⟩) (c11:PySem.W.codeIn K cd11 "piece_in" =true) (k11:keepIn K (.ref f11)=true)
  (a12:PySem.W.nsIn K mainGlobals "read" =some (some (.ref f12))) (l12:K.lookup f12=some ⟨oc12,od12, .func (PySem.W.fnOf "read" "read" (jU sRead) (jE sRead) (j9 sRead) .none kV12 dc12 pm12 an12 cd12 ct12),sl12⟩) (c12:PySem.W.codeIn K cd12 "read" =true) (k12:keepIn K (.ref f12)=true)
  (a13:PySem.W.nsIn K mainGlobals "_law_cell_at" =some (some (.ref f13))) (l13:K.lookup f13=some ⟨oc13,od13, .func (PySem.W.fnOf "_law_cell_at" "_law_cell_at" (jU sCell) (jE sCell) (j9 sCell) .none kV13 dc13 pm13 an13 cd13 ct13),sl13⟩) (c13:PySem.W.codeIn K cd13 "_law_cell_at" =true) (k13:keepIn K (.ref f13)=true)
  (a14:PySem.W.nsIn K mainGlobals "_law_pot" =some (some (.ref f14))) (l14:K.lookup f14=some ⟨oc14,od14, .func (PySem.W.fnOf "_law_pot" "_law_pot" (jU sPot) (jE sPot) (j9 sPot) .none kV14 dc14 pm14 an14 cd14 ct14),sl14⟩) (c14:PySem.W.codeIn K cd14 "_law_pot" =true) (k14:keepIn K (.ref f14)=true)
  (a15:PySem.W.nsIn K mainGlobals "_law_take" =some (some (.ref f15))) (l15:K.lookup f15=some ⟨oc15,od15, .func (PySem.W.fnOf "_law_take" "_law_take" (jU sTake) (jE sTake) (j9 sTake) .none kV15 dc15 pm15 an15 cd15 ct15),sl15⟩) (c15:PySem.W.codeIn K cd15 "_law_take" =true) (k15:keepIn K (.ref f15)=true)
  (a16:PySem.W.nsIn K mainGlobals "_law_lot" =some (some (.ref f16))) (l16:K.lookup f16=some ⟨oc16,od16, .func (PySem.W.fnOf "_law_lot" "_law_lot" (jU sLot) (jE sLot) (j9 sLot) .none kV16 dc16 pm16 an16 cd16 ct16),sl16⟩) (c16:PySem.W.codeIn K cd16 "_law_lot" =true) (k16:keepIn K (.ref f16)=true)
  (a17:PySem.W.nsIn K mainGlobals "_law_box" =some (some (.ref f17))) (l17:K.lookup f17=some ⟨oc17,od17, .func (PySem.W.fnOf "_law_box" "_law_box" (jU sBox) (jE sBox) (j9 sBox) .none kV17 dc17 pm17 an17 cd17 ct17),sl17⟩) (c17:PySem.W.codeIn K cd17 "_law_box" =true) (k17:keepIn K (.ref f17)=true)
  (a18:PySem.W.nsIn K mainGlobals "_law_whole" =some (some (.ref f18))) (l18:K.lookup f18=some ⟨oc18,od18, .func (PySem.W.fnOf "_law_whole" "_law_whole" (jU qJ) (jE qJ) (j9 qJ) .none kV18 dc18 pm18 an18 cd18 ct18),sl18⟩) (c18:PySem.W.codeIn K cd18 "_law_whole" =true) (k18:keepIn K (.ref f18)=true)
  (a19:PySem.W.nsIn K mainGlobals "_law_same" =some (some (.ref f19))) (l19:K.lookup f19=some ⟨oc19,od19, .func (PySem.W.fnOf "_law_same" "_law_same" (jU xD) (jE xD) (j9 xD) .none kV19 dc19 pm19 an19 cd19 ct19),sl19⟩) (c19:PySem.W.codeIn K cd19 "_law_same" =true) (k19:keepIn K (.ref f19)=true)
  (a20:PySem.W.nsIn K mainGlobals "_law_written" =some (some (.ref f20))) (l20:K.lookup f20=some ⟨oc20,od20, .func (PySem.W.fnOf "_law_written" "_law_written" (jU qS) (jE qS) (j9 qS) .none kV20 dc20 pm20 an20 cd20 ct20),sl20⟩) (c20:PySem.W.codeIn K cd20 "_law_written" =true) (k20:keepIn K (.ref f20)=true)
  (a21:PySem.W.nsIn K mainGlobals "_law_number" =some (some (.ref f21))) (l21:K.lookup f21=some ⟨oc21,od21, .func (PySem.W.fnOf "_law_number" "_law_number" (jU xG) (jE xG) (j9 xG) .none kV21 dc21 pm21 an21 cd21 ct21),sl21⟩) (c21:PySem.W.codeIn K cd21 "_law_number" =true) (k21:keepIn K (.ref f21)=true)
  (a22:PySem.W.nsIn K mainGlobals "_law_numbers" =some (some (.ref f22))) (l22:K.lookup f22=some ⟨oc22,od22, .func (PySem.W.fnOf "_law_numbers" "_law_numbers" (jU qW) (jE qW) (j9 qW) .none kV22 dc22 pm22 an22 cd22 ct22),sl22⟩) (c22:PySem.W.codeIn K cd22 "_law_numbers" =true) (k22:keepIn K (.ref f22)=true)
  (a23:PySem.W.nsIn K mainGlobals "_law_head" =some (some (.ref f23))) (l23:K.lookup f23=some ⟨oc23,od23, .func (PySem.W.fnOf "_law_head" "_law_head" (jU yW) (jE yW) (j9 yW) .none kV23 dc23 pm23 an23 cd23 ct23),sl23⟩) (c23:PySem.W.codeIn K cd23 "_law_head" =true) (k23:keepIn K (.ref f23)=true)
  (a24:PySem.W.nsIn K mainGlobals "_law_piece" =some (some (.ref f24))) (l24:K.lookup f24=some ⟨oc24,od24, .func (PySem.W.fnOf "_law_piece" "_law_piece" (jU yC) (jE yC) (j9 yC) .none kV24 dc24 pm24 an24 cd24 ct24),sl24⟩) (c24:PySem.W.codeIn K cd24 "_law_piece" =true) (k24:keepIn K (.ref f24)=true)
  (a25:PySem.W.nsIn K mainGlobals "_law_upto" =some (some (.ref f25))) (l25:K.lookup f25=some ⟨oc25,od25, .func (PySem.W.fnOf "_law_upto" "_law_upto" (jU sUpto) (jE sUpto) (j9 sUpto) .none kV25 dc25 pm25 an25 cd25 ct25),sl25⟩) (c25:PySem.W.codeIn K cd25 "_law_upto" =true) (k25:keepIn K (.ref f25)=true)
  (a26:PySem.W.nsIn K mainGlobals "_law_lot_right" =some (some (.ref f26))) (l26:K.lookup f26=some ⟨oc26,od26, .func (PySem.W.fnOf "_law_lot_right" "_law_lot_right" (jU xE) (jE xE) (j9 xE) .none kV26 dc26 pm26 an26 cd26 ct26),sl26⟩) (c26:PySem.W.codeIn K cd26 "_law_lot_right" =true) (k26:keepIn K (.ref f26)=true)
  (a27:PySem.W.nsIn K mainGlobals "_law_box_right" =some (some (.ref f27))) (l27:K.lookup f27=some ⟨oc27,od27, .func (PySem.W.fnOf "_law_box_right" "_law_box_right" (jU sBoxR) (jE sBoxR) (j9 sBoxR) .none kV27 dc27 pm27 an27 cd27 ct27),sl27⟩) (c27:PySem.W.codeIn K cd27 "_law_box_right" =true) (k27:keepIn K (.ref f27)=true)
  (a28:PySem.W.nsIn K mainGlobals "_law_due_text" =some (some (.ref f28))) (l28:K.lookup f28=some ⟨oc28,od28, .func (PySem.W.fnOf "_law_due_text" "_law_due_text" (jU sDueT) (jE sDueT) (j9 sDueT) .none kV28 dc28 pm28 an28 cd28 ct28),sl28⟩) (c28:PySem.W.codeIn K cd28 "_law_due_text" =true) (k28:keepIn K (.ref f28)=true)
  (a29:PySem.W.nsIn K mainGlobals "_law_told_text" =some (some (.ref f29))) (l29:K.lookup f29=some ⟨oc29,od29, .func (PySem.W.fnOf "_law_told_text" "_law_told_text" (jU qV) (jE qV) (j9 qV) .none kV29 dc29 pm29 an29 cd29 ct29),sl29⟩) (c29:PySem.W.codeIn K cd29 "_law_told_text" =true) (k29:keepIn K (.ref f29)=true)
  (a30:PySem.W.nsIn K mainGlobals "_law_bent" =some (some (.ref f30))) (l30:K.lookup f30=some ⟨oc30,od30, .func (PySem.W.fnOf "_law_bent" "_law_bent" (jU qH) (jE qH) (j9 qH) .none kV30 dc30 pm30 an30 cd30 ct30),sl30⟩) (c30:PySem.W.codeIn K cd30 "_law_bent" =true) (k30:keepIn K (.ref f30)=true)
  (a31:PySem.W.nsIn K mainGlobals "law" =some (some (.ref f31))) (l31:K.lookup f31=some ⟨oc31,od31, .func (PySem.W.fnOf "law" "law" (jU sLaw) (jE sLaw) (j9 sLaw) .none kV31 dc31 pm31 an31 cd31 ct31),sl31⟩) (c31:PySem.W.codeIn K cd31 "law" =true) (k31:keepIn K (.ref f31)=true)
  (g1:PySem.W.nsIn K mainGlobals "MOST_THINGS" =some (some (.int 16 u1))) (g2:PySem.W.nsIn K mainGlobals "MOST_PIECES" =some (some (.int 32 u2))) (g3:PySem.W.nsIn K mainGlobals "MOST_FIGURES" =some (some (.int 13 u3))) (g4:PySem.W.nsIn K mainGlobals "FIGURES" =some (some (.str "0123456789" u4))) (z1:PySem.W.nsIn K mainGlobals "len" =some none) (z2:PySem.W.nsIn K mainGlobals "range" =some none) (z3:PySem.W.nsIn K mainGlobals "tuple" =some none) (z4:PySem.W.nsIn K mainGlobals "sorted" =some none) (z5:PySem.W.nsIn K mainGlobals "set" =some none) (z6:PySem.W.nsIn K mainGlobals "list" =some none) (z7:PySem.W.nsIn K mainGlobals "int" =some none) (z8:PySem.W.nsIn K mainGlobals "isinstance" =some none) (z9:PySem.W.nsIn K mainGlobals "bool" =some none) (z10:PySem.W.nsIn K mainGlobals "str" =some none) (z11:PySem.W.nsIn K mainGlobals "all" =some none) (z12:PySem.W.nsIn K mainGlobals "zip" =some none) (z13:PySem.W.nsIn K mainGlobals "max" =some none) (z14:PySem.W.nsIn K mainGlobals "min" =some none) (z15:PySem.W.nsIn K mainGlobals "any" =some none) (z16:PySem.W.nsIn K mainGlobals "sum" =some none) (z17:PySem.W.nsIn K mainGlobals "ValueError" =some none) {clS:Addr}(xC:PySem.W.nsIn K mainGlobals "NoText" =some (some (.ref clS))) {f32:Addr}{od32 an32:Option Addr}{sl32:Array (Option Value)}{oc32 kV32 dc32 pm32 cd32 ct32:Value}(l32:K.lookup f32=some ⟨oc32,od32, .func (PySem.W.fnOf "__init__" "NoText.__init__" (jU jAO) (jE jAO) (j9 jAO) .none kV32 dc32 pm32 an32 cd32 ct32),sl32⟩) (c32:PySem.W.codeIn K cd32 "NoText.__init__" =true) (k32:keepIn K (.ref f32)=true) (a32:findIn K (.ref clS) "__init__" =some (some (.ref f32))) (n32:isFn K (.ref f32)=true) {cO:Addr}{cl:Nat->Addr}(x0:PySem.W.nsIn K mainGlobals "OnceError" =some (some (.ref cO))) (x5:∀ i x,jCO[i]?=some x->PySem.W.nsIn K mainGlobals x=some (some (.ref (cl i)))) (x8:XCls K clS cO f32 "row") (x3:Above K clS cO) (x4:ExcIs K clS) (x6:∀ i,i<10->kitOne K (.ref clS) (.ref (cl i))=some (decide (i=6))) (x7:kitOne K (.ref clS) (.type "ValueError")=some true) (x9:hasDictIn K clS=true):
  ∃ fd:FuncData,(∀ (s:Shared) (v:Value),BindsTo s fd ⟨[v],[]⟩ [("script",v)])/\∀ base:Heap,K.In base->base.Ns mainGlobals mg->FnOk l.prog w K mg base CX0 9 fa fd ["script"] (spLaw K):=by
 have e:=hfa.symm.trans (fK X G a31)
 cases e
 have T:Txt mg:=⟨aR X G z1,aR X G z2,aR X G z3,aR X G z4,aR X G z5,aR X G z6,aR X G z7,aR X G z8,aR X G z9,aR X G z10,aR X G z11,aR X G z12,aR X G z13,aR X G z14,aR X G z15,aR X G z16,aR X G z17⟩
 have F1:=kN (st:=jAN) l1 c1 k1
 have b1:=F1.binds (ps:=["thing"]) fun _ _ _ _ _ _ us hl=>qF (P:=fun us=>bindArgs _ ⟨us,[]⟩=pure (List.zip _ us)) hl fun _=>rfl
 have F2:=kN (st:=yY) l2 c2 k2
 have b2:=F2.binds (ps:=["thing"]) fun _ _ _ _ _ _ us hl=>qF (P:=fun us=>bindArgs _ ⟨us,[]⟩=pure (List.zip _ us)) hl fun _=>rfl
 have F3:=kN (st:=jB7) l3 c3 k3
 have b3:=F3.binds (ps:=["thing","many"]) fun _ _ _ _ _ _ us hl=>lenU2 (P:=fun us=>bindArgs _ ⟨us,[]⟩=pure (List.zip _ us)) hl fun _ _=>rfl
 have F4:=kN (st:=jAF) l4 c4 k4
 have b4:=F4.binds (ps:=["thing"]) fun _ _ _ _ _ _ us hl=>qF (P:=fun us=>bindArgs _ ⟨us,[]⟩=pure (List.zip _ us)) hl fun _=>rfl
 have F5:=kN (st:=jB6) l5 c5 k5
 have b5:=F5.binds (ps:=["thing","many"]) fun _ _ _ _ _ _ us hl=>lenU2 (P:=fun us=>bindArgs _ ⟨us,[]⟩=pure (List.zip _ us)) hl fun _ _=>rfl
 have F6:=kN (st:=qD) l6 c6 k6
 have b6:=F6.binds (ps:=["thing","many"]) fun _ _ _ _ _ _ us hl=>lenU2 (P:=fun us=>bindArgs _ ⟨us,[]⟩=pure (List.zip _ us)) hl fun _ _=>rfl
 have F7:=kN (st:=jB8) l7 c7 k7
 have b7:=F7.binds (ps:=["thing"]) fun _ _ _ _ _ _ us hl=>qF (P:=fun us=>bindArgs _ ⟨us,[]⟩=pure (List.zip _ us)) hl fun _=>rfl
 have F8:=kN (st:=qP) l8 c8 k8
 have b8:=F8.binds (ps:=["word"]) fun _ _ _ _ _ _ us hl=>qF (P:=fun us=>bindArgs _ ⟨us,[]⟩=pure (List.zip _ us)) hl fun _=>rfl
 have F9:=kN (st:=qE) l9 c9 k9
 have b9:=F9.binds (ps:=["word"]) fun _ _ _ _ _ _ us hl=>qF (P:=fun us=>bindArgs _ ⟨us,[]⟩=pure (List.zip _ us)) hl fun _=>rfl
 have F10:=kN (st:=jAG) l10 c10 k10
 have b10:=F10.binds (ps:=["row"]) fun _ _ _ _ _ _ us hl=>qF (P:=fun us=>bindArgs _ ⟨us,[]⟩=pure (List.zip _ us)) hl fun _=>rfl
 have F11:=kN (st:=jA3) l11 c11 k11
 have b11:=F11.binds (ps:=["row"]) fun _ _ _ _ _ _ us hl=>qF (P:=fun us=>bindArgs _ ⟨us,[]⟩=pure (List.zip _ us)) hl fun _=>rfl
 have F12:=kN (st:=sRead) l12 c12 k12
 have b12:=F12.binds (ps:=["text"]) fun _ _ _ _ _ _ us hl=>qF (P:=fun us=>bindArgs _ ⟨us,[]⟩=pure (List.zip _ us)) hl fun _=>rfl
 have F13:=kN (st:=sCell) l13 c13 k13
 have b13:=F13.binds (ps:=["script","k"]) fun _ _ _ _ _ _ us hl=>lenU2 (P:=fun us=>bindArgs _ ⟨us,[]⟩=pure (List.zip _ us)) hl fun _ _=>rfl
 have F14:=kN (st:=sPot) l14 c14 k14
 have b14:=F14.binds (ps:=["cell"]) fun _ _ _ _ _ _ us hl=>qF (P:=fun us=>bindArgs _ ⟨us,[]⟩=pure (List.zip _ us)) hl fun _=>rfl
 have F15:=kN (st:=sTake) l15 c15 k15
 have b15:=F15.binds (ps:=["pot","wide"]) fun _ _ _ _ _ _ us hl=>lenU2 (P:=fun us=>bindArgs _ ⟨us,[]⟩=pure (List.zip _ us)) hl fun _ _=>rfl
 have F16:=kN (st:=sLot) l16 c16 k16
 have b16:=F16.binds (ps:=["pot","wide"]) fun _ _ _ _ _ _ us hl=>lenU2 (P:=fun us=>bindArgs _ ⟨us,[]⟩=pure (List.zip _ us)) hl fun _ _=>rfl
 have F17:=kN (st:=sBox) l17 c17 k17
 have b17:=F17.binds (ps:=["pot","most_things","most_pieces"]) fun _ _ _ _ _ _ us hl=>lenU3 (P:=fun us=>bindArgs _ ⟨us,[]⟩=pure (List.zip _ us)) hl fun _ _ _=>rfl
 have F18:=kN (st:=qJ) l18 c18 k18
 have b18:=F18.binds (ps:=["found"]) fun _ _ _ _ _ _ us hl=>qF (P:=fun us=>bindArgs _ ⟨us,[]⟩=pure (List.zip _ us)) hl fun _=>rfl
 have F19:=kN (st:=xD) l19 c19 k19
 have b19:=F19.binds (ps:=["found","due"]) fun _ _ _ _ _ _ us hl=>lenU2 (P:=fun us=>bindArgs _ ⟨us,[]⟩=pure (List.zip _ us)) hl fun _ _=>rfl
 have F20:=kN (st:=qS) l20 c20 k20
 have b20:=F20.binds (ps:=["box"]) fun _ _ _ _ _ _ us hl=>qF (P:=fun us=>bindArgs _ ⟨us,[]⟩=pure (List.zip _ us)) hl fun _=>rfl
 have F21:=kN (st:=xG) l21 c21 k21
 have b21:=F21.binds (ps:=["word"]) fun _ _ _ _ _ _ us hl=>qF (P:=fun us=>bindArgs _ ⟨us,[]⟩=pure (List.zip _ us)) hl fun _=>rfl
 have F22:=kN (st:=qW) l22 c22 k22
 have b22:=F22.binds (ps:=["word"]) fun _ _ _ _ _ _ us hl=>qF (P:=fun us=>bindArgs _ ⟨us,[]⟩=pure (List.zip _ us)) hl fun _=>rfl
 have F23:=kN (st:=yW) l23 c23 k23
 have b23:=F23.binds (ps:=["row"]) fun _ _ _ _ _ _ us hl=>qF (P:=fun us=>bindArgs _ ⟨us,[]⟩=pure (List.zip _ us)) hl fun _=>rfl
 have F24:=kN (st:=yC) l24 c24 k24
 have b24:=F24.binds (ps:=["row"]) fun _ _ _ _ _ _ us hl=>qF (P:=fun us=>bindArgs _ ⟨us,[]⟩=pure (List.zip _ us)) hl fun _=>rfl
 have F25:=kN (st:=sUpto) l25 c25 k25
 have b25:=F25.binds (ps:=["thing","least","most"]) fun _ _ _ _ _ _ us hl=>lenU3 (P:=fun us=>bindArgs _ ⟨us,[]⟩=pure (List.zip _ us)) hl fun _ _ _=>rfl
 have F26:=kN (st:=xE) l26 c26 k26
 have b26:=F26.binds (ps:=["thing","wide"]) fun _ _ _ _ _ _ us hl=>lenU2 (P:=fun us=>bindArgs _ ⟨us,[]⟩=pure (List.zip _ us)) hl fun _ _=>rfl
 have F27:=kN (st:=sBoxR) l27 c27 k27
 have b27:=F27.binds (ps:=["thing"]) fun _ _ _ _ _ _ us hl=>qF (P:=fun us=>bindArgs _ ⟨us,[]⟩=pure (List.zip _ us)) hl fun _=>rfl
 have F28:=kN (st:=sDueT) l28 c28 k28
 have b28:=F28.binds (ps:=["text"]) fun _ _ _ _ _ _ us hl=>qF (P:=fun us=>bindArgs _ ⟨us,[]⟩=pure (List.zip _ us)) hl fun _=>rfl
 have F29:=kN (st:=qV) l29 c29 k29
 have b29:=F29.binds (ps:=["text"]) fun _ _ _ _ _ _ us hl=>qF (P:=fun us=>bindArgs _ ⟨us,[]⟩=pure (List.zip _ us)) hl fun _=>rfl
 have F30:=kN (st:=qH) l30 c30 k30
 have b30:=F30.binds (ps:=["pot","rows","wide"]) fun _ _ _ _ _ _ us hl=>lenU3 (P:=fun us=>bindArgs _ ⟨us,[]⟩=pure (List.zip _ us)) hl fun _ _ _=>rfl
 have F31:=kN (st:=sLaw) l31 c31 k31
 have F32:=kN (st:=jAO) l32 c32 k32
 have b32:=F32.binds (ps:=["self","row"]) fun _ _ _ _ _ _ us hl=>lenU2 (P:=fun us=>bindArgs _ ⟨us,[]⟩=pure (List.zip _ us)) hl fun _ _=>rfl
 have MH32:Meth K clS "__init__" f32:=⟨a32,n32,k32⟩
 refine⟨PySem.W.fnOf "law" "law" (jU sLaw) (jE sLaw) (j9 sLaw) .none kV31 dc31 pm31 an31 cd31 ct31,fun s v=> .of_eq rfl,fun base KB _=>?_⟩
 have M:=fun {x:Str}{f:Addr}(a:PySem.W.nsIn K mainGlobals x=some (some (.ref f)))=>fK X G a
 have M':=fun {x:Str}{v:Value}(a:PySem.W.nsIn K mainGlobals x=some (some v))=>fK X G a
 have KD:Kinds K mg clS cl fun i=>decide (i=6):=⟨x4,fun i x h=>M (x5 i x h),x6,x7⟩
 have C1:Can l.prog w K mg base "is_whole" 1 f1 _ ["thing"] spWh:=⟨jJN F1 T,M a1,k1,b1⟩
 have C2:Can l.prog w K mg base "is_rising" 2 f2 _ ["thing"] (spB risB):=⟨jJP F2 T C1,M a2,k2,b2⟩
 have C3:Can l.prog w K mg base "is_lot" 3 f3 _ ["thing","many"] (spB2 lotB):=⟨jMD F3 T C2,M a3,k3,b3⟩
 have C4:Can l.prog w K mg base "is_weight" 2 f4 _ ["thing"] (spB wtB):=⟨jJO F4 T C1,M a4,k4,b4⟩
 have C5:Can l.prog w K mg base "is_piece" 4 f5 _ ["thing","many"] (spB2 jV):=⟨jM9 F5 T C3 C4,M a5,k5,b5⟩
 have C6:Can l.prog w K mg base "are_pieces" 5 f6 _ ["thing","many"] (spB2 psB):=⟨jJQ F6 T (M' g2) C5,M a6,k6,b6⟩
 have C7:Can l.prog w K mg base "is_box" 6 f7 _ ["thing"] (spB bxB):=⟨jME F7 T (M' g1) C1 C3 C6,M a7,k7,b7⟩
 have C8:Can l.prog w K mg base "number_in" 1 f8 _ ["word"] jAU:=⟨jMA F8 T (M' g4) (M' g3),M a8,k8,b8⟩
 have C9:Can l.prog w K mg base "numbers_in" 2 f9 _ ["word"] jB0:=⟨jJR F9 T C8,M a9,k9,b9⟩
 have C10:Can l.prog w K mg base "head_in" 3 f10 _ ["row"] (jC8 hdO):=⟨jJT F10 T C8 C9,M a10,k10,b10⟩
 have C11:Can l.prog w K mg base "piece_in" 3 f11 _ ["row"] (jC8 pcO):=⟨jI5 F11 T C8 C9,M a11,k11,b11⟩
 have C12:CanR clS l.prog w K mg base "read" 7 f12 _ ["text"] (jGV K):=⟨jP2 F12 T (M' g2) C10 C11 C7 C5 x8 (jR1 F32 x8 (M x0)) b32 (M xC),M a12,k12,b12⟩
 have C13:Can l.prog w K mg base "_law_cell_at" 1 f13 _ ["script","k"] (jIV K):=⟨jP7 F13 T,M a13,k13,b13⟩
 have C14:Can l.prog w K mg base "_law_pot" 1 f14 _ ["cell"] spPot:=⟨jR0 F14 T,M a14,k14,b14⟩
 have C15:Can l.prog w K mg base "_law_take" 1 f15 _ ["pot","wide"] yS:=⟨jP1 F15,M a15,k15,b15⟩
 have C16:Can l.prog w K mg base "_law_lot" 2 f16 _ ["pot","wide"] xA:=⟨jR2 F16 T C15,M a16,k16,b16⟩
 have C17:Can l.prog w K mg base "_law_box" 3 f17 _ ["pot","most_things","most_pieces"] spBox:=⟨jR4 F17 T C15 C16,M a17,k17,b17⟩
 have C18:Can l.prog w K mg base "_law_whole" 1 f18 _ ["found"] spWh:=⟨jM7 F18 T,M a18,k18,b18⟩
 have CWI:Can l.prog w K mg base "_law_whole" 1 f18 _ ["found"] jCX:=⟨jNY C18.G,M a18,k18,b18⟩
 have CWS:CanS l.prog w K mg base "_law_whole" 1 f18 _ ["found"] spWhS:=⟨jJM F18 T,M a18,k18,b18⟩
 have C19:Can l.prog w K mg base "_law_same" 6 f19 _ ["found","due"] (jCY 4):=⟨jH6 F19 T CWI (M a19) k19 b19 4,M a19,k19,b19⟩
 have C20:Can l.prog w K mg base "_law_written" 1 f20 _ ["box"] jCW:=⟨jP5 F20 T,M a20,k20,b20⟩
 have C21:Can l.prog w K mg base "_law_number" 1 f21 _ ["word"] jCA:=⟨jP4 F21 T,M a21,k21,b21⟩
 have C22:Can l.prog w K mg base "_law_numbers" 2 f22 _ ["word"] jC1:=⟨jMB F22 T C21,M a22,k22,b22⟩
 have C23:Can l.prog w K mg base "_law_head" 3 f23 _ ["row"] (jC9 lhd fun x=>hdT x.1 x.2):=⟨jMC F23 T C21 C22,M a23,k23,b23⟩
 have C24:Can l.prog w K mg base "_law_piece" 3 f24 _ ["row"] (jC9 lpc obPc):=⟨jJS F24 T C21 C22,M a24,k24,b24⟩
 have C25:Can l.prog w K mg base "_law_upto" 2 f25 _ ["thing","least","most"] spUp:=⟨jP0 F25 T C18,M a25,k25,b25⟩
 have C26:Can l.prog w K mg base "_law_lot_right" 3 f26 _ ["thing","wide"] (spB2 lotB):=⟨jP3 F26 T C25,M a26,k26,b26⟩
 have C27:Can l.prog w K mg base "_law_box_right" 4 f27 _ ["thing"] (spB bxB):=⟨jP8 F27 T C25 C26,M a27,k27,b27⟩
 have C28:Can l.prog w K mg base "_law_due_text" 5 f28 _ ["text"] jIU:=⟨jP6 F28 T C23 C24 C27,M a28,k28,b28⟩
 have C29:Can l.prog w K mg base "_law_told_text" 8 f29 _ ["text"] (jG7 K):=⟨jM8 F29 T C12 CWS KD x9 x8.nr (M x0) x3,M a29,k29,b29⟩
 have C30:Can l.prog w K mg base "_law_bent" 2 f30 _ ["pot","rows","wide"] jIW:=⟨jP9 F30 T C15,M a30,k30,b30⟩
 exact jR3 F31 ⟨T,C13,C14,C15,C17,C30,C20,C28,C29,C19⟩
def kcl (i:Nat):Addr:=[173,101,185,161,137,197,89,125,149,113].getD i 0
theorem kx5 (P:Params):∀ i x,jCO[i]?=some x->PySem.W.nsIn (kK P) mainGlobals x=some (some (.ref (kcl i)))
 | 0,_,rfl | 1,_,rfl | 2,_,rfl | 3,_,rfl | 4,_,rfl | 5,_,rfl | 6,_,rfl | 7,_,rfl | 8,_,rfl | 9,_,rfl=>by kernel_rfl
 | _+10,_,h=>by cases h
theorem kcCN (P:Params){h:Heap}(X:(kK P).In h):h.get? 89=some (excClassObj "NoText" "NoText" 89 88 [.ref 69] [.ref 69, .type "ValueError", .type "Exception", .type "BaseException", .type "object"] true [] [] false none none (some (.ref 73)) (none) (some (.str "NoText" 265)) (some (.str "NoText" 273)) (some (.bool true)) "ValueError.__new__"):=X 89 _ (by kernel_rfl)
def kesCN (P:Params):Array DictEntry:=#[kE P "__module__" 272 (.str "eachonce.errors" 245),kE P "__firstlineno__" 276 (.int 37 275),kE P "__init__" 284 (.ref 86),kE P "__static_attributes__" 286 (.ref 87),kE P "__doc__" 287 (.none)]
theorem kNCN (P:Params){h:Heap}(X:(kK P).In h):h.Ns 88 (nsFind (kesCN P)):=⟨⟨.type "dict",none, .dict (kesCN P) 2,#[]⟩,_,_,X 88 _ (by kernel_rfl),rfl,fun e he=>by
  unfold kesCN at he
  simp only [List.mem_toArray,av,bj,cK] at he
  rcases he with rfl | rfl | rfl | rfl | rfl <;> exact⟨_,_,rfl⟩,fun _=>rfl⟩
theorem kcBN (P:Params){h:Heap}(X:(kK P).In h):h.get? 69=some (excClassObj "OnceError" "OnceError" 69 68 [.type "ValueError"] [.type "ValueError", .type "Exception", .type "BaseException", .type "object"] true [] [.ref 89, .ref 101, .ref 113, .ref 125, .ref 137, .ref 149, .ref 161, .ref 173, .ref 185, .ref 197] false none none (some (.ref 60)) (none) (some (.str "OnceError" 247)) (some (.str "OnceError" 255)) (some (.bool true)) "ValueError.__new__"):=X 69 _ (by kernel_rfl)
def kesBN (P:Params):Array DictEntry:=#[kE P "__module__" 254 (.str "eachonce.errors" 245),kE P "__firstlineno__" 258 (.int 35 257),kE P "__static_attributes__" 259 (.ref 67),kE P "__weakref__" 261 (.ref 70),kE P "__doc__" 262 (.none)]
theorem kNBN (P:Params){h:Heap}(X:(kK P).In h):h.Ns 68 (nsFind (kesBN P)):=⟨⟨.type "dict",none, .dict (kesBN P) 3,#[]⟩,_,_,X 68 _ (by kernel_rfl),rfl,fun e he=>by
  unfold kesBN at he
  simp only [List.mem_toArray,av,bj,cK] at he
  rcases he with rfl | rfl | rfl | rfl | rfl <;> exact⟨_,_,rfl⟩,fun _=>rfl⟩
theorem kx8N (P:Params):XCls (kK P) 89 69 86 "row" :=⟨⟨"NoText","NoText",88,[.ref 69],[.ref 69, .type "ValueError", .type "Exception", .type "BaseException", .type "object"],[],[],false,none,none,some (.ref 73),none,some (.str "NoText" 265),some (.str "NoText" 273),some (.bool true),nsFind (kesCN P),by kernel_rfl,by kernel_rfl,by kernel_rfl,fun x=>by
  rw[PySem.refuseLoop_ref]
  exact PySem.F.store_ValueError.passes _,fun h X=>⟨kcCN P X,kNCN P X, .own (kcBN P X) (kNBN P X) (by kernel_rfl) .base,(List.lookup 86 (kK P)).getD { cls:= .none,data:= .fields #[]},X 86 _ (by kernel_rfl),by kernel_rfl⟩⟩,by kernel_rfl,by kernel_rfl,by kernel_rfl,by kernel_rfl,by kernel_rfl⟩
theorem kx9N (P:Params):hasDictIn (kK P) 89=true:=by kernel_rfl
theorem kx3N (P:Params):Above (kK P) 89 69:=⟨"NoText","NoText","OnceError","OnceError",88,68,[.ref 69],[.ref 69, .type "ValueError", .type "Exception", .type "BaseException", .type "object"],[.type "ValueError"],[.type "ValueError", .type "Exception", .type "BaseException", .type "object"],true,true,[],[],[],[.ref 89, .ref 101, .ref 113, .ref 125, .ref 137, .ref 149, .ref 161, .ref 173, .ref 185, .ref 197],false,false,none,none,none,none,some (.ref 73),none,some (.str "NoText" 265),some (.str "NoText" 273),some (.bool true),some (.ref 60),none,some (.str "OnceError" 247),some (.str "OnceError" 255),some (.bool true),"ValueError.__new__","ValueError.__new__",by kernel_rfl,by kernel_rfl,fun h X=>⟨kcCN P X,kcBN P X⟩⟩
theorem kx4N (P:Params):ExcIs (kK P) 89:=⟨by kernel_rfl,by kernel_rfl,by kernel_rfl,by kernel_rfl,by kernel_rfl,by kernel_rfl,by kernel_rfl,by kernel_rfl⟩
theorem kx6N (P:Params):∀ i,i<10->kitOne (kK P) (.ref 89) (.ref (kcl i))=some (decide (i=6))
 | 0,_ | 1,_ | 2,_ | 3,_ | 4,_ | 5,_ | 6,_ | 7,_ | 8,_ | 9,_=>by kernel_rfl
 | _+10,h=>by omega
theorem kx7N (P:Params):kitOne (kK P) (.ref 89) (.type "ValueError")=some true:=by kernel_rfl
theorem walk {l:PySem.W.OpenLaw}{q:Program}{loose:List Str}{XP:(Str->Option Value)->Heap->Prop}{YP:World->Heap->Prop}{d:DefRec}{K:Params->W.Frag}(hn:l.most=some 63)(hdf:d.params.defaults=[])
  (hY:∀ (w:World) (h:Heap),YP w h->(K w.params).In h)
  (F:∀ (w:World) (mg:Str->Option Value) (fa:Addr) (h:Heap),(K w.params).In h->h.Ns mainGlobals mg->mg d.name=some (.ref fa)->
   ∃ fd:FuncData,(∀ (s:Shared) (u:Value),BindsTo s fd ⟨[u],[]⟩ [("script",u)])/\∀ base:Heap,(K w.params).In base->base.Ns mainGlobals mg->FnOk l.prog w (K w.params) mg base CX0 9 fa fd ["script"] (spLaw (K w.params))):
  PySem.W.WalkO q loose XP YP l.row.toRowW d [] (fun f vs=>PySem.call f vs):=
 L2.walk_of (n:=63) (k:=9) (x:= "script") (CX:=fun _=>CX0) (sp:=fun w=>spLaw (K w.params)) hn (by decide) hdf ⟨rfl,by decide,by decide⟩ hY F (fun _ _ a ns hl _ hS=>⟨a,ns,rfl,hS,hl,fun _=>rfl⟩) fun _ _ _ _ _ z=>z
end Eo
open PySem PySem.W PyProof.Rows
set_option maxRecDepth 100000 in
set_option maxHeartbeats 0 in
theorem PySem.Challenge.cw_eachonce_k03_texts_of_no_box_holds : PySem.Challenge.rw_eachonce_k03_texts_of_no_box.Holds := by
 w_on
 o_law
 o_head Eo.kH
 case hw=>w_witness2
 refine Eo.walk (l:=PySem.Challenge.rw_eachonce_k03_texts_of_no_box) (K:=Eo.kK) rfl rfl (fun w h Y=>kIn_of Y) ?F
 case F=>
  intro w mg fa h KX G hmg
  k_fill
  refine' Eo.all_mk KX G hmg _ _ _ _ _ _ _ _ _ _ _ _ _ _ _ _ _ _ _ _ _ _ _ _ _ _ _ _ _ _ _ _ _ _ _ _ _ _ _ _ _ _ _ _ _ _ _ _ _ _ _ _ _ _ _ _ _ _ _ _ _ _ _ _ _ _ _ _ _ _ _ _ _ _ _ _ _ _ _ _ _ _ _ _ _ _ _ _ _ _ _ _ _ _ _ _ _ _ _ _ _ _ _ _ _ _ _ _ _ _ _ _ _ _ _ _ _ _ _ _ _ _ _ _ _ _ _ _ _ _ _ _ _ _ _ _ _ _ _ _ _ _ _ _ _ (clS:=89) (by kernel_rfl) (f32:=86) _ _ (by kernel_rfl) (by kernel_rfl) (by kernel_rfl) _ (Eo.kx5 _) (Eo.kx8N _) (Eo.kx3N _) (Eo.kx4N _) (Eo.kx6N _) (Eo.kx7N _) (Eo.kx9N _)
  all_goals try k_is
end
