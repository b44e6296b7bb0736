import PyProof.Rows.All
import Wide.All
import OpenK.AllK
import Wide.FinOn
import Lean
import PyProof.EqAt
import PyProof.EqKinds
import PyProof.TupleCall
import PyProof.NeKinds
import KE.KEqDict
import KE.KRevIter
import PyProof.FactsAll.range_2
import PyProof.ZipIter
import PyProof.FitsReplace
import PyProof.MeetsStr
import PyProof.ListRange
import PyProof.CollectWalk
import PyProof.DictItems
import PyProof.DictItemsLoops
import PyProof.DictValues
import PyProof.DictWalks
import PyProof.StrCalls
import KE.KIsAll
import PyProof.Rows.Range3
import PyProof.Rows.MinMaxN
import PyProof.SumWalkG
import PyProof.MeetsStr2
import PyProof.StrBlockL
import PyProof.Rows.StrNews2
import PyProof.StrLawsOccR
import KE.KIntText
import PyProof.StrLawsIn
import PyProof.Rows.SeqMore2
import PyProof.ListOps
import PyProof.Rows.SeqMore
import PyProof.Rows.SeqGen
import PyProof.EnumFor
import PyProof.EnumMake
import KE.KSortTup
import KE.KDictList
import PySem.Challenge.RW_quotatree_k58_whole_no_other_shares
namespace PySem.W.Fast
def tw10480415564272680145:=Nat
def tw4131632170552118044:=Nat
def tw12831565496321042661:=Nat
def tw5744063563175343743:=Nat
def tw9632768900659266674:=Nat
def tw1584162708192605582:=Nat
def tw3222547937603521082:=Nat
def tw5093877967553393692:=Nat
def tw17998809063014533430:=Nat
def tw1553097286949802980:=Nat
def tw14891138792637515605:=Nat
def tw7770609075618796203:=Nat
def tw9448974068059043163:=Nat
def tw10028958824561090215:=Nat
def tw7191327180624673578:=Nat
def tw11917740325557585355:=Nat
def tw9583710279929945100:=Nat
def tw16098097220737625664:=Nat
def tw14732449218926329924:=Nat
def tw3502488110252435684:=Nat
def tw9214264098724070337:=Nat
def tw8738447059111018656:=Nat
def tw9117977305443424030:=Nat
def tw9769365076025257940:=Nat
def tw2891312509529100649:=Nat
def tw16928422155914880872:=Nat
def tw7870824316480473440:=Nat
def tw6225567604360305220:=Nat
def tw14440634473794107928:=Nat
def tw3775991449346132612:=Nat
def tw9433892243834160993:=Nat
def tw9321417783569547322:=Nat
def tw10746636473586127665:=Nat
def tw8877416821608669666:=Nat
def tw7082428759460152091:=Nat
def tw6512787577383174679:=Nat
def tw754960557257407254:=Nat
def tw12070573576187443993:=Nat
def tw17774020973410715706:=Nat
def tw10517134187622051611:=Nat
def tw429050148506950294:=Nat
def tw5852457686719729873:=Nat
def tw16028852590569773924:=Nat
def tw17280267984204648295:=Nat
def tw18329761922947201854:=Nat
def tw7579822474644047792:=Nat
def tw15976992424282914144:=Nat
def tw11106007905112251033:=Nat
def tw14174737360723864765:=Nat
def tw9406635394391927232:=Nat
def tw17447424495126618084:=Nat
def tw16159688469029664392:=Nat
def tw15364807989981055286:=Nat
def tw11558001335942434555:=Nat
def tw4690756155597323005:=Nat
def tw988702336348141836:=Nat
def tw2478930579098046715:=Nat
def tw18131722699110843985:=Nat
def tw12537989451670833535:=Nat
def tw11713697483465610776:=Nat
def tw8306858879272652745:=Nat
def tw13250038802303427271:=Nat
def tw3572770852595108631:=Nat
def tw11985451820329726133:=Nat
def tw8187879454963655453:=Nat
def tw3909731654069153804:=Nat
def tw8648992177436425264:=Nat
def tw7391388064154205793:=Nat
def tw6571084087150469518:=Nat
def tw9799457917807359876:=Nat
def tw13993838015920163029:=Nat
def tw4043424925015390538:=Nat
def tw12188067847123089329:=Nat
def tw5200543387142388731:=Nat
def tw6325353907495982800:=Nat
def tw3206396527524198761:=Nat
def tw5941979096327528258:=Nat
def tw4546943411925764271:=Nat
def tw2334990471470440145:=Nat
def tw4973020855301957280:=Nat
def tw12632020110198818496:=Nat
def tw1707193124094702881:=Nat
def tw11147694308666198603:=Nat
def tw15865076453242790439:=Nat
def tw11956491128607579015:=Nat
def tw18046756123100339266:=Nat
def tw2780322153101406660:=Nat
def tw9390114406514743263:=Nat
def tw6140563286352010634:=Nat
def tw17354538005390919192:=Nat
def tw11266111120656360679:=Nat
def tw8123009524439874510:=Nat
def tw9586577354220004914:=Nat
def tw6329480474673424882:=Nat
def tw17801638245210219553:=Nat
def tw7534624342536476213:=Nat
def tw1086736001404829167:=Nat
def tw15080186047786031183:=Nat
def tw12112199247579278788:=Nat
def tw7125021623089763848:=Nat
def tw2129803508253545081:=Nat
def tw13249728642936847619:=Nat
def tw1581182704805082715:=Nat
def tw15552827759987178151:=Nat
def tw13147433938790233910:=Nat
def tw625746862538479663:=Nat
def tw16299274041196205348:=Nat
def tw7492280574225865749:=Nat
def tw743459669975986370:=Nat
def tw17512752333296234371:=Nat
def tw16347368675445322029:=Nat
def tw2986396382874284391:=Nat
def tw3040940663985110811:=Nat
def tw9748697105472873334:=Nat
def tw12961542421124474721:=Nat
def tw12273168803376779395:=Nat
def tw7600527194474975296:=Nat
def tw11157355131053465948:=Nat
def tw16482533729581023170:=Nat
def tw3920013325286055475:=Nat
def tw4386726590036479136:=Nat
def tw7263904810936765311:=Nat
def tw7684332388219822010:=Nat
def tw5858404109133392029:=Nat
def tw10316976218296715033:=Nat
def tw17046906289814549746:=Nat
def tw7825121665987498325:=Nat
def tw13768504887227277791:=Nat
def tw16383836800099865735:=Nat
def tw6077033514162774437:=Nat
def tw3348758455366040646:=Nat
def tw5215423976631519016:=Nat
def tw17610578847793078828:=Nat
def tw1764180381174828835:=Nat
def tw14741787657295955608:=Nat
def tw13562714135736250411:=Nat
def tw12583079277853201378:=Nat
def tw18205422105777002901:=Nat
def tw6082469714712868401:=Nat
def tw7424294030540662172:=Nat
def tw7925199212868611226:=Nat
def tw2120940846759571136:=Nat
def tw18165642044922956790:=Nat
def tw354697346552669619:=Nat
def tw13682043632897215089:=Nat
def tw9819654968618079206:=Nat
def tw4133818802913703938:=Nat
def tw2901554832286038083:=Nat
def tw7709290603132004301:=Nat
def tw3667431572505972422:=Nat
def tw12840043810495398415:=Nat
def tw11554577845334654944:=Nat
def tw12565286633761501368:=Nat
def tw11703946849553116357:=Nat
def tw860029184327589190:=Nat
def tw17512633849361390672:=Nat
def tw15867269574064221447:=Nat
def tw9783833925789265718:=Nat
def tw5430995245213183660:=Nat
def tw15898876490577784637:=Nat
def tw11961697604036885944:=Nat
def tw7731925817298852060:=Nat
def tw5953178822469011819:=Nat
def tw12910823041287482034:=Nat
def tw17257147668252867542:=Nat
def tw5608019933885829422:=Nat
def tw18175558045720714769:=Nat
def tw4939655657603935566:=Nat
def tw10696737567543567447:=Nat
def tw14340341901167115242:=Nat
def tw16614619942109298148:=Nat
def tw11500229078491665010:=Nat
def tw4743622703206890758:=Nat
def tw2098224128134627977:=Nat
def tw1211872999033610700:=Nat
def tw2291257543682829636:=Nat
def tw9737202657212022431:=Nat
def tw8371298818683657153:=Nat
def tw11920673560134645242:=Nat
def tw3398496732356634939:=Nat
def tw3169643783947856317:=Nat
def tw6253470586292755864:=Nat
def tw15856195192439957996:=Nat
def tw279756079445169927:=Nat
def tw7929504168282619556:=Nat
def tw15561769718294875778:=Nat
def tw16332948831974297753:=Nat
def tw5188920338100193321:=Nat
def tw14520356037116577526:=Nat
def tw17332715489118503753:=Nat
def tw10195038033901912012:=Nat
def tw9306714859596072833:=Nat
def tw9511261954397832277:=Nat
def tw688006588494323361:=Nat
def tw14051089178699899635:=Nat
def tw11740591537306788777:=Nat
def tw9053038232988628748:=Nat
def tw13838021860174326260:=Nat
def tw13666744748746451132:=Nat
def tw13063302518415051750:=Nat
def tw5821823472377634567:=Nat
def tw15266491690268181276:=Nat
def tw4617278261934968330:=Nat
def tw8191166110686656465:=Nat
def tw4406687801866912002:=Nat
def tw1865451321647257855:=Nat
def tw13706504629273073746:=Nat
def tw4240786097456493432:=Nat
def tw6578616437705735639:=Nat
def tw11908930553055478365:=Nat
def tw2821555435042377383:=Nat
def tw5657486827043705604:=Nat
def tw5993661990713086819:=Nat
def tw3631451686399925751:=Nat
def tw15483942607019092153:=Nat
def tw8191747082255858346:=Nat
def tw8353797131954403058:=Nat
def tw13945843876453012700:=Nat
def tw4367470100209106741:=Nat
def tw8184217593709550133:=Nat
def tw14485457151661966044:=Nat
def tw9798050290976068673:=Nat
def tw1863553749096601575:=Nat
def tw3900175563450520319:=Nat
def tw4527564401539096656:=Nat
def tw10314417410178868615:=Nat
def tw2360206178791908104:=Nat
def tw11758303840565056082:=Nat
def tw6166844145989113893:=Nat
def tw17110719038900629267:=Nat
def tw6576930874114821541:=Nat
def tw4252169977663045275:=Nat
def tw3683819778173411957:=Nat
def tw2043101222905532461:=Nat
def tw3020956616354173313:=Nat
def tw12038561464989268409:=Nat
def tw5550559050673118243:=Nat
def tw8258935249689543199:=Nat
def tw5566435392870025979:=Nat
def tw16121270549223585860:=Nat
def tw4068335703659632365:=Nat
def tw5038662982799020725:=Nat
def tw13403211837064563550:=Nat
def tw9660228124198430135:=Nat
def tw17906754423351918072:=Nat
def tw14515846630759155889:=Nat
def tw9028923894697092497:=Nat
def tw3693407079027869518:=Nat
def tw3296349348523097025:=Nat
def tw15546300126367427033:=Nat
def tw15542368947824259742:=Nat
def tw149681126657309671:=Nat
def tw14797202455680732432:=Nat
def tw8043961906670939067:=Nat
def tw3283450278778863646:=Nat
def tw7370664843067868313:=Nat
def tw753247680261437166:=Nat
def tw3834347833418582082:=Nat
def tw10027071391911947740:=Nat
def tw815133324936235088:=Nat
def tw16884536245484441535:=Nat
def tw16434258152867461593:=Nat
def tw1148201024839521844:=Nat
def tw15898594493588245987:=Nat
def tw3823336700741641083:=Nat
def tw1270697476918485138:=Nat
def tw3255664557173634198:=Nat
def tw1372595785810771740:=Nat
def tw11798830109857786124:=Nat
def tw7642813114723554772:=Nat
def tw5068977863074694977:=Nat
def tw17702854457708051502:=Nat
def tw5408262366552999393:=Nat
def tw1929658591477328998:=Nat
def tw3381003888376236074:=Nat
def tw13390131902254932412:=Nat
def tw264592025436330420:=Nat
def tw7080216979365953681:=Nat
def tw14465727883641304398:=Nat
def tw4974453781297643482:=Nat
def tw16873848131145243557:=Nat
def tw1120854280847784158:=Nat
def tw1036224115224625863:=Nat
def tw16212082397506342270:=Nat
def tw10643894813444788447:=Nat
def tw11664696604925521232:=Nat
def tw12679538771515352550:=Nat
def tw16569481276329842283:=Nat
def tw6611835043472482458:=Nat
def tw6154210407968059102:=Nat
def tw3237827166108125441:=Nat
def tw17856168050900642125:=Nat
def tw1691687061135015418:=Nat
def tw16239702341271966395:=Nat
def tw10113625958434769776:=Nat
def tw6629317497833710499:=Nat
def tw8967013638586201274:=Nat
def tw525043111100208383:=Nat
def tw489605043462559807:=Nat
def tw3851233257441842638:=Nat
def tw11226026698739647200:=Nat
def tw10910245513254562438:=Nat
def tw11278540809887641054:=Nat
def tw5737496762297978276:=Nat
def tw17743666198821462279:=Nat
def tw1010820033354988069:=Nat
def tw11845364247001900786:=Nat
def tw11596049847656910668:=Nat
def tw13402863407280171304:=Nat
def tw5502063326014086990:=Nat
def tw12118801794861043919:=Nat
def tw5970931060681725881:=Nat
def tw2190832414121937539:=Nat
def tw6834679879285644253:=Nat
def tw12445721352917372772:=Nat
def tw6181584663134031489:=Nat
def tw9982963451423800935:=Nat
def tw973359145349688737:=Nat
def tw7725318095732951176:=Nat
def tw18082659822167176520:=Nat
def tw17270741713198379328:=Nat
def tw13575778362772579548:=Nat
def tw10853545696878551075:=Nat
def tw11625352843814104370:=Nat
def tw3834141355999890754:=Nat
def tw13904477665850904446:=Nat
def tw3727183780421138074:=Nat
def tw3659202726145647038:=Nat
def tw529416409370851517:=Nat
def tw17073638277734835418:=Nat
def tw18179952851230996271:=Nat
def tw14416925101166091312:=Nat
def tw13094020397220990842:=Nat
def tw13090289589560920019:=Nat
def tw6821380412433359781:=Nat
def tw9171257173080200195:=Nat
def tw15566128888476863274:=Nat
def tw2383000870546770894:=Nat
def tw17702494806381496101:=Nat
def tw13428560407027191587:=Nat
def tw14626877548011625479:=Nat
def tw9608428384918708412:=Nat
def tw9475557757745339569:=Nat
def tw8450380575087806379:=Nat
def tw8296029404100735036:=Nat
def tw6431185272534327168:=Nat
def tw5029238129130386170:=Nat
def tw2988182638465765243:=Nat
def tw18246981923017414131:=Nat
def tw15102686076096383717:=Nat
def tw14461211489705317773:=Nat
def tw12630618276668691674:=Nat
def tw11735015768416154256:=Nat
def tw1086886108063668748:=Nat
def tw10720159000381404871:=Nat
def tw1049677702092224135:=Nat
def tw6782027523742734422:=Nat
def tw9980111433871042710:=Nat
def tw11375644557308714179:=Nat
def tw12756293432383376812:=Nat
def tw4403267986337130703:=Nat
def tw3244987480310888464:=Nat
def tw17067956147940873426:=Nat
def tw12869323358537485439:=Nat
def tw12576877573714159218:=Nat
def tw6530709743110969625:=Nat
def tw17983312548680553443:=Nat
def tw17583567635852867532:=Nat
def tw16736198716411492630:=Nat
def tw16672609633500047632:=Nat
def tw16494174562492496470:=Nat
def tw15636980215216688189:=Nat
def tw146938441832963220:=Nat
def tw13095959674498604470:=Nat
def tw12422506848607574023:=Nat
def tw11782776748754089095:=Nat
def tw4337484924856078697:=Nat
def tw3825706028813817301:=Nat
def tw3426999359924844251:=Nat
def tw416299907778796678:=Nat
def tw9102054269561714417:=Nat
def tw2828895907490755277:=Nat
def tw17755198532151715436:=Nat
def tw16472995892076702979:=Nat
def tw16306081051261464731:=Nat
def tw16220481991712530127:=Nat
def tw13627349831925959248:=Nat
def tw13029152242137601216:=Nat
def tw10302621666302175134:=Nat
def tw7363069124075325471:=Nat
def tw9783016055049476396:=Nat
def tw9610201010827043206:=Nat
def tw9040399994472044160:=Nat
def tw8965119239995778102:=Nat
def tw8109835379854875297:=Nat
def tw786981063576094907:=Nat
def tw7561743191316503888:=Nat
def tw7158679793421325962:=Nat
def tw6960520123380472680:=Nat
def tw6430922681618987972:=Nat
def tw6381541318834389934:=Nat
def tw5620920712397249883:=Nat
def tw5557774036968139327:=Nat
def tw5129815590241121771:=Nat
def tw4861294229128701773:=Nat
def tw4345652294919634407:=Nat
def tw4256623550532429169:=Nat
def tw3786236138131242402:=Nat
def tw2908690865751000504:=Nat
def tw2897644525003887005:=Nat
def tw2772816236992877233:=Nat
def tw2298446790129687080:=Nat
def tw2263549272935274371:=Nat
def tw2083468408830213697:=Nat
def tw18270671275980106520:=Nat
def tw17381933329994774943:=Nat
def tw17151037125806839856:=Nat
def tw16498307103065250416:=Nat
def tw15937535865716121717:=Nat
def tw15892251876861865190:=Nat
def tw15847825366509396647:=Nat
def tw1557555430674731103:=Nat
def tw15379650405749881042:=Nat
def tw15061627169465771340:=Nat
def tw14888860021595713463:=Nat
def tw14156519413552771971:=Nat
def tw13691530770003910545:=Nat
def tw13618678875977691274:=Nat
def tw13518298591079819605:=Nat
def tw12890102417665695874:=Nat
def tw12874621449164409490:=Nat
def tw12445136957069950685:=Nat
def tw11065873042256493280:=Nat
def tw10793150741768434782:=Nat
def tw10786905327605979064:=Nat
def tw10571235019072029084:=Nat
def tw10377187305671455353:=Nat
def tw10065633888325628455:=Nat
def tw10061331994585783745:=Nat
def tw8890824421625207450:=Nat
def tw1266495954447298505:=Nat
def tw17410827004637638026:=Nat
def tw4879609028805397505:=Nat
def tw7731469123794708647:=Nat
def tw4687583228250210581:=Nat
def tw4794949067557681735:=Nat
def tw9464755943480301143:=Nat
def tw15917118341248380725:=Nat
def tw15682508066019177742:=Nat
def tw12415066917588094680:=Nat
def tw5373727898828075943:=Nat
def tw7983620794534622403:=Nat
def tw3928013674194937137:=Nat
def tw3789399343417337574:=Nat
def tw3431317181167031760:=Nat
def tw2911179896940634865:=Nat
def tw2893322494920206072:=Nat
def tw2240168833689170455:=Nat
def tw17275748359171661595:=Nat
def tw14819124143049702828:=Nat
def tw10421081027980098981:=Nat
def tw10108853252993323929:=Nat
def tw18312233303948970723:=Nat
def tw15208005607580785574:=Nat
def tw15420781640766911278:=Nat
def tw1964375540494014915:=Nat
def tw767297317124370428:=Nat
def tw15667787090268800194:=Nat
def tw16694357726578035301:=Nat
def tw8969228298166091179:=Nat
def tw16829397961561072166:=Nat
def tw16536529492266528920:=Nat
def tw1623064365135357269:=Nat
def tw586222292881791195:=Nat
def tw7030313678882343654:=Nat
def tw17070623015741669399:=Nat
def tw15765902539463791732:=Nat
def tw7465492934549425070:=Nat
def tw15174976979364239973:=Nat
def tw9313595285701053689:=Nat
def tw3493455206169207831:=Nat
def tw17195531862341392116:=Nat
def tw9541152122027192069:=Nat
def tw9198302849802859919:=Nat
def tw8180642319687630915:=Nat
def tw7554451084093343856:=Nat
def tw5882878014510602961:=Nat
def tw4861631242480292463:=Nat
def tw4359108427019273005:=Nat
def tw16680480526136574221:=Nat
def tw15315119576128733319:=Nat
def tw14197385198034614917:=Nat
def tw12235533993145805961:=Nat
def tw11666119236983139390:=Nat
def tw15521866106927552320:=Nat
def tw18341004164740765743:=Nat
def tw16536642500421359987:=Nat
def tw6671840634692013360:=Nat
def tw5749822713490787765:=Nat
def tw5725846626424709184:=Nat
def tw4751313901662647671:=Nat
def tw337875224132731015:=Nat
def tw2357412894492479544:=Nat
def tw16115281722285662140:=Nat
def tw16065998035683307131:=Nat
def tw13180056848097386054:=Nat
def tw13048900668865313359:=Nat
def tw10444615919662813482:=Nat
def tw6319598949848492239:=Nat
def tw3619331353280565477:=Nat
def tw3544341903682421397:=Nat
def tw16986163755639902580:=Nat
def tw13810911097772949308:=Nat
def tw10149331235060491170:=Nat
def tw8281025707836109601:=Nat
def tw7661124664660169420:=Nat
def tw6422644114368018850:=Nat
def tw4926314443815860127:=Nat
def tw17629577066193410757:=Nat
def tw10442384354588392477:=Nat
def tw5029722553217335535:=Nat
def tw450411518577382025:=Nat
def tw17331592793132979815:=Nat
def tw17053281323326740192:=Nat
def tw1538319653517162821:=Nat
def tw15114018677019012404:=Nat
def tw15051894152318310387:=Nat
def tw1430177998601364396:=Nat
def tw13918670052879819114:=Nat
def tw13393670132889516869:=Nat
def tw11702429247099084130:=Nat
def tw11052904637730323422:=Nat
def tw1078264062753220898:=Nat
def tw1021774980023125637:=Nat
def tw890907355402394709:=Nat
def tw785913145052555121:=Nat
def tw8665515377338864777:=Nat
def tw9134642427976194452:=Nat
def tw8901823319558832538:=Nat
def tw8038124227072182863:=Nat
def tw7425666227468902087:=Nat
def tw6661505059133371089:=Nat
def tw6599677766031898752:=Nat
def tw5759407715061352133:=Nat
def tw5678022553510330429:=Nat
def tw5277849765277415984:=Nat
def tw4996001843071013594:=Nat
def tw4113567222576991741:=Nat
def tw3795368378456084732:=Nat
def tw3665698009234882608:=Nat
def tw3592331191567302814:=Nat
def tw355636719722348121:=Nat
def tw2431308672514927049:=Nat
def tw18146259695880446831:=Nat
def tw16623284786897180808:=Nat
def tw15320078218264921248:=Nat
def tw14590464450496979763:=Nat
def tw14342826805086101653:=Nat
def tw14280118911513131097:=Nat
def tw1342577900305064113:=Nat
def tw13356742157548325885:=Nat
def tw12787416064084790946:=Nat
def tw12661283497061715982:=Nat
def tw12121456531962156082:=Nat
def tw12077927442347662574:=Nat
def tw12034156829403800210:=Nat
def tw11441922314783714853:=Nat
def tw11066135840415082850:=Nat
def tw10978763838096158756:=Nat
def tw10503728366213045885:=Nat
def tw10433782865210580322:=Nat
def tw2594476988185034897:=Nat
def tw13803012241071880223:=Nat
def tw11714466601099926836:=Nat
def tw9747343706804450814:=Nat
def tw9737469604959866642:=Nat
def tw9660773252997461402:=Nat
def tw9612758840393480750:=Nat
def tw9588654323068828985:=Nat
def tw9569864462518296998:=Nat
def tw9463562133230145625:=Nat
def tw9404292081097708020:=Nat
def tw932982029901103720:=Nat
def tw9288749412287943955:=Nat
def tw9209012794049689826:=Nat
def tw9170075628871775799:=Nat
def tw9167745050999211384:=Nat
def tw9043213925311284348:=Nat
def tw9038543430511686332:=Nat
def tw9012717294462107005:=Nat
def tw9002683001515729680:=Nat
def tw8842242086546733728:=Nat
def tw8672914048668115108:=Nat
def tw8605328584393751606:=Nat
def tw8478814920381664153:=Nat
def tw8316931812691470534:=Nat
def tw8307916423425211047:=Nat
def tw8279586576335615114:=Nat
def tw8233058890657895294:=Nat
def tw7841304501039411355:=Nat
def tw7838683064270601777:=Nat
def tw7786675200721141502:=Nat
def tw7767391489275030088:=Nat
def tw7729739692920381179:=Nat
def tw7681074531902006888:=Nat
def tw7677255609956899227:=Nat
def tw7618442756694119505:=Nat
def tw7509320478077954657:=Nat
def tw7454725496219174841:=Nat
def tw7439706749995610518:=Nat
def tw7396307554121194775:=Nat
def tw7375856845661796031:=Nat
def tw732079959950495448:=Nat
def tw7287155303325371975:=Nat
def tw7124507291106526476:=Nat
def tw7028896646234187205:=Nat
def tw6937166414653151144:=Nat
def tw6901621560349333921:=Nat
def tw6898044006686895152:=Nat
def tw6778423287299897521:=Nat
def tw6676983193498425015:=Nat
def tw655018563485058151:=Nat
def tw6480917408609482976:=Nat
def tw646160865656829036:=Nat
def tw6351279012013484554:=Nat
def tw634912128085473984:=Nat
def tw6293074014429588393:=Nat
def tw6273551337348060482:=Nat
def tw6271873781601991347:=Nat
def tw6254166863204599963:=Nat
def tw6112063231709118865:=Nat
def tw6006372553270734289:=Nat
def tw59770029465277872:=Nat
def tw583632240858115628:=Nat
def tw5726112247691530884:=Nat
def tw5699883198740505066:=Nat
def tw5654949408616933509:=Nat
def tw561267612266519472:=Nat
def tw5536787799423034994:=Nat
def tw5478486193308792111:=Nat
def tw5367934797669642813:=Nat
def tw5335184177777555415:=Nat
def tw529145347129780841:=Nat
def tw5286722679903434001:=Nat
def tw5046369614304607748:=Nat
def tw4862448420623102676:=Nat
def tw4824555837718175867:=Nat
def tw4708225128319951122:=Nat
def tw4674114421177698212:=Nat
def tw4647623404472975188:=Nat
def tw4553848547887523515:=Nat
def tw4500104203083522813:=Nat
def tw4453440747824455320:=Nat
def tw4136698391372918818:=Nat
def tw4120145985626383783:=Nat
def tw4069078003171446562:=Nat
def tw3956187588502706885:=Nat
def tw387178324511202585:=Nat
def tw3845833369043993213:=Nat
def tw3820725870930663851:=Nat
def tw3655227174005183648:=Nat
def tw3615544421957985310:=Nat
def tw36049751803089432:=Nat
def tw3574170833925157663:=Nat
def tw3498244310688687115:=Nat
def tw3495208947127744387:=Nat
def tw3465555146899110470:=Nat
def tw3426249590852084426:=Nat
def tw3284595000386565538:=Nat
def tw3283741011153838079:=Nat
def tw3218745138439235923:=Nat
def tw310537423534317999:=Nat
def tw2904545229991885373:=Nat
def tw2877540980872744967:=Nat
def tw2870207336671384484:=Nat
def tw2736214271018479459:=Nat
def tw2635485185317354898:=Nat
def tw2604936045706303005:=Nat
def tw2604908901203323178:=Nat
def tw2596370662799040632:=Nat
def tw25714182332935597:=Nat
def tw2484148307588563183:=Nat
def tw2445603020374813375:=Nat
def tw243725093345728272:=Nat
def tw2323043399175784243:=Nat
def tw2275968258546289859:=Nat
def tw2263009754861099705:=Nat
def tw221225121100887316:=Nat
def tw2125648151409725831:=Nat
def tw18434323867194247958:=Nat
def tw18385186599348096528:=Nat
def tw181937484998399716:=Nat
def tw18150438009273792433:=Nat
def tw18118653582907847645:=Nat
def tw18066877790879610890:=Nat
def tw17810747194233289805:=Nat
def tw17732718995274198556:=Nat
def tw17717006166036202146:=Nat
def tw17596958003453811474:=Nat
def tw17487739768683733821:=Nat
def tw17393261779222510131:=Nat
def tw17359420414787606510:=Nat
def tw17285113369216405426:=Nat
def tw1724524117966350222:=Nat
def tw17219697560104491081:=Nat
def tw17087085759439457178:=Nat
def tw16876388244291471449:=Nat
def tw16780934678485911760:=Nat
def tw16743167564075992146:=Nat
def tw1674310055394273711:=Nat
def tw16691300279179998296:=Nat
def tw1667552625164415298:=Nat
def tw16672519148670177033:=Nat
def tw16614756755523654614:=Nat
def tw16544182419410430238:=Nat
def tw16488508864703211352:=Nat
def tw16421671075701742363:=Nat
def tw16334517923019052169:=Nat
def tw16205532305656561679:=Nat
def tw16017999662897063149:=Nat
def tw15965844667181895031:=Nat
def tw15860415500351814310:=Nat
def tw15859842965220729274:=Nat
def tw15847574923925153089:=Nat
def tw15790893318960960158:=Nat
def tw15747441432442398131:=Nat
def tw15532658552914475334:=Nat
def tw15495673989022920032:=Nat
def tw15474705517306154867:=Nat
def tw15431962757373584093:=Nat
def tw15288882583462928092:=Nat
def tw15176818743843390414:=Nat
def tw14943419613164906470:=Nat
def tw14932762863710632475:=Nat
def tw14901993532201352135:=Nat
def tw14855529815057715031:=Nat
def tw14830724147674655844:=Nat
def tw14713083839286143728:=Nat
def tw1468785509245089711:=Nat
def tw14542963984834834755:=Nat
def tw1451614263686850137:=Nat
def tw14434906486149833918:=Nat
def tw14394521029104355517:=Nat
def tw14360038955052803350:=Nat
def tw14357250423043677201:=Nat
def tw14288747195778349270:=Nat
def tw14280456402328676239:=Nat
def tw14267554026638641798:=Nat
def tw14112772788829515430:=Nat
def tw1390700315315525666:=Nat
def tw13833252730031642003:=Nat
def tw13802927461978186866:=Nat
def tw13661910160620178254:=Nat
def tw13635835226802015787:=Nat
def tw13621970613899877545:=Nat
def tw13595538524115326196:=Nat
def tw13592217138712442423:=Nat
def tw13582082515623407199:=Nat
def tw1358187613571373667:=Nat
def tw13526074003162589632:=Nat
def tw13422499872739712667:=Nat
def tw13375858706163727759:=Nat
def tw13361535436033630846:=Nat
def tw13261466790766043780:=Nat
def tw13245369254734713471:=Nat
def tw13184951536047286468:=Nat
def tw13182038768589363548:=Nat
def tw13131514283793742321:=Nat
def tw13125699825347799964:=Nat
def tw13097531306732772680:=Nat
def tw13090018673045822209:=Nat
def tw13056036893181561258:=Nat
def tw12989312514794467947:=Nat
def tw12874368441528503435:=Nat
def tw12679748447028472108:=Nat
def tw12677698550563766947:=Nat
def tw12660942687875593266:=Nat
def tw12611135040708952054:=Nat
def tw12502355842325164450:=Nat
def tw12491400504398673448:=Nat
def tw12490965877515391478:=Nat
def tw12488443171890778096:=Nat
def tw12422361490157883768:=Nat
def tw12314993180385819963:=Nat
def tw12309483007818096553:=Nat
def tw12290626519824884336:=Nat
def tw12146389924602033906:=Nat
def tw12070591344636061682:=Nat
def tw11979894598924081327:=Nat
def tw11731195854967986932:=Nat
def tw11717039292368873154:=Nat
def tw11664561743152778505:=Nat
def tw11583281756508072989:=Nat
def tw11417419658469995487:=Nat
def tw11403470683222063912:=Nat
def tw11280593580518890410:=Nat
def tw11211593223137395720:=Nat
def tw11153163099397063134:=Nat
def tw11103917330301078240:=Nat
def tw11010167039940524457:=Nat
def tw11008936709319310209:=Nat
def tw10908761417325759495:=Nat
def tw10795499463310692645:=Nat
def tw10675876447389035698:=Nat
def tw1060201128779138730:=Nat
def tw10580113736740751031:=Nat
def tw10549742295207223959:=Nat
def tw10463970591603187280:=Nat
def tw10455912284445518836:=Nat
def tw10232422783416199495:=Nat
def tw10156292231179270021:=Nat
def tw10040951426872325416:=Nat
def tw10036835044629835105:=Nat
end PySem.W.Fast
set_option maxRecDepth 100000 in
set_option maxHeartbeats 0 in
open_top hd0 for PySem.Challenge.rw_quotatree_k58_whole_no_other_shares
def aR0(_:True:=by rfl):=0
def aD0(_:True:=by decide):=0
abbrev aR:=aR0._auto_1
abbrev aD:=aD0._auto_1
local macro_rules|`(∅)=>`(by decide)
local macro_rules|`(nofun)=>`(fun _ _=>rfl)
local macro_rules|`(↑∅)=>`(by omega)|`(↑$x)=>`(($x).heap.objs.size)
open PySem.W (Frag instObj lookIn plainGet hasDictIn findIn isFn emptyDict specialIn keepIn mroIn kitOne fnOf codeIn nsIn tabIn fnMade envX)
open List renaming getElem?_eq_getElem->zA,length_map->zB,getElem?_map->zC,mem_cons_of_mem->zD,mem_of_getElem?->zE,mem_singleton->zF,mem_cons_self->zG,take_length->zH,map_append->zI,mem_map->zJ,mem_append_right->zK,size_toArray->zL,take_add_one->zM,mem_append->zN,mem_append_left->zO,mem_cons->zP,all_eq_true->zQ,length_cons->zR,length_take->zS,length_append->zT,mem_iff_getElem->zU,map_cons->zV,mem_filter->zW,mem_of_mem_take->zX,getElem_mem->zY,nodup_cons->zZ,append_nil->yA,forall_mem_cons->yB,length_filter_le->yC,length_singleton->yD,filter_append->yE,any_eq_true->yF,not_mem_nil->yG,find?_cons->yH,mem_range->yI,nodup_nil->yJ,length_nil->yK,lookup_cons->yL,any_cons->yM,all_cons->yN,all_map->yO,map_map->yP
open PySem renaming Value->uB,Shared->uC,Stmt->uI,FuncData->uJ,wpAny_bind->uK,mainGlobals->uT,Program->vA,wpAny->vC,wpAny_pure->vE,model->vF,starEach->vG,World->vN,Around->vS,Heap->vU,boot_len->vY,Expr->vZ,compareOp->wJ,wpAny_mono->wK,eval->wW,wpAny_truthy_bool->wY,wpAny_Call_Name_kw->xA,backTo->xI,Scope->xL,Arguments->xN,codeAny_mono->xP,wpAny_holding->xR,mem_of_lookup->xT,sysModules->xX,assignEach->xY,wpAny_passesOwn->yQ,codeAny_builtin->yR,wpAny_richCompare_same_room->yV,binaryOp->yX,sizeLine_eq->yY,rawInt->aI,bootBuiltins->aP,wpAny_pyIter_list->aQ,Builtin->aR,compEnvC->aS,wpAny_call->bH,behindInMarks->bL,codeAny->bM,attributeBase->bN,keywordEach->bQ,sliceBounds->bS,tupleKind_room_in1->cC,foldedSetIterable->cF,wpAny_field->cG,valueAt->cH,wpAny_comprehension_free->cN,plainId_quiet->cO,wpAny_execs_cons->cQ,BindsTo->cY,wpAny_execs_nil->dE,backToKw->dS,tupleKind->eA,swapsWith->eB,getMethod->eC,cellsFrom->eD,assignInOrder->eM,wpAny_standAt->eO,builtinsNs->eU,wpAny_assign_Name->fI,wpAny_newObj_type->fJ,bindC->fK,callerA->fN,relabel->fQ,compPost->fR,assign->gE,setFlight->gF,wpAny_call_entry->gG,scanBound->gI
open Or renaming inl->uD,inr->eZ
open Sum renaming inr->uE,inl->fF
open Nat renaming le_refl->uF,lt_of_le_of_lt->uO,le_trans->uY,lt_of_lt_of_le->vD,ne_of_lt->vL,mul_le_mul->wP,lt_irrefl->wQ,zero_le->wR,ne_of_gt->xC,pow_le_pow_right->xD,le_of_lt->xG,lt_trans->aU,lt_succ_self->bG,le_succ->bR,mul_pos->bT,strongRecOn->bW,lt_or_ge->cA,lt_of_succ_lt_succ->dA,not_lt_zero->dH,lt_succ_of_lt->fT
open PySem.Heap renaming get?_push_of_some->uG,lt_size->uP,get?_push_size->vH,get?_update_other->xH,get?_none_of_le->bO,SameBut->bZ,size_push->cB
open Option renaming map_eq_some_iff->uH,isSome_map->aT,isSome_iff_exists->cL,map_some->dG
open List renaming getElem?_eq_some_iff->uL,range->vK,length->wG,replicate->wO,getElem?_append_right->xK,getElem?_append_left->xM,length_replicate->yT,drop_eq_getElem_cons->aC,rel_of_pairwise_cons->aD,pairwise_iff_getElem->aE,lookup->aL,getElem?_cons_succ->aM,filter_cons_of_neg->aO,pairwise_map->aV,nodup_append->aW,all_eq_false->bA,filter_cons->bI,mem_flatten->bJ,length_pos_iff->bY,perm_ext_iff_of_nodup->cD,append_assoc->cI,length_range->cJ,sum_cons->cP,filter_cons_of_pos->cR,mem_flatMap->cS,filter_nil->dI,getElem?_eq_none->dM,contains_iff_mem->dO,filterMap_cons->eG,pairwise_cons->fB,mem_replicate->fE,take_sublist->fL,map_nil->fM,getElem_take->fU,getElem_inj->gD
open Rat renaming intCast_natCast->uN,intCast_mul->uS,mul_le_mul_of_nonneg_right->vQ,mul_le_mul_of_nonneg_left->vR,mul_lt_mul_of_pos_right->wI,mul_nonneg->wT,natCast_mul->wV,div_mul_cancel->xB,intCast_add->xO,intCast_sub->dJ,mul_eq_zero->dL,le_refl->dX,zero_mul->fW
open PySem.AutoSeq1 renaming wpAny_loadPart'->uQ
open Classical renaming byContradiction->uR
open Option.some renaming inj->uU
open PySem.Value renaming ref->uV,none->wN,type->cW,str->dZ,isStrOf->eK,bool->eS,int->gC
open Int renaming emod_nonneg->uW,emod_lt_of_pos->uZ,natAbs_natCast->vO,natAbs_mul->wS,gcd->wZ,mul_pos->aB,le_trans->aZ,toNat->bK,gcd_dvd_right->cK,mul_comm->dC,zero_add->dD,natAbs_dvd_natAbs->dQ,mul_assoc->eR,ne_of_gt->fV,le_of_lt->fX,gcd_dvd_left->gJ
open PySem.W renaming Frag->uX,mg_of->vP,mg_none_of->vV,findIn->wD,kia_one->wU,callWith_K->xJ,nsIn->xZ,methodCall_KW->bC,keepIn->bU,kitOne->bV,instObj->cU,codeIn->cV,CodeHd->dW,specialIn->dY,fnOf->eF,plainGet_of->eI,methodObj->fG,hasDictIn->gB
open Bool renaming false_ne_true->vB,and_eq_true->wC,eq_iff_iff->xE,false_and->xV,and_false->yZ,false_or->eP,false_eq_true->fA,not_eq_true'->fP,not_eq_true->gH
open PyProof.Rows renaming boot_isinstance->vI,sortedS->vX,boot_sorted->wF,boot_dict->wH,callWith_type1->yU,envOfC->aF,boot_list->aY,boot_str->bE,boot_all->bF,AllBare->cE,boot_bool->dB,boot_int->dP,boot_abs->dR,assignInOrder_cons->eW,StrsAre->fS
open PySem.PassesOwn renaming never->vJ
open List.Nodup renaming length_le_of_subset->vM
open PySem.F renaming plainAttrs_list->vT,slot_list_append->wL,type_list_append->wM,slot_list_index->aN,type_list_index->cT,slot_dict_get->dN
open False renaming elim->vW
open True renaming intro->xF
open PySem.Around renaming under_plainId->xQ
open Ne renaming symm->xS
open PySem.MeetsSeq3 renaming plain_eq_loop->yS,entry_eq_loop->eQ
open Sum.inr renaming inj->yW
open Array renaming getElem?_eq_some_iff->aA,getElem?_toList->bD,length_toList->bX
open PyProof.Rows.F renaming plain_set_update_loop->aG,entry_set_update_loop->eJ
open PySem.Obj renaming mapFields->aH
open PySem.Builtin.Str renaming occurrences->aK
open Nat.succ renaming inj->bB
open PySem.Builtin.List renaming listTooLong->cM
open PySem.Calls renaming callWith_builtin->cZ,evalArgs_plain->dU,spliced_cons->eY
open ForInStep renaming yield->dF
open PySem.SeqAt.EqAt renaming of_refs->fD
open List.Pairwise renaming nil->fO
open PySem.Builtin.Tuple renaming tupleCompareSizes->fY
open Nat.Coprime renaming dvd_of_dvd_mul_left->fZ
noncomputable section
set_option compiler.extract_closed false
set_option Elab.async false
set_option linter.all false
set_option maxRecDepth 100000
theorem gK.{u} {c:Prop} {h:Decidable c} (n:¬c) {α:Sort u} {t e:α}:ite c t e=e:=if_neg n
theorem gL.{u} {c:Prop} {h:Decidable c} (n:c) {α:Sort u} {t e:α}:ite c t e=t:=if_pos n
def gM{p:Prop}[i:Decidable p](h:p):decide p=true:=decide_eq_true h
def gO{p:Prop}[i:Decidable p](h:¬p):decide p=false:=decide_eq_false h
namespace L2
open PySem PySem.Spec PyProof.Rows
variable{us:List uB}{H:Hp}{a b C:Addr}{o:HO}{u:uB}{X:Cx}{e c:vZ}{A:vS}{s:uC}{i:Nat}{x:Str}{pos:Pos}{v:V}{op:CmpOp}{K:uX}{pins:List (Addr×Obj)}{σ:St}{fp:List Addr}{r:R2}
abbrev Key:=Sum Int Str
noncomputable def jcq:Key->uB->Bool
 | .inl k,v=>Value.isInt k v
 | .inr x,v=>eK x v
noncomputable def jvt(w:vN):Key->Int
 | .inl k=>hashInt k
 | .inr x=>hashStr w x
def qbi:∀{k:Key} {v:uB},jcq k v=true->(∃i t,k=fF i/\v=gC i t)\/(∃x t,k=uE x/\v=dZ x t)
 | .inl i,v,h=>by
  obtain⟨t,e⟩:=Value.isInt_shape (k:=i) (v:=v) h;exact .inl ⟨i,t,rfl,e⟩
 | .inr x,v,h=>by
  obtain⟨t,e⟩:=Value.isStrOf_shape (x:=x) (v:=v) h;exact .inr ⟨x,t,rfl,e⟩
def jgn(i:Int)(t:Tok):jcq (.inl i) (.int i t)=true:=by simp[jcq,Value.isInt]
def jgo(x:Str)(t:Tok):jcq (.inr x) (.str x t)=true:=by simp[jcq,eK]
def jo1(a b:Int):decide ((fF a:Key)=fF b)=(a==b):=by
 by_cases e:a=b
 .subst e;simp
 .have h:¬(fF a:Key)=fF b:=fun q=>e (Sum.inl.inj q);rw[gO h];exact(beq_eq_false_iff_ne.mpr e).symm
def jo2(a b:Str):decide ((uE a:Key)=uE b)=decide (a=b):=by
 by_cases e:a=b
 .subst e;simp
 .have h:¬(uE a:Key)=uE b:=fun q=>e (yW q);rw[gO h,gO e]
def jo3(a:Int)(b:Str):decide ((fF a:Key)=uE b)=false:=gO (fun q=>nomatch q)
def jo4(a:Str)(b:Int):decide ((uE a:Key)=fF b)=false:=gO (fun q=>nomatch q)
noncomputable def qbk(prog:vA)(w:vN):PySem.KeyKind prog w Key where
 is:=jcq
 hash:=jvt w
 inj:=fun v a b ha hb=>by
  rcases qbi ha with⟨i,t,rfl,rfl⟩|⟨x,t,rfl,rfl⟩
  .rcases qbi hb with⟨j,u,rfl,e⟩|⟨y,u,rfl,e⟩
   .injection e with e1 _;rw[e1]
   .exact nomatch e
  .rcases qbi hb with⟨j,u,rfl,e⟩|⟨y,u,rfl,e⟩
   .exact nomatch e
   .injection e with e1 _;rw[e1]
 byValue:=fun k v h=>by
  rcases qbi h with⟨i,t,rfl,rfl⟩|⟨x,t,rfl,rfl⟩<;>rfl
 pyHash:=fun hv h=>by
  rcases qbi hv with⟨i,t,rfl,rfl⟩|⟨x,t,rfl,rfl⟩
  .exact wpAny_pyHash_int h
  .exact wpAny_pyHash_str h
 eqBool:=fun hu hv h=>by
  rcases qbi hu with⟨i,t,rfl,rfl⟩|⟨x,t,rfl,rfl⟩
  .rcases qbi hv with⟨j,u,rfl,rfl⟩|⟨y,u,rfl,rfl⟩
   .rw[jo1] at h;exact wpAny_eqBool_int h
   .rw[jo3] at h;exact SeqAt.EqAt.int_str i t y u _ _ _ _ h
  .rcases qbi hv with⟨j,u,rfl,rfl⟩|⟨y,u,rfl,rfl⟩
   .rw[jo4] at h;exact SeqAt.EqAt.str_int x t j u _ _ _ _ h
   .rw[jo2] at h;exact wpAny_eqBool_str h
 «strs»:=fun k x t v h=>by
  rcases qbi h with⟨i,u,rfl,e⟩|⟨y,u,rfl,e⟩
  .exact nomatch e
  .injection e with e1 _
   subst e1
   cases v<;>rfl
def jdz(prog:vA)(w:vN)(i:Int)(t:Tok):(qbk prog w).is (.inl i) (.int i t)=true:=jgn i t
def jd0(prog:vA)(w:vN)(x:Str)(t:Tok):(qbk prog w).is (.inr x) (.str x t)=true:=jgo x t
inductive V where
 |non|bl (b:Bool) |int (i:Int) |str (x:Str) |byt (b:Array UInt8) |flt (b:UInt64) |ref (a:Addr) |ty (n:String)
 deriving DecidableEq
noncomputable def qbg:V->uB->Prop
 | .non,u=>u=wN
 | .bl b,u=>u=eS b
 | .int i,u=>∃t,u=gC i t
 | .str x,u=>∃t,u=dZ x t
 | .byt b,u=>∃t,u=Value.bytes b t
 | .flt b,u=>∃t,u=Value.float b t
 | .ref a,u=>u=uV a
 | .ty n,u=>u=cW n
abbrev qbl:List V->List uB->Prop:=Paired qbg
theorem qbl.length{xs:List V}(r:qbl xs us):xs.length=us.length:=Paired.length r
theorem qbl.get:∀{xs:List V} {us:List uB} {i:Nat} {x:V},qbl xs us->xs[i]?=some x->∃u,us[i]?=some u/\qbg x u
 |_,_,_,_,.nil,e=>by simp at e
 |_,_,0,_,.cons r _,e=>by simp at e;subst e;exact⟨_,rfl,r⟩
 |_,_,i+1,x,.cons _ t,e=>by
  obtain⟨u,h1,h2⟩:=qbl.get (i:=i) (x:=x) t (by simpa using e);exact⟨u,by simpa using h1,h2⟩
theorem qbl.append:∀{xs ys:List V} {us ws:List uB},qbl xs us->qbl ys ws->qbl (xs++ys) (us++ws)
 |_,_,_,_,.nil,s=>s
 |_,_,_,_,.cons r t,s=> .cons r (qbl.append t s)
theorem qbl.take:∀{xs:List V} {us:List uB} (n:Nat),qbl xs us->qbl (xs.take n) (us.take n)
 |_,_,0,_=> .nil
 |_,_,_+1,.nil=> .nil
 |_,_,n+1,.cons r t=> .cons r (qbl.take n t)
theorem qbl.drop:∀{xs:List V} {us:List uB} (n:Nat),qbl xs us->qbl (xs.drop n) (us.drop n)
 |_,_,0,r=>r
 |_,_,_+1,.nil=> .nil
 |_,_,n+1,.cons _ t=>qbl.drop n t
noncomputable def qgz:Option V->Option uB->Prop
 |some v,some u=>qbg v u
 |none,none=>True
 |_,_=>False
noncomputable def KV{κ:Type}:List (κ×V)->List (κ×uB)->Prop:=Paired fun(p:κ×V) (q:κ×uB)=>p.1=q.1/\qbg p.2 q.2
noncomputable def kV:Key->V
 | .inl i=> .int i
 | .inr x=> .str x
inductive HO where
 |lst(xs:List V)
 |tup(xs:List V)
 |dK(kvs:List (Key×V)) |dT (kvs:List (List Key×V))
 |set(S:Int->Bool)(n:Nat)
 |ins(C dx:Addr)(fs:List (Str×V))
 |own(x:Addr)
 |xd(fs:List (Str×V))
 |met(f x:Addr)
 |rng(lo hi:Int)
 |frz(o:Obj)(u:HO)
 |tbl(ps:Array uB)
 |ext(φ:vU->Prop)
abbrev Hp:=Addr->Option HO
noncomputable def upd(H:Hp)(a:Addr)(o:HO):Hp:=fun b=>if b=a then some o else H b
def qa1:upd H a o a=some o:=by unfold upd;rw[gL rfl]
def qa7(h:b≠a):upd H a o b=H b:=by unfold upd;rw[gK h]
def qd1{u:HO} :upd (upd H a o) a u=upd H a u:=by
 funext b;unfold upd;split<;>rfl
def jgp{u:HO}(h:H a=some o)(h':H b=some u)(d:o≠u):a≠b:=by
 intro e;subst e;rw[h] at h';exact d (uU h')
def qa9(h:H a=some o)(h':H b=none):a≠b:=by
 intro e;subst e;rw[h] at h';cases h'
section
variable(P:vA)(w:vN)
noncomputable def qbw(H:Hp)(h:vU)(a:Addr):HO->Prop
 | .lst xs=>xs.length<=sizeLine/\∃(its:List uB)(n:Nat),qbl xs its/\h.get? a=some {cls:=.type "list",data:=.seq its.toArray n}
 | .tup xs=>xs.length<=sizeLine/\∃its:List uB,qbl xs its/\IsTup h a its.toArray
 | .dK kvs=>kvs.length<=sizeLine/\(a==xX)=false/\∃vs,KV kvs vs/\h.DictOf (qbk P w) a vs
 | .dT kvs=>kvs.length<=sizeLine/\(a==xX)=false/\∃xs:List (List Key×Addr×uB),
   Paired (fun(p:List Key×V) (q:List Key×Addr×uB)=>p.1=q.1/\H q.2.1=some (.tup (p.1.map kV))/\qbg p.2 q.2.2) kvs xs/\
   ∃o es ep,h.get? a=some o/\o.ExactDict/\o.data=.dict es ep/\es.toList=xs.map (entryOfKey (eA (qbk P w)))/\(xs.map (·.1)).Nodup
 | .set S n=>h.SetOf (intKind P w) a S n
 | .ins C dx fs=>H dx=some (.own a)/\fs.length<=1000/\dx≠a/\h.get? a=some (cU C dx)/\
   ∃mA,h.Ns1 dx mA/\(∀f,qgz (fs.lookup f) (mA f))/\PySem.Within mA (fs.map (·.1))
 | .own _=>∃o,h.get? a=some o
 | .xd fs=>∃mA,h.Ns1 a mA/\∀f,qgz (fs.lookup f) (mA f)
 | .rng lo hi=>∃t u v,h.get? a=some {cls:=.type "range",data:=.fields #[.int lo t,.int hi u,.int 1 v]}
 | .frz o u=>h.get? a=some o/\qbw H h a u
 | .tbl ps=>h.get? a=some {cls:=.none,data:=.fields ps}
 | .met f x=>h.get? a=some (fG (.ref f) (.ref x))
 | .ext φ=>φ h/\(∃o,h.get? a=some o)/\∀h1 h2:vU,φ h1->(∀o,h1.get? a=some o->h2.get? a=some o)->φ h2
def HOk(H:Hp)(h:vU):Prop:=∀a o,H a=some o->qbw P w H h a o
end
section
variable{P:vA}{w:vN}{H H':Hp}{h h':vU}{a:Addr}{o:HO}
theorem qbw.lt(x:qbw P w H h a o):a<h.objs.size:=by
 cases o with
 |lst xs=>obtain⟨_,_,_,_,e⟩:=x;exact uP e
 |tup xs=>obtain⟨_,_,_,p⟩:=x;exact p.lt
 |dK kvs=>obtain⟨_,_,_,_,o,_,_,e,_⟩:=x;exact uP e
 |dT kvs=>obtain⟨_,_,_,_,o,_,_,e,_⟩:=x;exact uP e
 |set S n=>obtain⟨o,_,_,_,e,_⟩:=x;exact uP e
 |ins C dx fs=>obtain⟨_,_,_,e,_⟩:=x;exact uP e
 |own y=>obtain⟨_,e⟩:=x;exact uP e
 |xd fs=>obtain⟨_,⟨_,_,_,e,_⟩,_⟩:=x;exact uP e
 |rng lo hi=>obtain⟨_,_,_,e⟩:=x;exact uP e
 |frz ob u=>obtain⟨e,_⟩:=x;exact uP e
 |tbl ps=>exact uP (show h.get? a=some _ from x)
 |met f y=>exact uP (show h.get? a=some _ from x)
 |ext φ=>obtain⟨_,⟨_,e⟩,_⟩:=x;exact uP e
theorem Paired.mapP{α β:Type}{F G:α->β->Prop}:∀{l₁:List α} {l₂:List β},Paired F l₁ l₂->(∀a b,F a b->G a b)->Paired G l₁ l₂
 |_,_,.nil,_=> .nil
 |_,_,.cons r t,f=> .cons (f _ _ r) (Paired.mapP t f)
def qbw.stay(x:qbw P w H h a o)(k:∀b u,(b=a\/H b=some (.own a))->h.get? b=some u->h'.get? b=some u)
  (ho:∀b,H b=some (.own a)->H' b=some (.own a))(ht:∀b xs,H b=some (.tup xs)->H' b=some (.tup xs)):qbw P w H' h' a o:=by
 induction o with
 |lst xs=>obtain⟨z,its,n,r,e⟩:=x;exact⟨z,its,n,r,k _ _ (.inl rfl) e⟩
 |tup xs=>obtain⟨z,its,r,ob,e,c⟩:=x;exact⟨z,its,r,ob,k _ _ (.inl rfl) e,c⟩
 |dK kvs=>obtain⟨z,y,vs,r,ob,es,ep,e,c⟩:=x;exact⟨z,y,vs,r,ob,es,ep,k _ _ (.inl rfl) e,c⟩
 |dT kvs=>
  obtain⟨z,y,xs,r,ob,es,ep,e,c⟩:=x;exact⟨z,y,xs,Paired.mapP r fun p q z=>⟨z.1,ht _ _ z.2.1,z.2.2⟩,ob,es,ep,k _ _ (.inl rfl) e,c⟩
 |set S n=>obtain⟨ob,es,ep,t,e,c⟩:=x;exact⟨ob,es,ep,t,k _ _ (.inl rfl) e,c⟩
 |ins C dx fs=>
  obtain⟨d,z,ne,e,mA,⟨od,es,ep,e2,c⟩,r⟩:=x;exact⟨ho _ d,z,ne,k _ _ (.inl rfl) e,mA,⟨od,es,ep,k _ _ (.inr d) e2,c⟩,r⟩
 |own y=>obtain⟨ob,e⟩:=x;exact⟨ob,k _ _ (.inl rfl) e⟩
 |xd fs=>obtain⟨mA,⟨od,es,ep,e,c⟩,r⟩:=x;exact⟨mA,⟨od,es,ep,k _ _ (.inl rfl) e,c⟩,r⟩
 |rng lo hi=>obtain⟨t,u,v,e⟩:=x;exact⟨t,u,v,k _ _ (.inl rfl) e⟩
 |frz ob u ih=>obtain⟨e,q⟩:=x;exact⟨k _ _ (.inl rfl) e,ih q⟩
 |tbl ps=>
  have e:h.get? a=some {cls:=.none,data:=.fields ps}:=x;show h'.get? a=some {cls:=.none,data:=.fields ps};exact k a _ (.inl rfl) e
 |met f y=>
  have e:h.get? a=some (fG (.ref f) (.ref y)):=x;show h'.get? a=some (fG (.ref f) (.ref y));exact k a _ (.inl rfl) e
 |ext φ=>obtain⟨p,⟨o,e⟩,st⟩:=x;exact⟨st _ _ p fun o q=>k _ _ (.inl rfl) q,⟨o,k _ _ (.inl rfl) e⟩,st⟩
theorem HOk.lt(x:HOk P w H h)(e:H a=some o):a<h.objs.size:=(x a o e).lt
def HOk.fresh(x:HOk P w H h)(e:h.objs.size<=a):H a=none:=by
 cases q:H a with
 |none=>rfl
 |some u=>exact absurd (vD (x.lt q) e) (wQ _)
def HOk.kept(x:HOk P w H h)(k:∀b u,h.get? b=some u->h'.get? b=some u):HOk P w H h':=fun a o e=>
 (x a o e).stay (fun b u _ q=>k b u q) (fun _ q=>q) fun _ _ q=>q
def HOk.laid(x:HOk P w H h)(k:∀b u,h.get? b=some u->h'.get? b=some u)(hp:h.objs.size<=a)(new:qbw P w (upd H a o) h' a o):HOk P w (upd H a o) h':=fun b u e=>by
 have hn:=x.fresh hp;by_cases hb:b=a
 .subst hb;rw[qa1] at e;cases e;exact new
 .rw[qa7 hb] at e;exact(x b u e).stay (fun c v _ q=>k c v q) (fun c q=>by rw[qa7 (qa9 q hn)];exact q) fun c xs q=>by rw[qa7 (qa9 q hn)];exact q
end
def Rd(H:Hp)(a:Addr)(u:HO):Prop:=H a=some u\/∃o,H a=some (.frz o u)
def Rd.of{u:HO}(h:H a=some u):Rd H a u:=.inl h
def Rd.ok{P:vA}{w:vN}{h:vU}{u:HO}(r:Rd H a u)(x:HOk P w H h):qbw P w H h a u:=by
 rcases r with r|⟨o,r⟩
 .exact x a u r
 .obtain⟨_,q⟩:=x a _ r;exact q
noncomputable def Mut:Option HO->Prop
 |some (.lst _)=>True
 |some (.dK _)=>True
 |some (.dT _)=>True
 |some (.set _ _)=>True
 |some (.ins _ _ _)=>True
 |some (.ext _)=>True
 |_=>False
section
variable{P:vA}{w:vN}{H:Hp}{h h':vU}{x e:Addr}{o':HO}
def HOk.write(ok:HOk P w H h)(mu:Mut (H x))(he:e=x\/H e=some (.own x))(k:∀b u,b≠e->h.get? b=some u->h'.get? b=some u)(heo:∃u,h'.get? e=some u)
  (new:qbw P w (upd H x o') h' x o'):HOk P w (upd H x o') h':=fun b u q=>by
 have nown:∀c y,H c=some (.own y)->c≠x:=fun c y r z=>by subst z;rw[r] at mu;exact mu
 have ntup:∀c xs,H c=some (.tup xs)->c≠x:=fun c xs r z=>by subst z;rw[r] at mu;exact mu
 by_cases hb:b=x
 .subst hb;rw[qa1] at q;cases q;exact new
 .rw[qa7 hb] at q;by_cases hbe:b=e
  .have q':H b=some (.own x):=by
    rcases he with z|z
    .exact absurd (hbe.trans z) hb
    .rw[hbe];exact z
   rw[q] at q';cases q';obtain⟨v,hv⟩:=heo;exact⟨v,by rw[hbe];exact hv⟩
  .refine(ok b u q).stay (fun c v hc r=>k c v ?_ r) (fun c r=>by rw[qa7 (nown c b r)];exact r) fun c xs r=>by rw[qa7 (ntup c xs r)];exact r
   rcases hc with rfl|hc
   .exact hbe
   .rintro rfl;rcases he with z|z
    .exact nown c b hc z
    .rw[hc] at z;cases z;exact hb rfl
end
structure Un(fs ex:List Addr)(H H':Hp)(h h':vU):Prop where
 keep:∀b o,h.get? b=some o->H b=none->b∉fs->b∉ex->h'.get? b=some o
 slot:∀b o,h.get? b=some o->H b=none->b∈fs->b∉ex->∃sl,h'.get? b=some {o with slots:=sl}
 free:∀b o,h.get? b=some o->H b=none->b∉ex->H' b=none
 there:∀b o,h.get? b=some o->b∉ex->∃o',h'.get? b=some o'
 tups:∀b xs,H b=some (.tup xs)->H' b=some (.tup xs)
 frzs:∀b o u,H b=some (.frz o u)->H' b=some (.frz o u)
 tbls:∀b ps,H b=some (.tbl ps)->∃more,H' b=some (.tbl (ps++more))
section
variable{fs ex:List Addr}{H H1:Hp}{h h1 h':vU}{a x e:Addr}{o:HO}
def Un.any(u:Un fs ex H H1 h h1){b:Addr}{ob:Obj}(q:h.get? b=some ob)(n:H b=none)(hx:b∉ex):∃sl,h1.get? b=some {ob with slots:=sl}:=by
 by_cases hb:b∈fs
 .exact u.slot b ob q n hb hx
 .exact⟨ob.slots,u.keep b ob q n hb hx⟩
def Un.kept(k:∀b u,h.get? b=some u->h'.get? b=some u):Un fs ex H H h h':=
 ⟨fun b ob q _ _ _=>k b ob q,fun b ob q _ _ _=>⟨ob.slots,k b ob q⟩,fun _ _ _ n _=>n,fun b ob q _=>⟨ob,k b ob q⟩,fun _ _ q=>q,fun _ _ _ q=>q,fun _ ps q=>⟨#[],by rw[q];simp⟩⟩
def Un.refl:Un fs ex H H h h:=Un.kept fun _ _ q=>q
def Un.laid(k:∀b u,h.get? b=some u->h'.get? b=some u)(hp:h.objs.size<=a)(hn:H a=none):Un fs ex H (upd H a o) h h' where
 keep:=fun b u q _ _ _=>k b u q
 slot:=fun b u q _ _ _=>⟨u.slots,k b u q⟩
 free:=fun b u q n _=>by rw[qa7 (vL (vD (uP q) hp))];exact n
 there:=fun b u q _=>⟨u,k b u q⟩
 tups:=fun b xs q=>by rw[qa7 (qa9 q hn)];exact q
 frzs:=fun b u xs q=>by rw[qa7 (qa9 q hn)];exact q
 tbls:=fun b ps q=>⟨#[],by rw[qa7 (qa9 q hn),q];simp⟩
def Un.write(mu:Mut (H x))(he:e=x\/H e=some (.own x))(k:∀b u,b≠e->h.get? b=some u->h'.get? b=some u)(heo:∃u,h'.get? e=some u):Un fs ex H (upd H x o) h h':=by
 have hx:∀b,H b=none->b≠x:=fun b n z=>by subst z;rw[n] at mu;exact mu
 have hb:∀b,H b=none->b≠e:=fun b n z=>by
  subst z;rcases he with r|r
  .exact hx b n r
  .rw[n] at r;cases r
 have hm:∀b u,H b=some u->¬Mut (some u)->b≠x:=fun b u q nm z=>by subst z;rw[q] at mu;exact nm mu
 refine⟨fun b u q n _ _=>k b u (hb b n) q,fun b u q n _ _=>⟨u.slots,k b u (hb b n) q⟩,fun b u q n _=>by rw[qa7 (hx b n)];exact n,fun b u q _=>?_,
  fun b xs q=>by rw[qa7 (hm b _ q fun z=>z)];exact q,fun b u xs q=>by rw[qa7 (hm b _ q fun z=>z)];exact q,fun b ps q=>⟨#[],by rw[qa7 (hm b _ q fun z=>z),q];simp⟩⟩
 by_cases hbe:b=e
 .subst hbe;exact heo
 .exact⟨u,k b u hbe q⟩
end
noncomputable def trk(h:vU)(H:Hp):List Addr:=(vK h.objs.size).filter fun a=>(H a).isSome
noncomputable def jjv(h:vU)(H:Hp):vU:=PySem.W.hideAll h (trk h H)
def jgq(h:vU)(H:Hp):(jjv h H).objs.size=h.objs.size:=PySem.W.hideAll_size _ _
def jjw{h:vU}{o:Obj}(e:h.get? b=some o)(n:H b=none):(jjv h H).get? b=some o:=
 PySem.W.hideAll_get _ e fun hm=>by
  have q:(H b).isSome=true:=(zW.mp hm).2;rw[n] at q;simp at q
def jmn{h:vU}{o:Obj}(e:(jjv h H).get? b=some o):h.get? b=some o/\H b=none:=by
 have e':h.get? b=some o:=PySem.W.of_hideAll (trk h H) e;refine⟨e',?_⟩
 cases q:H b with
 |none=>rfl
 |some x=>
  have hm:b∈trk h H:=zW.mpr ⟨yI.mpr (uP e'),by simp[q]⟩;have z:(jjv h H).get? b=none:=PySem.W.hideAll_none (trk h H) hm;rw[z] at e;cases e
noncomputable def jmo(g h:vU)(L:Addr):List (Addr×Obj):=(vK h.objs.size).filterMap fun a=>if a=L\/(g.get? a).isSome=true then none else(h.get? a).map fun o=>(a,o)
noncomputable def rest(g h:vU)(L d:Addr):List (Addr×Obj):=(jmo g h L).filter fun p=>decide (p.1≠d)
structure Mod(K:uX)(mg:Str->Option uB)(base:vU):Prop where
 kin:K.In base
 glob:base.Ns uT mg
 blt:∃mb,base.Ns eU mb/\∀x:Str,x≠"__name__"->mb x=aP x
 nolimit:base.NoLimit
structure Cx where
 prog:vA
 w:vN
 K:uX
 mg:Str->Option uB
 base:vU
 A:vS
 N:List Str
 s₀:uC
 H₀:Hp
 env:Env
 outer:List Env
 stack:List Env
 ex:List Addr
 fn:Str->Bool
 calm:Bool
 pn:List (Addr×Obj)
 xe:uB->uC->Prop
noncomputable def frs(l:List Env):List Addr:=l.filterMap (·.frame)
abbrev Cx.fs(X:Cx):List Addr:=frs X.outer
def Vis(sc:xL)(x:Str):Prop:=sc.names.lookup x=some .local\/sc.names.lookup x=some .cell\/sc.names.lookup x=some .free
def Loc(sc:xL)(x:Str):Prop:=sc.names.lookup x=some .local\/sc.names.lookup x=some .cell
def jvu(env:Env)(h:vU)(m:Str->Option uB)(x:Str)(u:uB):Prop:=
 (env.kindOf x=some .local/\m x=some u)\/((env.kindOf x=some .cell\/env.kindOf x=some .free)/\∃c,env.cells.lookup x=some c/\h.IsCell c (some u))
structure Cx.Ok(X:Cx):Prop where
 mod:Mod X.K X.mg X.base
 kind:X.env.scope.kind=.function
 glob:X.env.globals=uT
 blt:X.env.builtins=eU
 above:↑X.s₀<=X.env.locals
 inj:∀x y c,X.env.cells.lookup x=some c->X.env.cells.lookup y=some c->x=y
 has:∀x,(X.env.kindOf x=some .cell\/X.env.kindOf x=some .free)->∃c,X.env.cells.lookup x=some c
 cab:∀x c,X.fn x=true->X.env.cells.lookup x=some c->↑X.s₀<=c
 hd:X.calm=true->X.A.handled=none
 frames:X.A.frames=some X.stack
 stk:X.stack=X.outer\/(X.stack=X.env::X.outer/\X.env.frame=some X.env.locals)
 exf:∀b∈X.ex,b≠X.env.locals/\∀x c,X.env.cells.lookup x=some c->c≠b
 bs:∀b o,X.base.get? b=some o->X.s₀.heap.get? b=some o/\X.H₀ b=none
 bsz:X.base.objs.size<=↑X.s₀
 noex:∀b o,X.base.get? b=some o->b∉X.ex
 exfs:∀b∈X.ex,b∉X.fs
 funs:X.s₀.heap.FunFrames X.base X.outer
 frf:∀b∈X.fs,X.H₀ b=none
structure Inv(X:Cx)(pins:List (Addr×Obj))(σ:List (Option V))(H:Hp)(s:uC):Prop where
 ok:X.Ok
 os:s.os=X.s₀.os
 bare:cE s.gens
 base:Un X.fs X.ex X.H₀ H X.s₀.heap s.heap
 loc:∃m,s.heap.Ns X.env.locals m/\∀(i:Nat)(x:Str)(v:V),X.N[i]?=some x->σ[i]?=some (some v)->Vis X.env.scope x->∃u,qbg v u/\jvu X.env s.heap m x u
 cell:∀x c,X.env.cells.lookup x=some c->∃v,s.heap.IsCell c v
 free:H X.env.locals=none
 freeC:∀x c,X.env.cells.lookup x=some c->H c=none
 pin:∀p∈X.pn++pins,s.heap.get? p.1=some p.2/\H p.1=none/\p.1≠X.env.locals/\p.1∉X.fs/\∀v,p.2.data≠ .cell v
 hok:HOk X.prog X.w H s.heap
 len:σ.length=X.N.length
section
variable{X:Cx}{pins:List (Addr×Obj)}{σ:List (Option V)}{H H':Hp}{s:uC}{h':vU}
def Cx.Ok.nofr(ok:X.Ok){b:Addr}{o:Obj}(e:X.base.get? b=some o):b∉X.fs:=fun hb=>by
 have:=(ok.funs.mem hb).1;rw[e] at this;cases this
theorem Inv.bs(I:Inv X pins σ H s):∀b o,X.base.get? b=some o->s.heap.get? b=some o/\H b=none:=fun b o e=>
 ⟨I.base.keep b o (I.ok.bs b o e).1 (I.ok.bs b o e).2 (I.ok.nofr e) (I.ok.noex b o e),I.base.free b o (I.ok.bs b o e).1 (I.ok.bs b o e).2 (I.ok.noex b o e)⟩
def Inv.bk(I:Inv X pins σ H s):∀b o,X.base.get? b=some o->s.heap.get? b=some o:=fun b o e=>(I.bs b o e).1
theorem Inv.mod(I:Inv X pins σ H s):Mod X.K X.mg X.base:=I.ok.mod
def Inv.kIn(I:Inv X pins σ H s):X.K.In s.heap:=I.ok.mod.kin.keeps I.bk
theorem Inv.lt(I:Inv X pins σ H s):X.env.locals<↑s:=let ⟨_,hn,_⟩:=I.loc;hn.lt
def Inv.sz(I:Inv X pins σ H s):↑X.s₀<=↑s:=uY I.ok.above (xG I.lt)
def Inv.nofs(I:Inv X pins σ H s){a:Addr}(h:↑s<=a):a∉X.fs:=fun hb=>by
 obtain⟨_,o,ho,_⟩:=I.ok.funs.mem hb;exact absurd (vD (uP ho) (uY I.sz h)) (wQ _)
def Inv.cne(I:Inv X pins σ H s):∀x c,X.env.cells.lookup x=some c->c≠X.env.locals:=fun x c e z=>by
 obtain⟨v,o,ho,hd⟩:=I.cell x c e;obtain⟨m,⟨o',es,ep,ho',hd',_⟩,_⟩:=I.loc;rw[z,ho'] at ho;cases ho;rw[hd'] at hd;cases hd
theorem Inv.funs(I:Inv X pins σ H s):s.heap.FunFrames X.base X.outer:=by
 have all:∀(l:List Env),(∀b∈frs l,b∈X.fs)->X.s₀.heap.FunFrames X.base l->s.heap.FunFrames X.base l:=by
  intro l
  induction l with
  |nil=>intro _ _;trivial
  |cons env r ih=>
   intro hs hl;obtain⟨hk,⟨L,o,hf,hn,ho,hd⟩,hr⟩:=hl;have hL:L∈X.fs:=hs L (by unfold frs;rw[eG,hf];exact zG);obtain⟨sl,e⟩:=I.base.slot L o ho (I.ok.frf L hL) hL fun z=>I.ok.exfs L z hL;exact⟨hk,⟨L,_,hf,hn,e,hd⟩,ih (fun b hb=>hs b (by unfold frs;rw[eG,hf];exact zD _ hb)) hr⟩
 exact all X.outer (fun _ hb=>hb) I.ok.funs
theorem Inv.stack(I:Inv X pins σ H s):s.heap.FunFrames X.base X.stack:=by
 rcases I.ok.stk with e|⟨e,hf⟩
 .rw[e];exact I.funs
 .rw[e];obtain⟨m,hn,_⟩:=I.loc;refine .cons (by rw[I.ok.kind];decide) hf hn ?_ I.funs;exact bO (uY I.ok.bsz I.ok.above)
def Inv.stkSub(I:Inv X pins σ H s):∀b∈frs X.stack,b∈X.env.locals::X.fs:=fun b hb=>by
 rcases I.ok.stk with e|⟨e,hf⟩
 .rw[e] at hb;exact zD _ hb
 .rw[e] at hb;unfold frs at hb;rw[eG,hf] at hb;exact hb
def Inv.stkFree(I:Inv X pins σ H s):∀b∈frs X.stack,H b=none:=fun b hb=>by
 rcases zP.mp (I.stkSub b hb) with e|hb
 .rw[e];exact I.free
 .obtain⟨_,o,ho,_⟩:=I.ok.funs.mem hb;exact I.base.free b o ho (I.ok.frf b hb) fun z=>I.ok.exfs b z hb
def Inv.step{g':Array GenState}{t':Nat}{d':Drawn}{ch:List Addr}(I:Inv X pins σ H s)
  (hch:∀b∈ch,(b∈X.ex\/↑X.s₀<=b)/\b≠X.env.locals/\(∀x c,X.env.cells.lookup x=some c->c≠b)/\∀p∈X.pn++pins,p.1≠b)
  (keep:∀b o,b≠X.env.locals->b∉X.fs->b∉ch->s.heap.get? b=some o->H b=none->h'.get? b=some o)
  (slot:∀b o,b≠X.env.locals->b∈X.fs->b∉ch->s.heap.get? b=some o->H b=none->∃sl,h'.get? b=some {o with slots:=sl})(free:∀b o,b∉ch->s.heap.get? b=some o->H b=none->H' b=none)
  (there:∀b o,b∉ch->s.heap.get? b=some o->∃o',h'.get? b=some o')
  (tups:∀b xs,H b=some (.tup xs)->H' b=some (.tup xs))(frzs:∀b o u,H b=some (.frz o u)->H' b=some (.frz o u))(tbls:∀b ps,H b=some (.tbl ps)->∃more,H' b=some (.tbl (ps++more)))
  (ns:∀m,s.heap.Ns X.env.locals m->h'.Ns X.env.locals m)(hok:HOk X.prog X.w H' h')(hg:cE g'):
  Inv X pins σ H' {s with heap:=h',gens:=g',drawn:=d',toks:=t'}:=by
 have neL:∀b o,X.s₀.heap.get? b=some o->b≠X.env.locals:=fun b o e=>vL (vD (uP e) I.ok.above);have neC:∀b o,X.s₀.heap.get? b=some o->b∉X.ex->b∉ch:=fun b o e hx hb=>by
  rcases(hch b hb).1 with z|z
  .exact hx z
  .exact absurd (vD (uP e) z) (wQ _)
 have cellK:∀x c,X.env.cells.lookup x=some c->∀v,s.heap.IsCell c v->h'.IsCell c v:=fun x c e v ⟨o,ho,hd⟩=>by
  have nch:c∉ch:=fun z=>(hch c z).2.2.1 x c e rfl;by_cases hc:c∈X.fs
  .obtain⟨sl,q⟩:=slot c o (I.cne x c e) hc nch ho (I.freeC x c e);exact⟨_,q,hd⟩
  .exact⟨o,keep c o (I.cne x c e) hc nch ho (I.freeC x c e),hd⟩
 refine⟨I.ok,I.os,hg,⟨fun b o e n hb hx=>?_,fun b o e n hb hx=>?_,fun b o e n hx=>?_,fun b o e hx=>?_,fun b xs e=>tups b xs (I.base.tups b xs e),fun b o xs e=>frzs b o xs (I.base.frzs b o xs e),fun b ps e=>?_⟩,?_,fun x c e=>?_,?_,fun x c e=>?_,fun p hp=>?_,hok,I.len⟩
 .exact keep b o (neL b o e) hb (neC b o e hx) (I.base.keep b o e n hb hx) (I.base.free b o e n hx)
 .obtain⟨sl,e1⟩:=I.base.slot b o e n hb hx;obtain⟨sl',e2⟩:=slot b _ (neL b o e) hb (neC b o e hx) e1 (I.base.free b o e n hx);exact⟨sl',e2⟩
 .obtain⟨o',e1⟩:=I.base.there b o e hx;exact free b o' (neC b o e hx) e1 (I.base.free b o e n hx)
 .obtain⟨o',e1⟩:=I.base.there b o e hx;exact there b o' (neC b o e hx) e1
 .obtain⟨m1,e1⟩:=I.base.tbls b ps e;obtain⟨m2,e2⟩:=tbls b _ e1;exact⟨m1++m2,by rw[e2,Array.append_assoc]⟩
 .obtain⟨m,hn,hl⟩:=I.loc;refine⟨m,ns m hn,fun i x v e1 e2 e3=>?_⟩;obtain⟨u,r,l⟩:=hl i x v e1 e2 e3;refine⟨u,r,?_⟩;rcases l with l|⟨k,c,e,z⟩
  .exact .inl l
  .exact .inr ⟨k,c,e,cellK x c e _ z⟩
 .obtain⟨v,z⟩:=I.cell x c e;exact⟨v,cellK x c e v z⟩
 .obtain⟨m,⟨o,_,_,ho,_⟩,_⟩:=I.loc;exact free _ o (fun z=>(hch _ z).2.1 rfl) ho I.free
 .obtain⟨v,o,ho,hd⟩:=I.cell x c e;exact free c o (fun z=>(hch c z).2.2.1 x c e rfl) ho (I.freeC x c e)
 .obtain⟨e,n,ne,nf,d⟩:=I.pin p hp;have nch:p.1∉ch:=fun z=>(hch p.1 z).2.2.2 p hp rfl;exact⟨keep p.1 p.2 ne nf nch e n,free p.1 p.2 nch e n,ne,nf,d⟩
def Inv.un{t':Nat}(I:Inv X pins σ H s)(u:Un X.fs [] H H' s.heap h')(hok:HOk X.prog X.w H' h'):Inv X pins σ H' {s with heap:=h',toks:=t'}:=by
 obtain⟨m,⟨o,es,ep,ho,r⟩,_⟩:=id I.loc;obtain⟨sl,hL⟩:=u.any ho I.free (by simp);exact I.step (g':=s.gens) (d':=s.drawn) (ch:=[]) (fun _ z=>nomatch z) (fun b o _ hb _ e n=>u.keep b o e n hb (by simp)) (fun b o _ hb _ e n=>u.slot b o e n hb (by simp)) (fun b o _ e n=>u.free b o e n (by simp)) (fun b o _ e=>u.there b o e (by simp)) u.tups u.frzs u.tbls (fun m' hm=>by
  obtain⟨o',es',ep',ho',r'⟩:=hm;rw[ho] at ho';cases ho';exact⟨_,es',ep',hL,r'⟩) hok I.bare
def Inv.call{g':Array GenState}{t':Nat}{d':Drawn}{ch:List Addr}(I:Inv X pins σ H s)(u:Un (frs X.stack) ch H H' s.heap h')(hok:HOk X.prog X.w H' h')(hg:cE g')
  (hch:∀b∈ch,(b∈X.ex\/↑X.s₀<=b)/\b≠X.env.locals/\(∀x c,X.env.cells.lookup x=some c->c≠b)/\∀p∈X.pn++pins,p.1≠b):
  Inv X pins σ H' {s with heap:=h',gens:=g',drawn:=d',toks:=t'}:=by
 obtain⟨m,⟨o,es,ep,ho,r⟩,_⟩:=id I.loc;obtain⟨sl,hL⟩:=u.any ho I.free fun z=>(hch _ z).2.1 rfl;exact I.step (ch:=ch) hch (fun b o hL hb hc e n=>u.keep b o e n (fun z=>(zP.mp (I.stkSub b z)).elim hL hb) hc) (fun b o _ _ hc e n=>u.any e n hc) (fun b o hc e n=>u.free b o e n hc) (fun b o hc e=>u.there b o e hc) u.tups u.frzs u.tbls (fun m' hm=>by
  obtain⟨o',es',ep',ho',r'⟩:=hm;rw[ho] at ho';cases ho';exact⟨_,es',ep',hL,r'⟩) hok hg
def Inv.turned{t':Nat}{it:Addr}(I:Inv X pins σ H s)(k:∀b o,b≠it->s.heap.get? b=some o->h'.get? b=some o)(hn:H it=none)(hL:it≠X.env.locals)
  (h1:it∈X.ex\/↑X.s₀<=it)(h2:∀x c,X.env.cells.lookup x=some c->c≠it)(h3:∀p∈X.pn++pins,p.1≠it):Inv X pins σ H {s with heap:=h',toks:=t'}:=by
 have nit:∀b u,H b=some u->b≠it:=fun b u e z=>by rw[z,hn] at e;cases e
 refine I.step (g':=s.gens) (d':=s.drawn) (ch:=[it]) (fun b hb=>?_) (fun b o _ _ hc e _=>k b o (fun z=>hc (by simp[z])) e) (fun b o _ _ hc e _=>⟨o.slots,k b o (fun z=>hc (by simp[z])) e⟩) (fun _ _ _ _ n=>n)
  (fun b o hc e=>⟨o,k b o (fun z=>hc (by simp[z])) e⟩) (fun _ _ e=>e) (fun _ _ _ e=>e) (fun b ps e=>⟨#[],by rw[e];simp⟩) (fun m hm=>?_) (fun b u e=>?_) I.bare
 .have e:b=it:=by simpa using hb
  subst e;exact⟨h1,hL,h2,h3⟩
 .obtain⟨o,es,ep,ho,r⟩:=hm;exact⟨o,es,ep,k _ o (xS hL) ho,r⟩
 .refine(I.hok b u e).stay (fun c v hc q=>k c v ?_ q) (fun _ q=>q) fun _ _ q=>q;rcases hc with z|z
  .rw[z];exact nit b u e
  .exact nit c _ z
def Inv.tok(I:Inv X pins σ H s)(t:Nat):Inv X pins σ H {s with toks:=t}:=I.un (h':=s.heap) (t':=t) Un.refl I.hok
theorem Inv.kept{t':Nat}(I:Inv X pins σ H s)(k:∀b u,s.heap.get? b=some u->h'.get? b=some u):Inv X pins σ H {s with heap:=h',toks:=t'}:=I.un (Un.kept k) (I.hok.kept k)
theorem Inv.laid{a:Addr}{o:HO}{t':Nat}(I:Inv X pins σ H s)(k:∀b u,s.heap.get? b=some u->h'.get? b=some u)(hp:↑s<=a)(new:qbw X.prog X.w (upd H a o) h' a o):
  Inv X pins σ (upd H a o) {s with heap:=h',toks:=t'}:=I.un (Un.laid k hp (I.hok.fresh hp)) (I.hok.laid k hp new)
theorem Inv.write{x e:Addr}{o:HO}{t':Nat}(I:Inv X pins σ H s)(mu:Mut (H x))(he:e=x\/H e=some (.own x))(k:∀b u,b≠e->s.heap.get? b=some u->h'.get? b=some u)(heo:∃u,h'.get? e=some u)
  (new:qbw X.prog X.w (upd H x o) h' x o):Inv X pins σ (upd H x o) {s with heap:=h',toks:=t'}:=I.un (Un.write mu he k heo) (I.hok.write mu he k heo new)
def Inv.pins_of{pins':List (Addr×Obj)}(I:Inv X pins σ H s)(h:∀p∈pins',s.heap.get? p.1=some p.2/\H p.1=none/\p.1≠X.env.locals/\p.1∉X.fs/\∀v,p.2.data≠ .cell v):Inv X pins' σ H s:=
 ⟨I.ok,I.os,I.bare,I.base,I.loc,I.cell,I.free,I.freeC,fun p hp=>(zN.mp hp).elim (fun z=>I.pin p (zO _ z)) (h p),I.hok,I.len⟩
def je8{N:List Str}(hN:N.Nodup){i j:Nat}{x:Str}(a:N[i]?=some x)(b:N[j]?=some x):i=j:=by
 obtain⟨h1,e1⟩:=uL.mp a;obtain⟨h2,e2⟩:=uL.mp b;exact(gD hN).mp (e1.trans e2.symm)
def jcr{M:Model}{A:vS}{E:uB->uC->Prop}{i:Nat}{x:Str}{v:V}{u:uB}{Q:Unit->uC->Prop}(I:Inv X pins σ H s)(hN:X.N.Nodup)(hi:X.N[i]?=some x)(hx:Loc X.env.scope x)(r:qbg v u)
  (h:∀s',Inv X pins (σ.set i (some v)) H s'->(∃a,bZ a s.heap s'.heap/\(a=X.env.locals\/X.env.cells.lookup x=some a))->Q () s')(hf:X.fn x=true\/X.env.scope.names.lookup x=some .local:=by first|exact .inl rfl|exact .inr rfl|assumption):vC M A (storeName X.env x u) Q E s:=by
 obtain⟨m,hn,hl⟩:=id I.loc;have hcls:(X.env.scope.kind==.class ||(X.env.scope.kind==.module && X.env.locals !=X.env.globals))=false:=by rw[I.ok.kind];rfl
 have hiσ:i<σ.length:=by rw[I.len];exact(uL.mp hi).1
 have cne:=I.cne;have tracked:∀{a:Addr} {h':vU},(∃o,s.heap.get? a=some o/\H a=none)->bZ a s.heap h'->HOk X.prog X.w H h':=fun {a h'} ha hs b ob e=>by
  obtain⟨_,_,hfree⟩:=ha;refine(I.hok b ob e).stay (fun c w' hc q=>(hs.2 c ?_).trans q) (fun _ q=>q) fun _ _ q=>q;rintro rfl;rcases hc with rfl|hc
  .rw[hfree] at e;cases e
  .rw[hfree] at hc;cases hc
 rcases hx with hk|hk
 .refine wpAny_storeName_local hk hn (fun h' hn' hs=>?_) hcls;obtain⟨oL,_,_,hoL,_⟩:=id hn;refine h _ ⟨I.ok,I.os,I.bare,⟨fun b o e n hb hx=>?_,fun b o e n hb hx=>?_,I.base.free,fun b o e hx=>?_,I.base.tups,I.base.frzs,I.base.tbls⟩,⟨_,hn',fun j y v' e1 e2 e3=>?_⟩,fun y c e=>?_,I.free,I.freeC,fun p hp=>?_,tracked ⟨oL,hoL,I.free⟩ hs,by simpa using I.len⟩ ⟨_,hs,.inl rfl⟩
  .exact(hs.2 b (vL (vD (uP e) I.ok.above))).trans (I.base.keep b o e n hb hx)
  .obtain⟨sl,e1⟩:=I.base.slot b o e n hb hx;exact⟨sl,(hs.2 b (vL (vD (uP e) I.ok.above))).trans e1⟩
  .obtain⟨o',e1⟩:=I.base.there b o e hx;exact⟨o',(hs.2 b (vL (vD (uP e) I.ok.above))).trans e1⟩
  .by_cases hj:j=i
   .subst hj;rw[hi] at e1;cases e1;rw[List.getElem?_set_self hiσ] at e2
    cases e2
    exact⟨u,r,.inl ⟨hk,by simp⟩⟩
   .rw[List.getElem?_set_ne (xS hj)] at e2;obtain⟨u',r',q⟩:=hl j y v' e1 e2 e3;refine⟨u',r',?_⟩;rcases q with⟨k,e⟩|⟨k,c,e,z⟩
    .refine .inl ⟨k,?_⟩;have:y≠x:=fun e=>hj (je8 hN e1 (e▸hi));simp[this,e]
    .exact .inr ⟨k,c,e,z.sameBut hs (cne y c e)⟩
  .obtain⟨w',z⟩:=I.cell y c e;exact⟨w',z.sameBut hs (cne y c e)⟩
  .obtain⟨e,n,ne,nf,d⟩:=I.pin p hp;exact⟨(hs.2 p.1 ne).trans e,n,ne,nf,d⟩
 .have hfn:X.fn x=true:=by
   rcases hf with z|z
   .exact z
   .rw[z] at hk;cases hk
  obtain⟨c,hc⟩:=I.ok.has x (.inl hk);obtain⟨w',z⟩:=I.cell x c hc;refine wpAny_storeName_cell I.ok.kind hk hc z (fun h' hc' hs=>?_);obtain⟨oc,hoc,hocd⟩:=id z;refine h {s with heap:=h'} ⟨I.ok,I.os,I.bare,⟨fun b o e n hb hx=>?_,fun b o e n hb hx=>?_,I.base.free,fun b o e hx=>?_,I.base.tups,I.base.frzs,I.base.tbls⟩,⟨m,hn.sameBut hs (xS (cne x c hc)),fun j y v' e1 e2 e3=>?_⟩,fun y c' e=>?_,I.free,I.freeC,fun p hp=>?_,tracked ⟨oc,hoc,I.freeC x c hc⟩ hs,by simpa using I.len⟩ ⟨c,hs,.inr hc⟩
  .exact(hs.2 b (vL (vD (uP e) (I.ok.cab x c hfn hc)))).trans (I.base.keep b o e n hb hx)
  .obtain⟨sl,e1⟩:=I.base.slot b o e n hb hx;exact⟨sl,(hs.2 b (vL (vD (uP e) (I.ok.cab x c hfn hc)))).trans e1⟩
  .obtain⟨o',e1⟩:=I.base.there b o e hx;exact⟨o',(hs.2 b (vL (vD (uP e) (I.ok.cab x c hfn hc)))).trans e1⟩
  .by_cases hj:j=i
   .subst hj;rw[hi] at e1;cases e1;rw[List.getElem?_set_self hiσ] at e2
    cases e2
    exact⟨u,r,.inr ⟨.inl hk,c,hc,hc'⟩⟩
   .rw[List.getElem?_set_ne (xS hj)] at e2;obtain⟨u',r',q⟩:=hl j y v' e1 e2 e3;refine⟨u',r',?_⟩;rcases q with q|⟨k,c',e,z'⟩
    .exact .inl q
    .refine .inr ⟨k,c',e,z'.sameBut hs ?_⟩;rintro rfl;exact hj (je8 hN e1 (I.ok.inj _ _ _ e hc▸hi))
  .by_cases hcc:c'=c
   .subst hcc;exact⟨_,hc'⟩
   .obtain⟨w2,z2⟩:=I.cell y c' e;exact⟨w2,z2.sameBut hs hcc⟩
  .obtain⟨e,n,ne,nf,d⟩:=I.pin p hp;refine⟨(hs.2 p.1 ?_).trans e,n,ne,nf,d⟩;intro q;rw[q,hoc] at e;have q':oc=p.2:=uU e;exact d w' (by rw[<-q'];exact hocd)
def qea{M:Model}{A:vS}{E:uB->uC->Prop}{i:Nat}{x:Str}{v:V}{u:uB}{Q:Unit->uC->Prop}(I:Inv X pins σ H s)(hN:X.N.Nodup)(hi:X.N[i]?=some x)(hx:Loc X.env.scope x)(r:qbg v u)
  (h:∀s',Inv X pins (σ.set i (some v)) H s'->Q () s')(hf:X.fn x=true\/X.env.scope.names.lookup x=some .local:=by first|exact .inl rfl|exact .inr rfl|assumption):vC M A (storeName X.env x u) Q E s:=
 jcr I hN hi hx r (fun s' I' _=>h s' I') hf
def Inv.call'{s':uC}{ch:List Addr}(I:Inv X pins σ H s)(ho:s'.os=s.os)(u:Un (frs X.stack) ch H H' s.heap s'.heap)(hok:HOk X.prog X.w H' s'.heap)(hg:cE s'.gens)
  (hch:∀b∈ch,(b∈X.ex\/↑X.s₀<=b)/\b≠X.env.locals/\(∀x c,X.env.cells.lookup x=some c->c≠b)/\∀p∈X.pn++pins,p.1≠b):Inv X pins σ H' s':=by
 obtain⟨h',g',d',t',o'⟩:=s';have e:o'=s.os:=ho;subst e;exact I.call (g':=g') (t':=t') (d':=d') u hok hg hch
end
abbrev XK:=uB->Option Addr->Hp->Prop
abbrev St:=List (Option V)
abbrev VK:=V->Hp->Prop
abbrev TE:=St->Hp->VK->Prop
abbrev TT:=St->Hp->(Bool->Hp->Prop)->Prop
abbrev TA:=St->Hp->(List V->Hp->Prop)->Prop
structure jcd where
 nx:St->Hp->Prop
 rt:VK
 bk:St->Hp->Prop:=fun _ _=>False
 ct:St->Hp->Prop:=fun _ _=>False
abbrev TS:=jcd->St->Hp->Prop
def EP(X:Cx)(pins:List (Addr×Obj))(σ:St)(Q:VK)(u:uB)(s':uC):Prop:=∃v H',Inv X pins σ H' s'/\qbg v u/\Q v H'
def TP(X:Cx)(pins:List (Addr×Obj))(σ:St)(Q:Bool->Hp->Prop)(b:Bool)(s':uC):Prop:=∃H',Inv X pins σ H' s'/\Q b H'
def AP(X:Cx)(pins:List (Addr×Obj))(σ:St)(Q:List V->Hp->Prop)(us:List uB)(s':uC):Prop:=∃vs H',Inv X pins σ H' s'/\qbl vs us/\Q vs H'
def SP(X:Cx)(pins:List (Addr×Obj))(D:jcd)(f:Flow)(s':uC):Prop:=
 match f with
 | .next=>∃σ' H',Inv X pins σ' H' s'/\D.nx σ' H'
 | .brk=>∃σ' H',Inv X pins σ' H' s'/\D.bk σ' H'
 | .cont=>∃σ' H',Inv X pins σ' H' s'/\D.ct σ' H'
 | .ret u=>∃v σ' H',Inv X pins σ' H' s'/\qbg v u/\D.rt v H'
def PE(X:Cx)(e:vZ)(t:TE):Prop:=
 ∀(pins:List (Addr×Obj))(s:uC)(σ:St)(H:Hp)(Q:VK),Inv X pins σ H s->t σ H Q->vC (vF X.prog X.w) X.A (wW e X.env) (EP X pins σ Q) X.xe s
def PT(X:Cx)(e:vZ)(t:TT):Prop:=
 ∀(pins:List (Addr×Obj))(s:uC)(σ:St)(H:Hp)(Q:Bool->Hp->Prop),Inv X pins σ H s->t σ H Q->vC (vF X.prog X.w) X.A (isTrue e X.env (wW e X.env)) (TP X pins σ Q) X.xe s
def PW(X:Cx)(e:vZ)(t:TT):Prop:=
 ∀(whole:Sem uB)(pins:List (Addr×Obj))(s:uC)(σ:St)(H:Hp)(Q:Bool->Hp->Prop),Inv X pins σ H s->t σ H Q->vC (vF X.prog X.w) X.A (isTrue e X.env whole) (TP X pins σ Q) X.xe s
def PW.pt{t:TT}(h:PW X e t):PT X e t:=h _
def PA(X:Cx)(es:List vZ)(t:TA):Prop:=
 ∀(pos:Pos)(pins:List (Addr×Obj))(s:uC)(σ:St)(H:Hp)(Q:List V->Hp->Prop),Inv X pins σ H s->t σ H Q->vC (vF X.prog X.w) X.A (spliced (xI pos (vG es X.env))) (AP X pins σ Q) X.xe s
def PS(X:Cx)(st:Stmt)(t:TS):Prop:=
 ∀(pins:List (Addr×Obj))(s:uC)(σ:St)(H:Hp)(D:jcd),Inv X pins σ H s->t D σ H->vC (vF X.prog X.w) X.A (exec st X.env) (SP X pins D) X.xe s
def PSs(X:Cx)(st:List Stmt)(t:TS):Prop:=
 ∀(pins:List (Addr×Obj))(s:uC)(σ:St)(H:Hp)(D:jcd),Inv X pins σ H s->t D σ H->vC (vF X.prog X.w) X.A (execs st X.env) (SP X pins D) X.xe s
def thn{α:Type}{t:Sem α}{Q Q':α->uC->Prop}{M:Model}{E:uB->uC->Prop}(h:vC M A t Q E s)(hQ:∀a s,Q a s->Q' a s):vC M A t Q' E s:=wK h hQ fun _ _ x=>x
section
variable{X:Cx}
noncomputable def jsf(i:Nat):TE:=fun σ H Q=>∃v,σ[i]?=some (some v)/\Q v H
noncomputable def tC(v:V):TE:=fun _ H Q=>Q v H
def je9(hN:X.N[i]?=some x)(hv:Vis X.env.scope x)(hd:autoParam ((x==("__debug__":Str))=false) aD)(hcd:autoParam ((x==("__classdict__":Str))=false) aD):PE X (.Name x pos) (jsf i):=by
 intro pins s σ H Q I h;obtain⟨v,e,h⟩:=h;obtain⟨m,hn,hl⟩:=I.loc;obtain⟨u,r,l⟩:=hl i x v hN e hv;have fin:EP X pins σ Q u s:=⟨v,H,I,r,h⟩;rcases l with⟨hk,hm⟩|⟨hk,c,hc,hcell⟩
 .exact wpAny_Name (wpAny_loadName_local I.ok.kind hk hn hm fin) hd
 .rcases hk with hk|hk
  .exact wpAny_Name (wpAny_loadName_cell I.ok.kind hk hc hcell fin) hd
  .exact wpAny_Name (wpAny_loadName_free I.ok.kind hk hc hcell fin hcd) hd
def qa5{i j pos} :PE X (.Constant (.int i) j pos) (tC (.int i)):=fun _ _ _ H _ I h=>wpAny_Constant_int ⟨.int i,H,I.tok _,⟨_,rfl⟩,h⟩
def qcn{b j pos} :PE X (.Constant (.bool b) j pos) (tC (.bl b)):=fun _ _ _ H _ I h=>Constant_bool ⟨.bl b,H,I,rfl,h⟩
def qcq{j pos} :PE X (.Constant .none j pos) (tC .non):=fun _ _ _ H _ I h=>Constant_none ⟨.non,H,I,rfl,h⟩
def jgr{x j pos} :PE X (.Constant (.str x) j pos) (tC (.str x)):=fun _ _ _ H _ I h=>Calls.Constant_str ⟨.str x,H,I.tok _,⟨_,rfl⟩,h⟩
def Gl(X:Cx)(x:Str):Prop:=X.env.kindOf x=some .globalImplicit
def qe5{E:uB->uC->Prop}{pins:List (Addr×Obj)}{s:uC}{σ:St}{H:Hp}{x:Str}{u:uB}{pos:Pos}{Q:uB->uC->Prop}(I:Inv X pins σ H s)(hg:Gl X x)(hm:X.mg x=some u)(h:Q u s)
  (hd:autoParam ((x==("__debug__":Str))=false) aD):vC (vF X.prog X.w) X.A (wW (.Name x pos) X.env) Q E s:=
 Calls.Name_function_global I.ok.kind hg (Calls.loadGlobal_global (by rw[I.ok.glob];exact I.mod.glob.keeps I.bk) hm h) hd
def qgc{E:uB->uC->Prop}{pins:List (Addr×Obj)}{s:uC}{σ:St}{H:Hp}{x:Str}{u:uB}{pos:Pos}{Q:uB->uC->Prop}(I:Inv X pins σ H s)(hg:Gl X x)(hm:X.mg x=none)(hv:aP x=some u)(h:Q u s)
  (hn:autoParam (x≠"__name__") aD)(hd:autoParam ((x==("__debug__":Str))=false) aD):vC (vF X.prog X.w) X.A (wW (.Name x pos) X.env) Q E s:=by
 obtain⟨mb,h1,h2⟩:=I.mod.blt;exact Calls.Name_function_global I.ok.kind hg (Calls.loadGlobal_builtin (by rw[I.ok.glob];exact I.mod.glob.keeps I.bk) hm (by rw[I.ok.blt];exact h1.keeps I.bk) ((h2 x hn).trans hv) h) hd
def qer(hg:Gl X x)(hm:X.mg x=some u)(r:qbg v u)(hd:autoParam ((x==("__debug__":Str))=false) aD):PE X (.Name x pos) (tC v):=
 fun _ _ _ H _ I h=>qe5 I hg hm ⟨v,H,I,r,h⟩ hd
def qcd(hg:Gl X x)(hm:X.mg x=none)(hv:aP x=some u)(r:qbg v u)(hn:autoParam (x≠"__name__") aD)(hd:autoParam ((x==("__debug__":Str))=false) aD):PE X (.Name x pos) (tC v):=
 fun _ _ _ H _ I h=>qgc I hg hm hv ⟨v,H,I,r,h⟩ hn hd
variable{a b:vZ}{ta tb:TE}{pos:Pos}
def PC(X:Cx)(op:CmpOp)(a b:vZ)(t:TE):Prop:=
 ∀(pins:List (Addr×Obj))(s:uC)(σ:St)(H:Hp)(Q:VK),Inv X pins σ H s->t σ H Q->
  vC (vF X.prog X.w) X.A (wW a X.env) (fun v s₁=>vC (vF X.prog X.w) X.A (wW b X.env) (fun u s₂=>vC (vF X.prog X.w) X.A (wJ op v u) (EP X pins σ Q) X.xe s₂) X.xe s₁) X.xe s
noncomputable def tB(t:TE):TT:=fun σ H Q=>t σ H fun x H1=>∃c,x=.bl c/\Q c H1
def jo5{t:TE}(h:PC X op a b t)(h1:bL op b=false:=by first|exact nobehind _ ∅ ∅ |rfl):PE X (.Compare a [op] [b] pos) t:=fun pins s σ H Q I hw=>wpAny_Compare1 (h pins s σ H Q I hw) h1
def jo6{t:TE}(h:PC X op a b t)(h1:bL op b=false:=by first|exact nobehind _ ∅ ∅ |rfl):PT X (.Compare a [op] [b] pos) (tB t):=by
 intro pins s σ H Q I hw;refine wpAny_isTrue_Compare1 (thn (h pins s σ H _ I hw) fun v s1 h1=>thn h1 fun u s2 h2=>thn h2 fun c s3 h9=>?_) h1;obtain⟨x,H1,I1,r1,q1⟩:=h9;obtain⟨d,rfl,q⟩:=q1
 cases r1
 exact wY ⟨H1,I1,q⟩
def qbd{t:TE}(h:PE X e t)(he:∀whole,isTrue e X.env whole=(do let v<-whole;standAt e.pos;holding [v] (truthy v)):=by intro _;rfl):PT X e (tB t):=by
 intro pins s σ H Q I hw;refine isTrue_plain (thn (h pins s σ H _ I hw) fun v s1 h9=>?_) (he _);obtain⟨x,H1,I1,r1,q1⟩:=h9;obtain⟨d,rfl,q⟩:=q1
 cases r1
 exact wY ⟨H1,I1,q⟩
variable{tA tB':TT}{rest:List vZ}
noncomputable def jum(t u:TT):TT:=fun σ H Q=>t σ H fun c H1=>if c=true then u σ H1 Q else Q false H1
noncomputable def tOr(t u:TT):TT:=fun σ H Q=>t σ H fun c H1=>if c=true then Q true H1 else u σ H1 Q
noncomputable def jun(t:TT):TT:=fun σ H Q=>t σ H fun c H1=>Q (!c) H1
def qep(ha:PT X a tA):PW X (.BoolOp .And [a] pos) tA:=by
 intro wh pins s σ H Q I h;refine isTrue_and (thn (ha pins s σ H Q I h) fun c s1 e=>?_)
 cases c with
 |true=>exact isTrue_and_nil e
 |false=>exact e
def qdv(ha:PT X a tA):PW X (.BoolOp .Or [a] pos) tA:=by
 intro wh pins s σ H Q I h;refine isTrue_or (thn (ha pins s σ H Q I h) fun c s1 e=>?_)
 cases c with
 |false=>exact isTrue_or_nil e
 |true=>exact e
def qg7(ha:PT X a tA)(hb:PW X (.BoolOp .And (b::rest) pos) tB'):PW X (.BoolOp .And (a::b::rest) pos) (jum tA tB'):=by
 intro wh pins s σ H Q I h;refine isTrue_and (thn (ha pins s σ H _ I h) fun c s1 h9=>?_);obtain⟨H1,I1,q1⟩:=h9
 cases c with
 |true=>exact hb wh pins s1 σ H1 Q I1 q1
 |false=>exact⟨H1,I1,q1⟩
def qe3(ha:PT X a tA)(hb:PW X (.BoolOp .Or (b::rest) pos) tB'):PW X (.BoolOp .Or (a::b::rest) pos) (tOr tA tB'):=by
 intro wh pins s σ H Q I h;refine isTrue_or (thn (ha pins s σ H _ I h) fun c s1 h9=>?_);obtain⟨H1,I1,q1⟩:=h9
 cases c with
 |true=>exact⟨H1,I1,q1⟩
 |false=>exact hb wh pins s1 σ H1 Q I1 q1
def qc1(ha:PT X a tA):PT X (.UnaryOp .Not a pos) (jun tA):=by
 intro pins s σ H Q I h;exact isTrue_not (ha pins s σ H (fun c H1=>Q (!c) H1) I h)
noncomputable def jo7(ta tb:TE):TE:=fun σ H Q=>ta σ H fun x H1=>∃c,x=.bl c/\if c=true then tb σ H1 Q else Q (.bl false) H1
noncomputable def jo8(ta:TE):TE:=fun σ H Q=>ta σ H fun x H1=>∃c,x=.bl c/\Q (.bl (!c)) H1
def qex{op}{t:TE}(h:PE X a t):PE X (.BoolOp op [a] pos) t:=fun pins s σ H Q I hw=>BoolOp_one (h pins s σ H Q I hw)
def qey(ha:PE X a ta)(hb:PE X (.BoolOp .And (b::rest) pos) tb):PE X (.BoolOp .And (a::b::rest) pos) (jo7 ta tb):=by
 intro pins s σ H Q I h;refine BoolOp_and (thn (ha pins s σ H _ I h) fun v s1 h9=>?_);obtain⟨x,H1,I1,r1,q1⟩:=h9;obtain⟨c,rfl,q1⟩:=q1
 cases r1
 refine wY ?_
 cases c with
 |true=>exact hb pins s1 σ H1 Q I1 q1
 |false=>exact⟨.bl false,H1,I1,rfl,q1⟩
def jcs(ha:PE X a ta):PE X (.UnaryOp .Not a pos) (jo8 ta):=by
 intro pins s σ H Q I h;refine UnaryOp_ (thn (ha pins s σ H _ I h) fun v s1 h9=>?_);obtain⟨x,H1,I1,r1,q1⟩:=h9;obtain⟨c,rfl,q1⟩:=q1
 cases r1
 exact not_of (wY ⟨.bl (!c),H1,I1,rfl,q1⟩)
noncomputable def tIf(t:TT)(ta tb:TE):TE:=fun σ H Q=>t σ H fun c H1=>if c=true then ta σ H1 Q else tb σ H1 Q
def jfa(hc:PT X c tA)(ha:PE X a ta)(hb:PE X b tb):PE X (.IfExp c a b pos) (tIf tA ta tb):=by
 intro pins s σ H Q I h;refine wpAny_IfExp (thn (hc pins s σ H _ I h) fun d s1 h9=>?_);obtain⟨H1,I1,q1⟩:=h9
 cases d with
 |true=>exact ha pins s1 σ H1 Q I1 q1
 |false=>exact hb pins s1 σ H1 Q I1 q1
end
def SqL(K:uX)(H:Hp)(a:Addr)(xs:List V):Prop:=
 Rd H a (.lst xs)\/
  ∃(o:Obj)(its:Array uB)(n:Nat),K.lookup a=some o/\o.cls=.type "list"/\o.dict=none/\o.data=.seq its n/\its.size<=sizeLine/\qbl xs its.toList
def SqT(K:uX)(H:Hp)(a:Addr)(xs:List V):Prop:=
 Rd H a (.tup xs)\/
  ∃(o:Obj)(its:Array uB)(n:Nat),K.lookup a=some o/\o.cls=.type "tuple"/\o.data=.seq its n/\its.size<=sizeLine/\qbl xs its.toList
noncomputable def jsg:uB->Option V
 | .none=>some .non
 | .bool b=>some (.bl b)
 | .int i _=>some (.int i)
 | .str x _=>some (.str x)
 | .bytes b _=>some (.byt b)
 | .float b _=>some (.flt b)
 | .ref a=>some (.ref a)
 | .type n=>some (.ty n)
 |_=>none
def qbg.abs{x:V}(r:qbg x u):jsg u=some x:=by
 cases x with
 |non=>cases r;rfl
 |bl _=>cases r;rfl
 |int _=>obtain⟨t,rfl⟩:=r;rfl
 |str _=>obtain⟨t,rfl⟩:=r;rfl
 |byt _=>obtain⟨t,rfl⟩:=r;rfl
 |flt _=>obtain⟨t,rfl⟩:=r;rfl
 |ref _=>cases r;rfl
 |ty _=>cases r;rfl
def qbg.inj{x y:V}(r:qbg x u)(q:qbg y u):x=y:=uU (r.abs.symm.trans q.abs)
theorem qbl.inj:∀{xs ys:List V} {us:List uB},qbl xs us->qbl ys us->xs=ys
 |_,_,_,.nil,.nil=>rfl
 |_,_,_,.cons r t,.cons r' t'=>by rw[r.inj r',qbl.inj t t']
section
variable{X:Cx}{pins:List (Addr×Obj)}{σ:St}{H:Hp}{s:uC}{a:Addr}{xs ys:List V}
def SqL.of(h:H a=some (.lst xs)):SqL K H a xs:=.inl (.inl h)
def SqT.of(h:H a=some (.tup xs)):SqT K H a xs:=.inl (.inl h)
def Inv.list(I:Inv X pins σ H s)(h:SqL X.K H a xs):∃its:List uB,qbl xs its/\PlainL s.heap a its.toArray/\xs.length<=sizeLine:=by
 rcases h with h|⟨o,its,n,hk,hc,hd,hs,hz,r⟩
 .obtain⟨z,its,n,r,e⟩:=h.ok I.hok;exact⟨its,r,⟨_,n,e,rfl,rfl,rfl⟩,z⟩
 .refine⟨its.toList,r,⟨o,n,I.kIn a o hk,hc,hd,by simpa using hs⟩,?_⟩;have e:=r.length;simp only[bX] at e;omega
def Inv.tuple(I:Inv X pins σ H s)(h:SqT X.K H a xs):∃its:List uB,qbl xs its/\IsTup s.heap a its.toArray/\xs.length<=sizeLine:=by
 rcases h with h|⟨o,its,n,hk,hc,hs,hz,r⟩
 .obtain⟨z,its,r,p⟩:=h.ok I.hok;exact⟨its,r,p,z⟩
 .refine⟨its.toList,r,⟨o,I.kIn a o hk,hc,n,by simpa using hs⟩,?_⟩;have e:=r.length;simp only[bX] at e;omega
def Inv.list_inj(I:Inv X pins σ H s)(h:SqL X.K H a xs)(h':SqL X.K H a ys):xs=ys:=by
 obtain⟨its,r,⟨o,n,e,_,_,d⟩,_⟩:=I.list h;obtain⟨its',r',⟨o',n',e',_,_,d'⟩,_⟩:=I.list h';rw[e] at e';cases e';rw[d] at d';injection d' with d1 _
 have:its=its':=by simpa using congrArg Array.toList d1
 subst this;exact r.inj r'
end
abbrev Cx.wish(X:Cx)(E:uB->uC->Prop):Cx:={X with xe:=E}
abbrev Cx.nox(X:Cx):Cx:=X.wish fun _ _=>False
theorem Cx.Ok.wish(ok:X.Ok)(E:uB->uC->Prop):(X.wish E).Ok:=
 ⟨ok.mod,ok.kind,ok.glob,ok.blt,ok.above,ok.inj,ok.has,ok.cab,ok.hd,ok.frames,ok.stk,ok.exf,ok.bs,ok.bsz,ok.noex,ok.exfs,ok.funs,ok.frf⟩
def Cx.Ok.unwish{E:uB->uC->Prop}(ok:(X.wish E).Ok):X.Ok:=
 ⟨ok.mod,ok.kind,ok.glob,ok.blt,ok.above,ok.inj,ok.has,ok.cab,ok.hd,ok.frames,ok.stk,ok.exf,ok.bs,ok.bsz,ok.noex,ok.exfs,ok.funs,ok.frf⟩
section
variable{X:Cx}{pins:List (Addr×Obj)}{σ:St}{H:Hp}{s:uC}{E:uB->uC->Prop}
theorem Inv.wish(I:Inv X pins σ H s)(E:uB->uC->Prop):Inv (X.wish E) pins σ H s:=⟨I.ok.wish E,I.os,I.bare,I.base,I.loc,I.cell,I.free,I.freeC,I.pin,I.hok,I.len⟩
theorem Inv.unwish(I:Inv (X.wish E) pins σ H s):Inv X pins σ H s:=⟨I.ok.unwish,I.os,I.bare,I.base,I.loc,I.cell,I.free,I.freeC,I.pin,I.hok,I.len⟩
theorem SP.unwish{D:jcd}{f:Flow}{s':uC}(h:SP (X.wish E) pins D f s'):SP X pins D f s':=by
 cases f with
 |next=>obtain⟨σ',H',I,q⟩:=h;exact⟨σ',H',I.unwish,q⟩
 |brk=>obtain⟨σ',H',I,q⟩:=h;exact⟨σ',H',I.unwish,q⟩
 |cont=>obtain⟨σ',H',I,q⟩:=h;exact⟨σ',H',I.unwish,q⟩
 |ret u=>obtain⟨v,σ',H',I,r,q⟩:=h;exact⟨v,σ',H',I.unwish,r,q⟩
theorem PSs.nox{st:List Stmt}{t:TS}(h:PSs X.nox st t):PSs X st t:=fun pins s σ H D I hw=>
 wK (h pins s σ H D (I.wish _) hw) (fun _ _ q=>q.unwish) fun _ _ z=>vW z
end
section
variable{X:Cx}{st:Stmt}{rest:List Stmt}{t u:TS}{e:vZ}{te:TE}{pos:Pos}
noncomputable def jo9:TS:=fun D σ H=>D.nx σ H
noncomputable def jsh(t u:TS):TS:=fun D σ H=>t {D with nx:=u D} σ H
def qal:PSs X [] jo9:=fun _ _ σ H _ I h=>dE ⟨σ,H,I,h⟩
def qa2(h1:PS X st t)(h2:PSs X rest u):PSs X (st::rest) (jsh t u):=by
 intro pins s σ H D I h;refine cQ (thn (h1 pins s σ H {D with nx:=u D} I h) fun f s1 q=>?_)
 cases f with
 |next=>
  obtain⟨σ',H',I',q⟩:=q;exact h2 pins s1 σ' H' D I' q
 |ret v=>exact q
 |brk=>exact q
 |cont=>exact q
def qa6(h1:PS X st t):PSs X [st] t:=by
 intro pins s σ H D I h;refine cQ (thn (h1 pins s σ H D I h) fun f s1 q=>?_)
 cases f with
 |next=>exact dE q
 |ret v=>exact q
 |brk=>exact q
 |cont=>exact q
def Inv.quiet(I:Inv X pins σ H s):interactive X.env=false:=by simp[interactive,I.ok.kind]
noncomputable def jpa(te:TE):TS:=fun D σ H=>te σ H fun _ H1=>D.nx σ H1
def qbq(he:PE X e te)(hs:autoParam (eB e none pos.line X.env=pure false) aR):PS X (.Expr e pos) (jpa te):=by
 intro pins s σ H D I h;exact wpAny_Expr_any (thn (he pins s σ H _ I h) fun v s1 ⟨x,H1,I1,r1,q1⟩=>⟨σ,H1,I1,q1⟩) I.quiet hs
noncomputable def juo(te:TE):TS:=fun D σ H=>te σ H D.rt
def qaf(he:PE X e te):PS X (.Return (some e) pos) (juo te):=by
 intro pins s σ H D I h;exact wpAny_Return_some (thn (he pins s σ H _ I h) fun v s1 ⟨x,H1,I1,r1,q1⟩=>⟨x,σ,H1,I1,r1,q1⟩)
noncomputable def jup(c:TT)(t u:TS):TS:=fun D σ H=>c σ H fun b H1=>if b=true then t D σ H1 else u D σ H1
def qb5{a b:List Stmt}{tc:TT}(hc:PT X c tc)(ha:PSs X a t)(hb:PSs X b u):PS X (.If c a b pos) (jup tc t u):=by
 intro pins s σ H D I h;refine wpAny_If (thn (hc pins s σ H _ I h) fun d s1 h9=>?_);obtain⟨H1,I1,q1⟩:=h9
 cases d with
 |true=>exact ha pins s1 σ H1 D I1 q1
 |false=>exact hb pins s1 σ H1 D I1 q1
end
abbrev TG:=V->St->Hp->(St->Hp->Prop)->Prop
abbrev TGs:=List V->St->Hp->(St->Hp->Prop)->Prop
def PG(X:Cx)(target:vZ)(t:TG):Prop:=
 ∀(pins:List (Addr×Obj))(s:uC)(σ:St)(H:Hp)(v:V)(u:uB)(Q:St->Hp->Prop),Inv X pins σ H s->qbg v u->t v σ H Q->
  vC (vF X.prog X.w) X.A (gE target X.env u) (fun _ s'=>∃σ' H',Inv X pins σ' H' s'/\Q σ' H') X.xe s
def PGs(X:Cx)(ts:List vZ)(t:TGs):Prop:=
 ∀(pins:List (Addr×Obj))(s:uC)(σ:St)(H:Hp)(vs:List V)(us:List uB)(Q:St->Hp->Prop),Inv X pins σ H s->qbl vs us->t vs σ H Q->
  vC (vF X.prog X.w) X.A (eM ((xY ts X.env).map (·.2)) us) (fun _ s'=>∃σ' H',Inv X pins σ' H' s'/\Q σ' H') X.xe s
section
variable{X:Cx}{pos:Pos}
noncomputable def qe6(i:Nat):TG:=fun v σ H Q=>Q (σ.set i (some v)) H
def qab(hN:X.N.Nodup)(hi:X.N[i]?=some x)(hx:Loc X.env.scope x)(hf:X.fn x=true\/X.env.scope.names.lookup x=some .local:=by first|exact .inl rfl|exact .inr rfl|assumption):PG X (.Name x pos) (qe6 i):=by
 intro pins s σ H v u Q I r h;exact fI (qea I hN hi hx r (fun s' I'=>⟨_,H,I',h⟩) hf)
noncomputable def juq:TGs:=fun vs σ H Q=>vs=[]/\Q σ H
noncomputable def jpb(t:TG)(u:TGs):TGs:=fun vs σ H Q=>∃v r,vs=v::r/\t v σ H fun σ' H'=>u r σ' H' Q
def qcl:PGs X [] juq:=by
 intro pins s σ H vs us Q I r h;obtain⟨e,h⟩:=h;subst e
 cases r
 exact assignInOrder_nil ⟨σ,H,I,h⟩
def qai{e:vZ}{es:List vZ}{t:TG}{u:TGs}(h1:PG X e t)(h2:PGs X es u)
  (hs:autoParam ((xY (e::es) X.env).map (·.2)=gE e X.env ::(xY es X.env).map (·.2)) aR):PGs X (e::es) (jpb t u):=by
 intro pins s σ H vs us Q I r h;obtain⟨v,vr,e1,h⟩:=h;subst e1
 cases r with
 |cons r rr=>
  rw[hs];refine eW (thn (h1 pins s σ H _ _ _ I r h) fun _ s1 h9=>?_);obtain⟨σ1,H1,I1,q1⟩:=h9;exact h2 pins s1 σ1 H1 _ _ Q I1 rr q1
noncomputable def jur(K:uX)(n:Nat)(t:TGs):TG:=fun v σ H Q=>∃a xs,v=.ref a/\SqT K H a xs/\xs.length=n/\t xs σ H Q
def jlb{es:List vZ}{k:Nat}{t:TGs}{n:Nat}(hc:X.calm=true)(h:PGs X es t)
  (hn:autoParam ((xY es X.env).length=n) aR)(hst:autoParam ((xY es X.env).findIdx? (·.1)=none) aR):PG X (.Tuple es k pos) (jur X.K n t):=by
 intro pins s σ H v u Q I r hw;obtain⟨a,xs,e1,hq,hl,hw⟩:=hw;subst e1
 cases r
 obtain⟨its,rv,ht,hz⟩:=I.tuple hq;refine assign_Tuple_tuple (I.ok.hd hc) ht (by simp[hn,<-hl,rv.length]) hst fun h' hx=>?_;have I1:Inv X pins σ H {s with heap:=h'}:=I.kept (t':=s.toks) fun b o e=>hx b o (vL (uP e)) e;exact h pins _ σ H xs _ Q I1 (by simpa using rv) hw
noncomputable def jpc(te:TE)(g:TG):TS:=fun D σ H=>te σ H fun x H1=>g x σ H1 D.nx
def qdy{tg:vZ}{te:TE}{g:TG}(he:PE X e te)(hg:PG X tg g)(hs:autoParam (swapsWithSole [tg] e pos.line X.env=pure false) aR)(hw:autoParam (swappedStores [tg] e X.env=pure none) aR)
  (h1:autoParam ((xY [tg] X.env).map (·.2)=[gE tg X.env]) aR):PS X (.Assign [tg] e pos) (jpc te g):=by
 intro pins s σ H D I h;refine wpAny_Assign_stores (thn (he pins s σ H _ I h) fun v s1 h9=>?_) hs hw;obtain⟨x,H1,I1,r1,q1⟩:=h9;rw[h1];exact thn (hg pins s1 σ H1 x v _ I1 r1 q1) fun _ s2 q=>q
def qae{te:TE}{pos':Pos}(hN:X.N.Nodup)(hi:X.N[i]?=some x)(hx:Loc X.env.scope x)(he:PE X e te)(hs:autoParam (eB e (some (.Name x pos')) pos.line X.env=pure false) aR)(hf:X.fn x=true\/X.env.scope.names.lookup x=some .local:=by first|exact .inl rfl|exact .inr rfl|assumption):
  PS X (.Assign [.Name x pos'] e pos) (jpc te (qe6 i)):=by
 intro pins s σ H D I h;refine wpAny_Assign_Name (thn (he pins s σ H _ I h) fun v s1 h9=>?_) hs;obtain⟨y,H1,I1,r1,q1⟩:=h9;exact qea I1 hN hi hx r1 (fun s2 I2=>⟨_,H1,I2,q1⟩) hf
noncomputable def jus(i j:Nat)(ta:TA):TS:=fun D σ H=>ta σ H fun vs H1=>∃v w,vs=[v,w]/\D.nx ((σ.set i (some v)).set j (some w)) H1
def jpd{i j:Nat}{x y:Str}{a b:vZ}{ta:TA}{px py pt:Pos}{kt k2 pt2}(hc:X.calm=true)(hN:X.N.Nodup)(hi:X.N[i]?=some x)(hj:X.N[j]?=some y)(hij:i≠j)
  (hx:X.env.scope.names.lookup x=some .local)(hy:X.env.scope.names.lookup y=some .local)(ha:PA X [a,b] ta)
  (hw:swappedStores [.Tuple [.Name x px,.Name y py] kt pt] (.Tuple [a,b] k2 pt2) X.env=pure (some [x,y]))
  (hs:autoParam (swapsWithSole [.Tuple [.Name x px,.Name y py] kt pt] (.Tuple [a,b] k2 pt2) pos.line X.env=pure false) aR):
  PS X (.Assign [.Tuple [.Name x px,.Name y py] kt pt] (.Tuple [a,b] k2 pt2) pos) (jus i j ta):=by
 intro pins s σ H D I h;rw[exec_Assign_arm];refine uK (eO ?_);rw[hs];refine uK (vE ?_);rw[gK ∅];refine uK (Tuple_ (thn (ha _ pins s σ H _ I h) fun us s1 h9=>?_));obtain⟨vs,H1,I1,r1,q1⟩:=h9;obtain⟨v,w,e1,q1⟩:=q1;subst e1;obtain⟨u1,u2,rfl,rv,rw'⟩:∃u1 u2,us=[u1,u2]/\qbg v u1/\qbg w u2:=by
  cases r1 with
  |cons p q=>
   cases q with
   |cons p' q'=>
    cases q'
    exact⟨_,_,rfl,p,p'⟩
 refine fJ ?_ (by show 2<=sizeLine;decide);have I2:Inv X pins σ H1 {s1 with heap:=s1.heap.push {cls:=.type "tuple",data:=.seq [u1,u2].toArray}}:=I1.kept (t':=s1.toks) fun b o e=>uG _ e;rw[hw];refine uK (vE ?_);show vC (vF X.prog X.w) X.A (do rule "assign.swapped-stores";let items<-unpackItems (.ref ↑s1) 2 none;eM [fun v=>bindName X.env y v,fun v=>bindName X.env x v] items.reverse;pure Flow.next) _ _ _;refine uK (wpAny_rule (uK (unpackItems_tuple (items:=#[u1,u2]) (I.ok.hd hc) (IsTup.new s1.heap _) fun h' hx'=>?_)));have I3:=I2.kept (h':=h') (t':=s1.toks) fun b o e=>hx' b o (vL (uP e)) e;show vC _ _ (eM [fun v=>bindName X.env y v,fun v=>bindName X.env x v] [u2,u1] >>= fun _=>pure Flow.next) _ _ _;refine uK (eW (wpAny_bindName (qea I3 hN hj (.inl hy) rw' (fun s2 I4=>?_) (.inr hy))));refine eW (wpAny_bindName (qea I4 hN hi (.inl hx) rv (fun s3 I5=>assignInOrder_nil (vE ?_)) (.inr hx)));rw[List.set_comm _ _ (xS hij)] at I5;exact⟨_,H1,I5,q1⟩
end
section
variable{X:Cx}{pos:Pos}
noncomputable def jlc(c:TT)(tb:TS):TS:=fun D σ H=>∃W:Nat->St->Hp->Prop,(∃m,W m σ H)/\∀m σ H,W m σ H->
 c σ H fun b H1=>if b=true then ∃N:St->Hp->Prop,(∀σ' H',N σ' H'->∃m',m'<m/\W m' σ' H')/\tb {D with nx:=N,ct:=N,bk:=D.nx} σ H1 else D.nx σ H1
def qee{body:List Stmt}{tc:TT}{tb:TS}(hp:PassesOwn (vF X.prog X.w) X.A X.env X.xe)(hc:PT X c tc)(hb:PSs X body tb):PS X (.While c body [] pos) (jlc tc tb):=by
 intro pins s σ H D I h;obtain⟨W,⟨m0,w0⟩,turn⟩:=h;refine wpAny_While (codeAny_whileLoop (fun n s'=>∃σ' H',Inv X pins σ' H' s'/\W n σ' H') ?_ m0 ⟨σ,H,I,w0⟩);rintro n s1 ⟨σ1,H1,I1,w1⟩;refine yQ hp (thn (hc pins s1 σ1 H1 _ I1 (turn n σ1 H1 w1)) fun b s2 h9=>?_);obtain⟨H2,I2,q2⟩:=h9
 cases b with
 |true=>
  obtain⟨N,hN,q2⟩:=q2;rw[gL rfl];refine yQ hp (thn (hb pins s2 σ1 H2 _ I2 q2) fun f s3 q3=>?_)
  cases f with
  |next=>
   obtain⟨σ3,H3,I3,n3⟩:=q3;obtain⟨m',hm,w3⟩:=hN σ3 H3 n3;exact⟨m',hm,σ3,H3,I3,w3⟩
  |cont=>
   obtain⟨σ3,H3,I3,n3⟩:=q3;obtain⟨m',hm,w3⟩:=hN σ3 H3 n3;exact⟨m',hm,σ3,H3,I3,w3⟩
  |brk=>exact q3
  |ret v=>exact q3
 |false=>
  rw[gK vB];exact dE ⟨σ1,H2,I2,q2⟩
end
structure It where
 go:Nat->Hp->Prop
 yld:Nat->Hp->V->Hp->Prop
 stop:Nat->Hp->Prop
def jcp(X:Cx)(pins:List (Addr×Obj))(H:Hp)(b:Addr):Prop:=
 H b=none/\b≠X.env.locals/\b∉X.fs/\(b∈X.ex\/↑X.s₀<=b)/\(∀x c,X.env.cells.lookup x=some c->c≠b)/\∀p∈X.pn++pins,p.1≠b
def Inv.fpOk{H':Hp}(I:Inv X pins σ H s)(hb:↑s<=b)(hn:H' b=none):jcp X pins H' b:=by
 refine⟨hn,xC (vD I.lt hb),I.nofs hb,.inr (uY I.sz hb),fun x c e z=>?_,fun p hp z=>?_⟩
 .obtain⟨v,q⟩:=I.cell x c e;exact absurd (vD q.lt (by rw[z];exact hb)) (wQ _)
 .exact absurd (vD (uP (I.pin p hp).1) (by rw[z];exact hb)) (wQ _)
structure jot(P:vA)(w:vN)(K:uX)(tg:vZ)(J:It)(fp:List Addr)(it:Addr)(tn:Nat->vU->Prop):Prop where
 mem:it∈fp
 obj:∀i h,tn i h->∀b∈fp,∃o,h.get? b=some o/\∀v,o.data≠ .cell v
 keep:∀i h h',tn i h->(∀b∈fp,∀o,h.get? b=some o->h'.get? b=some o)->tn i h'
 item:∀(X:Cx),X.prog=P->X.w=w->X.K=K->X.calm=true->∀(i:Nat)(pins:List (Addr×Obj))(s:uC)(σ:St)(H:Hp)(E:uB->uC->Prop),Inv X pins σ H s->(∀b∈fp,jcp X pins H b)->tn i s.heap->J.go i H->
  vC (vF P w) X.A (pyNext (.ref it)) (fun r s1=>∃u,r=some u/\
   vC (vF P w) X.A (letOwnedTupleGo tg (.ref it) u) (fun _ s2=>∃x H',Inv X pins σ H' s2/\qbg x u/\J.yld i H x H'/\tn (i+1) s2.heap/\∀b∈fp,H' b=none) E s1) E s
 done:∀(X:Cx),X.prog=P->X.w=w->X.K=K->X.calm=true->∀(i:Nat)(pins:List (Addr×Obj))(s:uC)(σ:St)(H:Hp)(E:uB->uC->Prop),Inv X pins σ H s->(∀b∈fp,jcp X pins H b)->tn i s.heap->J.stop i H->
  vC (vF P w) X.A (pyNext (.ref it)) (fun r s1=>r=none/\Inv X pins σ H s1) E s
 self:∀(A:vS)(i:Nat)(s:uC)(Q:uB->uC->Prop)(E:uB->uC->Prop),tn i s.heap->Q (.ref it) s->vC (vF P w) A (pyIter (.ref it)) Q E s
abbrev TI:=St->Hp->(It->Hp->Prop)->Prop
def PIE(X:Cx)(pins:List (Addr×Obj))(σ:St)(tg:vZ)(R:It->Hp->Prop)(itv:uB)(s2:uC):Prop:=
 ∃(it:Addr)(fp:List Addr)(tn:Nat->vU->Prop)(J:It)(H':Hp),itv=.ref it/\Inv X pins σ H' s2/\jot X.prog X.w X.K tg J fp it tn/\tn 0 s2.heap/\(∀b∈fp,jcp X pins H' b)/\R J H'
def PI(X:Cx)(tg iter:vZ)(wi:TI):Prop:=
 ∀(pins:List (Addr×Obj))(s:uC)(σ:St)(H:Hp)(R:It->Hp->Prop),Inv X pins σ H s->wi σ H R->
  vC (vF X.prog X.w) X.A (wW iter X.env) (fun v s1=>vC (vF X.prog X.w) X.A (pyIter v) (PIE X pins σ tg R) X.xe s1) X.xe s
def jmp{M:Model}{A:vS}{E:uB->uC->Prop}{s:uC}{tg:vZ}{it:Addr}{u:uB}{o:Obj}{n:String}{vs:Array uB}{Q:Unit->uC->Prop}(ho:s.heap.get? it=some o)(hc:o.cls=.type n)(hd:o.data=.fields vs)
  (hn: ["enumerate","zip","dict_itemiterator","dict_reverseitemiterator","odict_iterator","itertools.zip_longest","itertools.pairwise"].contains n=false)(hQ:Q () s):vC M A (letOwnedTupleGo tg (.ref it) u) Q E s:=by
 unfold letOwnedTupleGo
 cases tg<;>first
  |exact vE hQ
  |(cases u<;>first
    |exact vE hQ
    |(refine uK (wpAny_load ho ?_)
      rw[hc,hd];show vC M A (if(["enumerate","zip","dict_itemiterator","dict_reverseitemiterator","odict_iterator","itertools.zip_longest","itertools.pairwise"].contains n && vs[0]?==some (aI _))=true then _ else _) Q E s;rw[gK (by intro h;rw[hn,xV] at h;cases h)];exact vE hQ))
noncomputable def Itl(K:uX)(a:Addr):It:=
 ⟨fun i H=>∃xs x,SqL K H a xs/\xs[i]?=some x,fun i H x H'=>H'=H/\∀xs,SqL K H a xs->xs[i]?=some x,fun i H=>∃xs,SqL K H a xs/\xs.length<=i⟩
noncomputable def Itr(lo:Int)(n:Nat):It:=⟨fun i _=>i<n,fun i H x H'=>H'=H/\x=.int (lo+i),fun i _=>n<=i⟩
def jgs{P:vA}{w:vN}{K:uX}{tg:vZ}(a it:Addr):jot P w K tg (Itl K a) [it] it (fun i h=>h.IsListIter it a i) where
 mem:=by simp
 obj:=fun i h st b hb=>by
  have e:b=it:=by simpa using hb
  subst e;obtain⟨o,e,c,d⟩:=st;exact⟨o,e,fun v z=>by rw[d] at z;cases z⟩
 keep:=fun i h h' st k=>st.at fun o e=>k it (by simp) o e
 item:=by
  intro X hP hw hK hc i pins s σ H E I hf st hg;subst hP hw hK;obtain⟨xs,x,hq,hx⟩:=hg;obtain⟨its,rv,p,hz⟩:=I.list hq;obtain⟨u,hu,ru⟩:=rv.get hx;obtain⟨f0,f1,f2,f3,f4,f5⟩:=hf it (by simp);refine wpAny_pyNext_list_item st p.isList (x:=u) (by simpa using hu) fun h' st' sb=>?_;have I1:Inv X pins σ H {s with heap:=h'}:=I.turned (t':=s.toks) (fun b o hb e=>(sb.2 b hb).trans e) f0 f1 f3 f4 f5;obtain⟨o,e,c,d⟩:=id st';exact⟨u,rfl,jmp (s:={s with heap:=h'}) e c d ∅ ⟨x,H,I1,ru,⟨rfl,fun ys hy=>by rw[I.list_inj hy hq];exact hx⟩,st',fun b hb=>(hf b hb).1⟩⟩
 done:=by
  intro X hP hw hK hc i pins s σ H E I hf st hg;subst hP hw hK;obtain⟨xs,hq,hx⟩:=hg;obtain⟨its,rv,p,hz⟩:=I.list hq;obtain⟨f0,f1,f2,f3,f4,f5⟩:=hf it (by simp);have hl:=rv.length;exact wpAny_pyNext_list_end (I.ok.hd hc) st p.isList (by simp;omega) fun h' eb=>⟨rfl,I.turned (t':=s.toks) (fun b o hb e=>eb b o hb e) f0 f1 f3 f4 f5⟩
 self:=fun _ _ _ _ _ st h=>wpAny_pyIter_listiter st h
def jf7{P:vA}{w:vN}{K:uX}{tg:vZ}(it:Addr)(lo:Int)(n:Nat):jot P w K tg (Itr lo n) [it] it (fun i h=>IsRangeIter h it (lo+(i:Nat)*1) ((n:Int)-(i:Nat)) 1) where
 mem:=by simp
 obj:=fun i h st b hb=>by
  have e:b=it:=by simpa using hb
  subst e;exact⟨_,st,fun v z=>by
   have z':Data.fields _=Data.cell v:=z
   cases z'⟩
 keep:=fun i h h' st k=>k it (by simp) _ st
 item:=by
  intro X hP hw hK hc i pins s σ H E I hf st hg;subst hP hw hK;obtain⟨f0,f1,f2,f3,f4,f5⟩:=hf it (by simp);have W:=Walks.range (prog:=X.prog) (w:=X.w) (I.ok.hd hc) it lo 1 n;refine W.item i s _ _ hg st fun v h' tk hv st' kk=>?_;obtain⟨t,rfl⟩:=hv;have I1:Inv X pins σ H {s with heap:=h',toks:=tk}:=I.turned (fun b o hb e=>kk b o (by simpa using hb) e) f0 f1 f3 f4 f5;refine⟨_,rfl,jmp (s:={s with heap:=h',toks:=tk}) (n:="range_iterator") st' rfl rfl ∅ ⟨.int (lo+i),H,I1,⟨t,?_⟩,⟨rfl,rfl⟩,st',fun b hb=>(hf b hb).1⟩⟩;rw[Int.mul_one]
 done:=by
  intro X hP hw hK hc i pins s σ H E I hf st hg;subst hP hw hK;obtain⟨f0,f1,f2,f3,f4,f5⟩:=hf it (by simp);exact wpAny_pyNext_range_end (I.ok.hd hc) st (by have:n<=i:=hg;omega) fun h' eb=>⟨rfl,I.turned (t':=s.toks) (fun b o hb e=>eb b o hb e) f0 f1 f3 f4 f5⟩
 self:=fun _ _ _ _ _ st h=>wpAny_pyIter_rangeiter st h
section
variable{X:Cx}{tg:vZ}
noncomputable def jpe(K:uX)(tl:TE):TI:=fun σ H R=>tl σ H fun x H1=>∃a,x=.ref a/\(∃xs,SqL K H1 a xs)/\R (Itl K a) H1
def qaw{l:vZ}{tl:TE}(hl:PE X l tl):PI X tg l (jpe X.K tl):=by
 intro pins s σ H R I h;refine thn (hl pins s σ H _ I h) fun v s1 h9=>?_;obtain⟨x,H1,I1,r1,q1⟩:=h9;obtain⟨a,e,⟨xs,hq⟩,q⟩:=q1;subst e
 cases r1
 obtain⟨its,rv,p,hz⟩:=I1.list hq;refine aQ p.isList ?_;refine⟨↑s1,[↑s1],_,_,H1,rfl,I1.kept (t':=s1.toks) fun b o e=>uG _ e,jgs a _,⟨_,vH _ rfl,rfl,rfl⟩,fun b hb=>?_,q⟩;have e:b=↑s1:=by simpa using hb
 subst e;exact I1.fpOk (uF _) (I1.hok.fresh (uF _))
def jfb{pins:List (Addr×Obj)}{σ:St}{H:Hp}{s:uC}{R:It->Hp->Prop}{E:uB->uC->Prop}{lo hi:Int}{t u v:Tok}{tk:Nat}(I:Inv X pins σ H s)(h1: -(2^62)<=lo)(h2:lo<2^62)(h3: -(2^62)<=hi)(h4:hi<2^62)
  (q:R (Itr lo (hi-lo).toNat) H):vC (vF X.prog X.w) X.A (pyIter (.ref ↑s)) (PIE X pins σ tg R) E {s with heap:=s.heap.push {cls:=.type "range",data:=.fields #[.int lo t,.int hi u,.int 1 v]},toks:=tk}:=by
 refine wpAny_pyIter_range (IsRange.new ..) (small_one h1 h2 h3 h4) ?_;have I1:Inv X pins σ H {s with heap:=s.heap.push {cls:=.type "range",data:=.fields #[.int lo t,.int hi u,.int 1 v]},toks:=tk}:=I.kept fun b o e=>uG _ e;refine⟨(s.heap.push {cls:=.type "range",data:=.fields #[.int lo t,.int hi u,.int 1 v]}).objs.size,[(s.heap.push {cls:=.type "range",data:=.fields #[.int lo t,.int hi u,.int 1 v]}).objs.size],_,_,H,rfl,
  I1.kept (t':=tk) fun b o e=>uG _ e,jf7 _ lo (hi-lo).toNat,?_,fun b hb=>?_,q⟩
 .have e1:lo+((0:Nat):Int)*1=lo:=by simp
  have e2:(((hi-lo).toNat:Nat):Int)-((0:Nat):Int)=Builtin.Range.rangeSize lo hi 1:=by rw[rangeSize_one];split<;>omega
  show IsRangeIter _ _ (lo+((0:Nat):Int)*1) ((((hi-lo).toNat:Nat):Int)-((0:Nat):Int)) 1;rw[e1,e2];exact vH _ rfl
 .have e:b=(s.heap.push {cls:=.type "range",data:=.fields #[.int lo t,.int hi u,.int 1 v]}).objs.size:=by simpa using hb
  subst e;exact I1.fpOk (uF _) (I1.hok.fresh (uF _))
noncomputable def jpf(ta:TA):TI:=fun σ H R=>ta σ H fun vs H1=>∃j:Int,vs=[.int j]/\-(2^62)<=j/\j<2^62/\R (Itr 0 j.toNat) H1
noncomputable def jpg(ta:TA):TI:=fun σ H R=>ta σ H fun vs H1=>∃i j:Int,vs=[.int i,.int j]/\(-(2^62)<=i/\i<2^62/\-(2^62)<=j/\j<2^62)/\R (Itr i (j-i).toNat) H1
def qd5{a:vZ}{ta:TA}{p:Pos}(hg:Gl X "range")(hm:X.mg "range"=none)(ha:PA X [a] ta)(hs:autoParam (vG [a] X.env=[(false,wW a X.env)]) aR):PI X tg (.Call (.Name "range" p) [a] [] pos) (jpf ta):=by
 intro pins s σ H R I h;refine Call_ (qgc I hg hm boot_range (yU (thn (ha pos pins s σ H _ I h) fun us s1 h9=>?_) hs rfl));obtain⟨vs,H1,I1,r1,q1⟩:=h9;obtain⟨j,e,q1,q2,q⟩:=q1;subst e
 cases r1 with
 |cons r rr=>
  cases rr
  obtain⟨t,rfl⟩:=r;exact call_range_1 (jfb I1 ↑∅ ↑∅ q1 q2 (by simpa using q))
def jgt{a b:vZ}{ta:TA}{p:Pos}(hg:Gl X "range")(hm:X.mg "range"=none)(ha:PA X [a,b] ta)(hs:autoParam (vG [a,b] X.env=[(false,wW a X.env),(false,wW b X.env)]) aR)(hs2:autoParam (vG [b] X.env=[(false,wW b X.env)]) aR):
  PI X tg (.Call (.Name "range" p) [a,b] [] pos) (jpg ta):=by
 intro pins s σ H R I h;refine Call_ (qgc I hg hm boot_range (yU (thn (ha pos pins s σ H _ I h) fun us s1 h9=>?_) (by rw[hs,hs2]) (by rw[hs2];rfl)));obtain⟨vs,H1,I1,r1,q1⟩:=h9;obtain⟨i,j,e,⟨q1,q2,q3,q4⟩,q⟩:=q1;subst e
 cases r1 with
 |cons r rr=>
  cases rr with
  |cons r' rr=>
   cases rr
   obtain⟨t,rfl⟩:=r;obtain⟨t',rfl⟩:=r';exact call_range_2 (jfb I1 q1 q2 q3 q4 q)
noncomputable def jut(wi:TI)(g:TG)(tb:TS):TS:=fun D σ H=>wi σ H fun J H1=>∃W:Nat->Nat->St->Hp->Prop,(∃m,W 0 m σ H1)/\∀i m σ H,W i m σ H->
 (J.stop i H/\D.nx σ H)\/(J.go i H/\∃N:St->Hp->Prop,(∀σ' H',N σ' H'->∃m',m'<m/\W (i+1) m' σ' H')/\∀x H',J.yld i H x H'->g x σ H' fun σ2 H2=>tb {D with nx:=N,ct:=N,bk:=D.nx} σ2 H2)
noncomputable def qef(fp:List Addr)(h:vU):List (Addr×Obj):=fp.filterMap fun b=>(h.get? b).map fun o=>(b,o)
def qdo{h:vU}{o:Obj}(hb:b∈fp)(e:h.get? b=some o):(b,o)∈qef fp h:=List.mem_filterMap.mpr ⟨b,hb,by rw[e];rfl⟩
def jgu{h:vU}{p:Addr×Obj}(hp:p∈qef fp h):p.1∈fp/\h.get? p.1=some p.2:=by
 obtain⟨b,hb,e⟩:=List.mem_filterMap.mp hp
 cases q:h.get? b with
 |none=>rw[q] at e;cases e
 |some o=>
  rw[q] at e;have e':(b,o)=p:=uU e;subst e';exact⟨hb,q⟩
def Inv.pinned(I:Inv X pins σ H s)(hf:∀b∈fp,jcp X pins H b)(ho:∀b∈fp,∃o,s.heap.get? b=some o/\∀v,o.data≠ .cell v):Inv X (pins++qef fp s.heap) σ H s:=
 I.pins_of fun p hp=>(zN.mp hp).elim (fun z=>I.pin p (zK _ z)) fun z=>by
  obtain⟨hb,e⟩:=jgu z;obtain⟨f0,f1,f2,_⟩:=hf p.1 hb;obtain⟨o,e',d⟩:=ho p.1 hb;rw[e] at e';cases e';exact⟨e,f0,f1,f2,d⟩
def Inv.unpinned{pl:List (Addr×Obj)}(I:Inv X (pins++pl) σ H s):Inv X pins σ H s:=I.pins_of fun p hp=>I.pin p (zK _ (zO _ hp))
def qb1{iter:vZ}{body:List Stmt}{wi:TI}{g:TG}{tb:TS}{pos:Pos}(hp:PassesOwn (vF X.prog X.w) X.A X.env X.xe)(hc:X.calm=true)(hi:PI X tg iter wi)(hg:PG X tg g)(hb:PSs X body tb)
  (hs:∀x,cF iter X.env x=pure x:=by intro _;rfl):PS X (.For tg iter body [] pos) (jut wi g tb):=by
 intro pins s σ H D I h;refine wpAny_For (thn (hi pins s σ H _ I h) fun v s1 h1=>thn h1 fun itv s2 h2=>?_) hs;obtain⟨it,fp,tn,J,H2,e,I2,T,st2,f2,W,⟨m0,w0⟩,turn⟩:=h2;subst e;have stat:∀{H':Hp},(∀b∈fp,H' b=none)->∀b∈fp,jcp X pins H' b:=fun hn b hb=>⟨hn b hb,(f2 b hb).2⟩;refine codeAny_forLoop_any (fun n s'=>∃i σ' H',Inv X pins σ' H' s'/\tn i s'.heap/\(∀b∈fp,H' b=none)/\W i n σ' H') ?_ m0 ⟨0,σ,H2,I2,st2,fun b hb=>(f2 b hb).1,w0⟩;rintro n s3 ⟨i,σ3,H3,I3,st3,fr3,w3⟩;rcases turn i n σ3 H3 w3 with⟨stop,qn⟩|⟨go,N,hN,step⟩
 .refine yQ hp (thn (T.done X rfl rfl rfl hc i pins s3 σ3 H3 X.xe I3 (stat fr3) st3 stop) fun r s4 h9=>?_);obtain⟨hr,I4⟩:=h9;subst hr;exact dE ⟨σ3,H3,I4,qn⟩
 .refine yQ hp (thn (T.item X rfl rfl rfl hc i pins s3 σ3 H3 X.xe I3 (stat fr3) st3 go) fun r s4 h9=>?_);obtain⟨u,hr,h4⟩:=h9;subst hr;refine yQ hp (thn h4 fun _ s5 h9=>?_);obtain⟨x,H5,I5,r5,y5,st5,fr5⟩:=h9;have I5':=I5.pinned (stat fr5) (T.obj _ _ st5);refine yQ hp (thn (hg _ s5 σ3 H5 x u _ I5' r5 (step x H5 y5)) fun _ s6 h9=>?_);obtain⟨σ6,H6,I6,q6⟩:=h9;refine yQ hp (thn (hb _ s6 σ6 H6 _ I6 q6) fun f s7 q7=>?_);have again:∀{σ7:St} {H7:Hp},Inv X (pins++qef fp s5.heap) σ7 H7 s7->N σ7 H7->∃m,m<n/\∃i σ' H',Inv X pins σ' H' s7/\tn i s7.heap/\(∀b∈fp,H' b=none)/\W i m σ' H':=fun {σ7 H7} I7 n7=>by
   obtain⟨m',hm,w7⟩:=hN σ7 H7 n7;refine⟨m',hm,i+1,σ7,H7,I7.unpinned,T.keep _ _ _ st5 fun b hb o e=>(I7.pin (b,o) (zK _ (zK _ (qdo hb e)))).1,fun b hb=>?_,w7⟩;obtain⟨o,e,d⟩:=T.obj _ _ st5 b hb;exact(I7.pin (b,o) (zK _ (zK _ (qdo hb e)))).2.1
  cases f with
  |next=>obtain⟨σ7,H7,I7,n7⟩:=q7;exact again I7 n7
  |cont=>obtain⟨σ7,H7,I7,n7⟩:=q7;exact again I7 n7
  |brk=>obtain⟨σ7,H7,I7,q7⟩:=q7;exact⟨σ7,H7,I7.unpinned,q7⟩
  |ret v=>obtain⟨x7,σ7,H7,I7,r7,q7⟩:=q7;exact⟨x7,σ7,H7,I7.unpinned,r7,q7⟩
end
def jjx{K:uX}{a:Addr}{xs:List V}{g:TG}{tb:TS}{D:jcd}{σ:St}{H:Hp}(Pv:Nat->St->Hp->Prop)(h0:Pv 0 σ H)(hl:∀i σ H,i<=xs.length->Pv i σ H->SqL K H a xs)
  (hs:∀i x σ H,xs[i]?=some x->Pv i σ H->g x σ H fun σ2 H2=>tb {D with nx:=Pv (i+1),ct:=Pv (i+1),bk:=D.nx} σ2 H2)(hd:∀σ H,Pv xs.length σ H->D.nx σ H):
  ∃W:Nat->Nat->St->Hp->Prop,(∃m,W 0 m σ H)/\∀i m σ H,W i m σ H->
   ((Itl K a).stop i H/\D.nx σ H)\/((Itl K a).go i H/\∃N:St->Hp->Prop,(∀σ' H',N σ' H'->∃m',m'<m/\W (i+1) m' σ' H')/\∀x H',(Itl K a).yld i H x H'->g x σ H' fun σ2 H2=>tb {D with nx:=N,ct:=N,bk:=D.nx} σ2 H2):=by
 refine⟨fun i m σ H=>m=xs.length-i/\i<=xs.length/\Pv i σ H,⟨xs.length,by simp,wR _,h0⟩,?_⟩;rintro i m σ H ⟨rfl,hi,p⟩;have q:=hl i σ H hi p;by_cases hlt:i<xs.length
 .refine .inr ⟨⟨xs,xs[i],q,by simp[hlt]⟩,Pv (i+1),fun σ' H' p'=>⟨xs.length-(i+1),↑∅,rfl,hlt,p'⟩,fun x H' y=>?_⟩;obtain⟨e,y⟩:=y;subst e;exact hs i x σ _ (y xs q) p
 .have e:i=xs.length:=by omega
  subst e;exact .inl ⟨⟨xs,q,uF _⟩,hd σ H p⟩
def jgv{lo:Int}{n:Nat}{g:TG}{tb:TS}{D:jcd}{σ:St}{H:Hp}(Pv:Nat->St->Hp->Prop)(h0:Pv 0 σ H)
  (hs:∀i σ H,i<n->Pv i σ H->g (.int (lo+i)) σ H fun σ2 H2=>tb {D with nx:=Pv (i+1),ct:=Pv (i+1),bk:=D.nx} σ2 H2)(hd:∀σ H,Pv n σ H->D.nx σ H):
  ∃W:Nat->Nat->St->Hp->Prop,(∃m,W 0 m σ H)/\∀i m σ H,W i m σ H->
   ((Itr lo n).stop i H/\D.nx σ H)\/((Itr lo n).go i H/\∃N:St->Hp->Prop,(∀σ' H',N σ' H'->∃m',m'<m/\W (i+1) m' σ' H')/\∀x H',(Itr lo n).yld i H x H'->g x σ H' fun σ2 H2=>tb {D with nx:=N,ct:=N,bk:=D.nx} σ2 H2):=by
 refine⟨fun i m σ H=>m=n-i/\i<=n/\Pv i σ H,⟨n,by simp,wR _,h0⟩,?_⟩;rintro i m σ H ⟨rfl,hi,p⟩;by_cases hlt:i<n
 .refine .inr ⟨hlt,Pv (i+1),fun σ' H' p'=>⟨n-(i+1),↑∅,rfl,hlt,p'⟩,fun x H' y=>?_⟩;obtain⟨e,y⟩:=y;subst e y;exact hs i σ _ hlt p
 .have e:i=n:=by omega
  subst e;exact .inl ⟨uF _,hd σ H p⟩
def qe8{c:TT}{tb:TS}{D:jcd}{σ:St}{H:Hp}(Pv:St->Hp->Prop)(μ:St->Hp->Nat)(h0:Pv σ H)
  (hs:∀σ H,Pv σ H->c σ H fun b H1=>if b=true then tb {D with nx:=fun σ' H'=>Pv σ' H'/\μ σ' H'<μ σ H,ct:=fun σ' H'=>Pv σ' H'/\μ σ' H'<μ σ H,bk:=D.nx} σ H1 else D.nx σ H1)
  (mono:∀σ H Q Q',(∀b H1,Q b H1->Q' b H1)->c σ H Q->c σ H Q'):jlc c tb D σ H:=by
 refine⟨fun m σ H=>m=μ σ H/\Pv σ H,⟨_,rfl,h0⟩,?_⟩;rintro m σ H ⟨rfl,p⟩;refine mono σ H _ _ (fun b H1 q=>?_) (hs σ H p)
 cases b with
 |true=>exact⟨_,fun σ' H' ⟨p',l⟩=>⟨_,l,rfl,p'⟩,q⟩
 |false=>exact q
abbrev R2:=V->V->Hp->VK->Prop
def OpR(X:Cx)(f:uB->uB->Sem uB)(r:R2):Prop:=
 ∀(pins:List (Addr×Obj))(s:uC)(σ:St)(H:Hp)(x y:V)(v u:uB)(Q:VK),Inv X pins σ H s->qbg x v->qbg y u->r x y H Q->
  vC (vF X.prog X.w) X.A (f v u) (EP X pins σ Q) X.xe s
def UnR(X:Cx)(f:uB->Sem uB)(r:V->Hp->VK->Prop):Prop:=
 ∀(pins:List (Addr×Obj))(s:uC)(σ:St)(H:Hp)(x:V)(v:uB)(Q:VK),Inv X pins σ H s->qbg x v->r x H Q->
  vC (vF X.prog X.w) X.A (f v) (EP X pins σ Q) X.xe s
def qcv(X:Cx)(f:uB)(r:List V->Hp->VK->Prop):Prop:=
 ∀(pins:List (Addr×Obj))(s:uC)(σ:St)(H:Hp)(xs:List V)(us:List uB)(Q:VK),Inv X pins σ H s->qbl xs us->r xs H Q->
  vC (vF X.prog X.w) X.A (call f us) (EP X pins σ Q) X.xe s
noncomputable def tOp(r:R2)(ta tb:TE):TE:=fun σ H Q=>ta σ H fun x H1=>tb σ H1 fun y H2=>r x y H2 Q
noncomputable def tUn(r:V->Hp->VK->Prop)(ta:TE):TE:=fun σ H Q=>ta σ H fun x H1=>r x H1 Q
noncomputable def rI(C:Int->Int->Prop)(g:Int->Int->V):R2:=fun x y H Q=>∃i j,x=.int i/\y=.int j/\C i j/\Q (g i j) H
noncomputable def rI0(g:Int->Int->V):R2:=fun x y H Q=>∃i j,x=.int i/\y=.int j/\Q (g i j) H
noncomputable def rU(g:Int->V):V->Hp->VK->Prop:=fun x H Q=>∃i,x=.int i/\Q (g i) H
section
variable{X:Cx}{a b:vZ}{ta tb:TE}{pos:Pos}
def jsi(ha:PE X a ta)(hb:PE X b tb){pins:List (Addr×Obj)}{s:uC}{σ:St}{H:Hp}{R:V->V->Hp->Prop}(I:Inv X pins σ H s)
  (h:ta σ H fun x H1=>tb σ H1 fun y H2=>R x y H2){Q:uB->uC->Prop}{f:uB->uB->Sem uB}
  (hf:∀v u s2 x y H2,Inv X pins σ H2 s2->qbg x v->qbg y u->R x y H2->vC (vF X.prog X.w) X.A (f v u) Q X.xe s2):
  vC (vF X.prog X.w) X.A (wW a X.env) (fun v s₁=>vC (vF X.prog X.w) X.A (wW b X.env) (fun u s₂=>vC (vF X.prog X.w) X.A (f v u) Q X.xe s₂) X.xe s₁) X.xe s:=by
 refine thn (ha pins s σ H _ I h) fun v s1 h9=>?_;obtain⟨x,H1,I1,r1,q1⟩:=h9;refine thn (hb pins s1 σ H1 _ I1 q1) fun u s2 h9=>?_;obtain⟨y,H2,I2,r2,q2⟩:=h9;exact hf v u s2 x y H2 I2 r1 r2 q2
def qag{op:Operator}(ho:OpR X (yX op) r)(ha:PE X a ta)(hb:PE X b tb):PE X (.BinOp a op b pos) (tOp r ta tb):=by
 intro pins s σ H Q I h;exact wpAny_BinOp (jsi ha hb I h fun v u s2 x y H2 I2 rx ry q=>ho pins s2 σ H2 x y v u Q I2 rx ry q)
def jmq{op:UnaryOp}{r:V->Hp->VK->Prop}(ho:UnR X (unaryOp op) r)(ha:PE X a ta):PE X (.UnaryOp op a pos) (tUn r ta):=by
 intro pins s σ H Q I h;exact UnaryOp_ (thn (ha pins s σ H _ I h) fun v s1 ⟨x,H1,I1,r1,q1⟩=>ho pins s1 σ H1 x v Q I1 r1 q1)
def opI{f:uB->uB->Sem uB}{C:Int->Int->Prop}{g:Int->Int->Int}
  (rule:∀(i j:Int)(t u:Tok)(s:uC)(Q:uB->uC->Prop)(E:uB->uC->Prop),C i j->Q (.int (g i j) s.toks) {s with toks:=s.toks+1}->vC (vF X.prog X.w) X.A (f (.int i t) (.int j u)) Q E s):
  OpR X f (rI C fun i j=> .int (g i j)):=by
 intro pins s σ H x y v u Q I rx ry h;obtain⟨i,j,rfl,rfl,hc,q⟩:=h;obtain⟨t,rfl⟩:=rx;obtain⟨t',rfl⟩:=ry;exact rule i j t t' s _ _ hc ⟨.int (g i j),H,I.tok _,⟨_,rfl⟩,q⟩
def juu{f:uB->uB->Sem uB}{g:Int->Int->Int}
  (rule:∀(i j:Int)(t u:Tok)(s:uC)(Q:uB->uC->Prop)(E:uB->uC->Prop),Q (.int (g i j) s.toks) {s with toks:=s.toks+1}->vC (vF X.prog X.w) X.A (f (.int i t) (.int j u)) Q E s):
  OpR X f (rI0 fun i j=> .int (g i j)):=by
 intro pins s σ H x y v u Q I rx ry h;obtain⟨i,j,rfl,rfl,q⟩:=h;obtain⟨t,rfl⟩:=rx;obtain⟨t',rfl⟩:=ry;exact rule i j t t' s _ _ ⟨.int (g i j),H,I.tok _,⟨_,rfl⟩,q⟩
def jr8{f:uB->uB->Sem uB}{g:Int->Int->Bool}
  (rule:∀(i j:Int)(t u:Tok)(s:uC)(Q:uB->uC->Prop)(E:uB->uC->Prop),Q (.bool (g i j)) s->vC (vF X.prog X.w) X.A (f (.int i t) (.int j u)) Q E s):
  OpR X f (rI0 fun i j=> .bl (g i j)):=by
 intro pins s σ H x y v u Q I rx ry h;obtain⟨i,j,rfl,rfl,q⟩:=h;obtain⟨t,rfl⟩:=rx;obtain⟨t',rfl⟩:=ry;exact rule i j t t' s _ _ ⟨.bl (g i j),H,I,rfl,q⟩
def jvv(i j:Int):Prop:=0<=j/\j<=1000000/\i.natAbs<2^64
def qby:OpR X (yX .Add) (rI0 fun i j=> .int (i+j)):=juu fun _ _ _ _ _ _ _ q=>add_int q
def jfc:OpR X (yX .Sub) (rI0 fun i j=> .int (i-j)):=juu fun _ _ _ _ _ _ _ q=>sub_int q
def qb4:OpR X (yX .Mod) (rI (fun _ j=>0<j) fun i j=> .int (i%j)):=opI fun i j _ _ _ _ _ hc q=>by
 have h1:(0:Int)<j:=hc;exact mod_int' ↑∅ (by rw[Int.fmod_eq_emod_of_nonneg i ↑∅];exact q)
def jct:OpR X (yX .Pow) (rI jvv fun i j=> .int (i^j.toNat)):=opI fun _ _ _ _ _ _ _ hc q=>pow_int_small hc.1 hc.2.1 hc.2.2 q
def unI{f:uB->Sem uB}{g:Int->Int}
  (rule:∀(i:Int)(t:Tok)(s:uC)(Q:uB->uC->Prop)(E:uB->uC->Prop),Q (.int (g i) s.toks) {s with toks:=s.toks+1}->vC (vF X.prog X.w) X.A (f (.int i t)) Q E s):
  UnR X f (rU fun i=> .int (g i)):=by
 intro pins s σ H x v Q I rx h;obtain⟨i,rfl,q⟩:=h;obtain⟨t,rfl⟩:=rx;exact rule i t s _ _ ⟨.int (g i),H,I.tok _,⟨_,rfl⟩,q⟩
def jgw:UnR X (unaryOp .USub) (rU fun i=> .int (-i)):=unI fun _ _ _ _ _ q=>neg_int q
end
noncomputable def scal:V->V->Bool
 | .non,.non=>true| .non,.int _=>true| .int _,.non=>true| .non,.bl _=>true| .bl _,.non=>true| .non,.str _=>true| .str _,.non=>true
 | .int _,.int _=>true| .bl _,.bl _=>true| .str _,.str _=>true| .byt _,.byt _=>true
 | .int _,.str _=>true| .str _,.int _=>true| .bl _,.str _=>true| .str _,.bl _=>true
 |_,_=>false
noncomputable def rEq:R2:=fun x y H Q=>scal x y=true/\Q (.bl (decide (x=y))) H
noncomputable def rNe:R2:=fun x y H Q=>scal x y=true/\Q (.bl (!decide (x=y))) H
def jgx{i j:Int} :decide (V.int i=V.int j)=(i==j):=by
 rw[xE];simp
def jld{i j:Bool} :decide (V.bl i=V.bl j)=(i==j):=by
 rw[xE];simp
def jgy{i j:Str} :decide (V.str i=V.str j)=(i==j):=by
 rw[xE];simp
def jgz{i j:Array UInt8} :decide (V.byt i=V.byt j)=(i.toList==j.toList):=by
 rw[xE]
 cases i
 cases j
 simp
section
variable{X:Cx}{a b c:vZ}{ta tb tc:TE}{pos:Pos}
def qbf{Q:VK}{k k':Bool}(I:Inv X pins σ H s)(q:Q (.bl k) H)(e:k=k'):EP X pins σ Q (.bool k') s:=by
 subst e;exact⟨.bl k,H,I,rfl,q⟩
def qd9:OpR X (wJ .Eq) rEq:=by
 intro pins s σ H x y v u Q I rx ry h;obtain⟨hs,q⟩:=h
 cases x with
 |non=>
  cases rx
  cases y with
  |non=>cases ry;exact PySem.EqNone.eq_none_none (qbf I q (by simp))
  |bl j=>cases ry;exact PySem.EqNone.eq_none_bool (qbf I q (by simp))
  |int j=>obtain⟨t',rfl⟩:=ry;exact PySem.EqNone.eq_none_int (qbf I q (by simp))
  |str j=>obtain⟨t',rfl⟩:=ry;exact PySem.EqNone.eq_none_str (qbf I q (by simp))
  |_=>exact absurd (show false=true from hs) vB
 |bl i=>
  cases rx
  cases y with
  |non=>cases ry;exact PySem.EqNone.eq_bool_none (qbf I q (by simp))
  |bl j=>cases ry;exact eq_bool (qbf I q jld)
  |str j=>obtain⟨t',rfl⟩:=ry;exact PySem.EqMixed.eq_bool_str (qbf I q (by simp))
  |_=>exact absurd (show false=true from hs) vB
 |int i=>
  obtain⟨t,rfl⟩:=rx
  cases y with
  |non=>cases ry;exact PySem.EqNone.eq_int_none (qbf I q (by simp))
  |int j=>obtain⟨t',rfl⟩:=ry;exact eq_int (qbf I q jgx)
  |str j=>obtain⟨t',rfl⟩:=ry;exact PySem.EqMixed.eq_int_str (qbf I q (by simp))
  |_=>exact absurd (show false=true from hs) vB
 |str i=>
  obtain⟨t,rfl⟩:=rx
  cases y with
  |non=>cases ry;exact PySem.EqNone.eq_str_none (qbf I q (by simp))
  |bl j=>cases ry;exact PySem.EqMixed.eq_str_bool (qbf I q (by simp))
  |int j=>obtain⟨t',rfl⟩:=ry;exact PySem.EqMixed.eq_str_int (qbf I q (by simp))
  |str j=>obtain⟨t',rfl⟩:=ry;exact eq_str (qbf I q jgy)
  |_=>exact absurd (show false=true from hs) vB
 |byt i=>
  obtain⟨t,rfl⟩:=rx
  cases y with
  |byt j=>obtain⟨t',rfl⟩:=ry;exact PySem.W.eq_bytes (qbf I q jgz)
  |_=>exact absurd (show false=true from hs) vB
 |_=>cases y<;>exact absurd (show false=true from hs) vB
def jd1:OpR X (wJ .NotEq) rNe:=by
 intro pins s σ H x y v u Q I rx ry h;obtain⟨hs,q⟩:=h
 cases x with
 |non=>
  cases rx
  cases y with
  |non=>cases ry;exact PySem.EqNone.ne_none_none (qbf I q (by simp))
  |bl j=>cases ry;exact PySem.EqNone.ne_none_bool (qbf I q (by simp))
  |int j=>obtain⟨t',rfl⟩:=ry;exact PySem.EqNone.ne_none_int (qbf I q (by simp))
  |str j=>obtain⟨t',rfl⟩:=ry;exact PySem.EqNone.ne_none_str (qbf I q (by simp))
  |_=>exact absurd (show false=true from hs) vB
 |bl i=>
  cases rx
  cases y with
  |non=>cases ry;exact PySem.EqNone.ne_bool_none (qbf I q (by simp))
  |bl j=>cases ry;exact ne_bool (qbf I q (congrArg not jld))
  |str j=>obtain⟨t',rfl⟩:=ry;exact PySem.EqMixed.ne_bool_str (qbf I q (by simp))
  |_=>exact absurd (show false=true from hs) vB
 |int i=>
  obtain⟨t,rfl⟩:=rx
  cases y with
  |non=>cases ry;exact PySem.EqNone.ne_int_none (qbf I q (by simp))
  |int j=>obtain⟨t',rfl⟩:=ry;exact ne_int (qbf I q (congrArg not jgx))
  |str j=>obtain⟨t',rfl⟩:=ry;exact PySem.EqMixed.ne_int_str (qbf I q (by simp))
  |_=>exact absurd (show false=true from hs) vB
 |str i=>
  obtain⟨t,rfl⟩:=rx
  cases y with
  |non=>cases ry;exact PySem.EqNone.ne_str_none (qbf I q (by simp))
  |bl j=>cases ry;exact PySem.EqMixed.ne_str_bool (qbf I q (by simp))
  |int j=>obtain⟨t',rfl⟩:=ry;exact PySem.EqMixed.ne_str_int (qbf I q (by simp))
  |str j=>obtain⟨t',rfl⟩:=ry;exact ne_str (qbf I q (congrArg not jgy))
  |_=>exact absurd (show false=true from hs) vB
 |byt i=>
  obtain⟨t,rfl⟩:=rx
  cases y with
  |byt j=>obtain⟨t',rfl⟩:=ry;exact PySem.W.ne_bytes (qbf I q (congrArg not jgz))
  |_=>exact absurd (show false=true from hs) vB
 |_=>cases y<;>exact absurd (show false=true from hs) vB
def jd2:OpR X (wJ .Lt) (rI0 fun i j=> .bl (decide (i<j))):=jr8 fun _ _ _ _ _ _ _ q=>lt_int q
def jph:OpR X (wJ .LtE) (rI0 fun i j=> .bl (decide (i<=j))):=jr8 fun _ _ _ _ _ _ _ q=>le_int q
def qg6:OpR X (wJ .Gt) (rI0 fun i j=> .bl (decide (j<i))):=jr8 fun _ _ _ _ _ _ _ q=>gt_int q
def jpi:OpR X (wJ .GtE) (rI0 fun i j=> .bl (decide (j<=i))):=jr8 fun _ _ _ _ _ _ _ q=>ge_int q
def jg0:OpR X (wJ .In) (fun x y H Q=>∃i j,x=.str i/\y=.str j/\Q (.bl (!(aK j i 0 j.length 1).isEmpty)) H):=by
 intro pins s σ H x y v u Q I rx ry h;obtain⟨i,j,rfl,rfl,q⟩:=h;obtain⟨t,rfl⟩:=rx;obtain⟨t',rfl⟩:=ry;exact in_str (qbf I q rfl)
def jpj:OpR X (wJ .Is) (fun x y H Q=>y=.non/\Q (.bl (decide (x=.non))) H):=by
 intro pins s σ H x y v u Q I rx ry h;obtain⟨rfl,q⟩:=h
 cases ry
 refine is_none_gen (qbf I q ?_)
 cases x<;>first
  |(cases rx;rfl)
  |(obtain⟨t,rfl⟩:=rx;rfl)
def jmr:OpR X (wJ .IsNot) (fun x y H Q=>y=.non/\Q (.bl (!decide (x=.non))) H):=by
 intro pins s σ H x y v u Q I rx ry h;obtain⟨rfl,q⟩:=h
 cases ry
 refine isnot_none_gen (qbf I q ?_)
 cases x<;>first
  |(cases rx;rfl)
  |(obtain⟨t,rfl⟩:=rx;rfl)
def qar(b:vZ){op:CmpOp}(h:autoParam (op≠ .In) aD)(h2:autoParam (op≠ .NotIn) aD):bL op b=false:=by
 have e1:(op==CmpOp.In)=false:=by cases op<;>first|rfl|exact absurd rfl h
 have e2:(op==CmpOp.NotIn)=false:=by cases op<;>first|rfl|exact absurd rfl h2
 cases b<;>simp[bL,e1,e2]
def qcr(ho:OpR X (wJ op) r)(ha:PE X a ta)(hb:PE X b tb)(hm:bL op b=false):PE X (.Compare a [op] [b] pos) (tOp r ta tb):=by
 intro pins s σ H Q I h;exact wpAny_Compare1 (jsi ha hb I h fun v u s2 x y H2 I2 rx ry q=>ho pins s2 σ H2 x y v u Q I2 rx ry q) hm
noncomputable def jpk(t:TE):TT:=fun σ H Q=>t σ H fun x H'=>∃k,x=.bl k/\Q k H'
def qan(ho:OpR X (wJ op) r)(ha:PE X a ta)(hb:PE X b tb)(hm:bL op b=false):PT X (.Compare a [op] [b] pos) (jpk (tOp r ta tb)):=by
 intro pins s σ H Q I h;refine wpAny_isTrue_Compare1 (thn (ha pins s σ H _ I h) fun v s1 ⟨x,H1,I1,r1,q1⟩=>thn (hb pins s1 σ H1 _ I1 q1) fun u s2 ⟨y,H2,I2,r2,q2⟩=>
  thn (ho pins s2 σ H2 x y v u _ I2 r1 r2 q2) fun c s3 ⟨z,H3,I3,r3,k,e,q3⟩=>?_) hm
 subst e
 cases r3
 exact wY ⟨H3,I3,q3⟩
noncomputable def jle(r r':R2)(ta tb tc:TE):TE:=fun σ H Q=>ta σ H fun x H1=>tb σ H1 fun y H2=>r x y H2 fun z H3=>∃k,z=.bl k/\
 (if k=true then tc σ H3 fun w' H4=>r' y w' H4 Q else Q (.bl false) H3)
def jjy{op op':CmpOp}{r r':R2}(ho:OpR X (wJ op) r)(ho':OpR X (wJ op') r')(ha:PE X a ta)(hb:PE X b tb)(hc:PE X c tc)
  (hm:lastMarks [op,op'] [b,c]=false:=by with_unfolding_all rfl):PE X (.Compare a [op,op'] [b,c] pos) (jle r r' ta tb tc):=by
 intro pins s σ H Q I h;refine Compare_chain (thn (ha pins s σ H _ I h) fun v s1 ⟨x,H1,I1,r1,q1⟩=>chain_link (thn (hb pins s1 σ H1 _ I1 q1) fun u s2 ⟨y,H2,I2,r2,q2⟩=>
  thn (ho pins s2 σ H2 x y v u _ I2 r1 r2 q2) fun d s3 ⟨z,H3,I3,r3,k,e,q3⟩=>?_)) hm
 subst e
 cases r3
 refine wY ?_
 cases k with
 |false=>exact ite_ff ⟨.bl false,H3,I3,rfl,q3⟩
 |true=>exact ite_tt (chain_last (thn (hc pins s3 σ H3 _ I3 q3) fun w' s4 ⟨z',H4,I4,r4,q4⟩=>ho' pins s4 σ H4 y z' u w' Q I4 r2 r4 q4))
def jcu:(sizeLine:Nat)<2^63:=by rw[yY];decide
def jf8:OpR X (yX .Add) (fun x y H Q=>∃i j,x=.str i/\y=.str j/\i.length+j.length<=sizeLine/\Q (.str (i++j)) H):=by
 intro pins s σ H x y v u Q I rx ry h;obtain⟨i,j,rfl,rfl,hz,q⟩:=h;obtain⟨t,rfl⟩:=rx;obtain⟨t',rfl⟩:=ry;exact add_str (fun t' tk=>⟨.str (i++j),H,I.tok _,⟨_,rfl⟩,q⟩) hz
def jg1{x:V}(r:qbl [x] us):∃u,us=[u]/\qbg x u:=by
 cases r with
 |cons r1 r2=>cases r2;exact⟨_,rfl,r1⟩
def jjz:qcv X (.builtin "abs") (fun xs H Q=>∃i,xs=[.int i]/\Q (.int (if i<0 then -i else i)) H):=by
 intro pins s σ H xs us Q I r h;obtain⟨i,rfl,q⟩:=h;obtain⟨u,rfl,t,rfl⟩:=jg1 r;exact call_abs_int fun u tk=>⟨.int (if i<0 then -i else i),H,I.tok _,⟨_,rfl⟩,q⟩
end
structure jms(h:vU)(x dx C:Addr)(mA:Str->Option uB):Prop where
 obj:h.get? x=some (cU C dx)
 ns:h.Ns1 dx mA
 ne:dx≠x
def jg2{h:vU}{dx:Addr}{mA:Str->Option uB}(n:h.Ns1 dx mA):∃od,h.get? dx=some od/\∀name,lookIn name od=some (mA name):=by
 obtain⟨o,es,ep,ho,hd,hk,_,hm⟩:=n;refine⟨o,ho,fun name=>?_⟩;have e:=hm name;unfold nsFind findBy at e;rw[<-Array.find?_toList] at e;unfold lookIn;rw[hd];dsimp only
 split
 .rename_i y q;rw[q] at e;exact congrArg some e
 .rename_i q;rw[q] at e;have a:es.toList.any (·.refKey)=false:=by
   rw[List.any_eq_false];intro y hy;obtain⟨z,t,hkey⟩:=hk y (Array.mem_toList_iff.mp hy);simp[DictEntry.refKey,hkey]
  have a':¬es.toList.any (·.refKey)=true:=by rw[a];exact vB
  rw[gK a'];exact congrArg some e
def jms.look{h:vU}{x dx:Addr}{mA:Str->Option uB}(I:jms h x dx C mA):∃od,PySem.W.InstAt h x (cU C dx) C (some od)/\∀name,lookIn name od=some (mA name):=
 let ⟨od,ho,hl⟩:=jg2 I.ns
 ⟨od,⟨I.obj,rfl,rfl,ho⟩,hl⟩
section
variable{prog:vA}{w:vN}{A:vS}{E:uB->uC->Prop}{s:uC}{K:uX}{x dx C f:Addr}{mA:Str->Option uB}{name:Str}{v:uB}
def jmt{expr:Bool}{Q:uB->uC->Prop}(X:K.In s.heap)(I:jms s.heap x dx C mA)(hg:plainGet K C name=true)(hh:gB K C=true)
  (ha:wD K (.ref C) name=some none)(hv:mA name=some v)(hv':PySem.W.handedIn v=true)(h:Q v {s with toks:=s.toks+1}):
  vC (vF prog w) A (getAttr (.ref x) name expr) Q E s:=by
 obtain⟨od,J,hl⟩:=I.look;exact PySem.W.get_value X J (eI hg).1 (PySem.W.findObj_own hh ha rfl (by rw[hl,hv])) hv' h
def jj0{pl:Sem Bool}{Q:uB×List uB->uC->Prop}(X:K.In s.heap)(I:jms s.heap x dx C mA)(hg:plainGet K C name=true)
  (hf:wD K (.ref C) name=some (some (.ref f)))(ht:isFn K (.ref f)=true)(hv:mA name=none)(h:Q (.ref f,[.ref x]) s):
  vC (vF prog w) A (eC (.ref x) name pl) Q E s:=by
 obtain⟨od,J,hl⟩:=I.look;exact PySem.W.method_fn X J (eI hg).1 (eI hg).2 hf (beq_iff_eq.mp ht) (by show(lookIn name od).map (·.isSome)=some false;rw[hl,hv];rfl) h
def jmu{ns:List Str}{Q:Unit->uC->Prop}(X:K.In s.heap)(I:jms s.heap x dx C mA)
  (hs:wD K (.ref C) "__setattr__"=some (some (.builtin "object.__setattr__")))(hp:PySem.W.plainOver K C=true)(ht:PySem.W.takerIn K C name=some none)(hh:gB K C=true)
  (hw:PySem.Within mA ns)(hsz:ns.length<=sizeLine)
  (h:∀h',jms h' x dx C (fun y=>if y=name then some v else mA y)->bZ dx s.heap h'->Q () {s with heap:=h',toks:=s.toks+2}):
  vC (vF prog w) A (setAttr (.ref x) name v) Q E s:=by
 obtain⟨od,J,hl⟩:=I.look;refine PySem.W.set_plain X J hs (PySem.W.osa_open (s:={s with toks:=s.toks+1}) (r:=none) X J hp ht fun b=>?_);obtain⟨cd,hc,hd'⟩:=PySem.W.any_some hh;have hx:s.heap.get? x=some ⟨.ref C,some dx,.plain,#[]⟩:=I.obj;refine uK (vE (uK (uK (wpAny_loadPart hx (uK (PySem.W.Looks.here (s:={s with toks:=s.toks+1}) (PySem.W.looks_clsIn X hc) ?_))))));rw[hd'];refine vE (a:=some dx) (uK (vE (uK ?_)));refine wpAny_nsSet1 (s:={s with toks:=s.toks+1}) I.ns fun h' hn2 hs2=>?_;obtain⟨oD,esD,epD,hoD,hdD,hcD⟩:=hn2.count (PySem.Within.cons name v hw);refine uK (wpAny_lookBehind hoD (by rw[hdD];exact pastItsLine_dict (uY hcD (by rw[zR];omega))) ?_);exact vE (h _ ⟨(hs2.2 _ (xS I.ne)).trans I.obj,hn2,I.ne⟩ hs2)
def jfd{R:Result->uC->Prop}{vs:List uB}{kw:List (Str×uB)}(X:K.In s.heap)(hm:PySem.W.makesIn K C=true)
  (hi:wD K (.ref C) "__init__"=some (some (.ref f)))(hf:PySem.W.typeIn K (.ref f)=some (.type "function"))
  (h:bM (vF prog w) (A.under (.builtin "type.__call__" ⟨.ref C::vs,kw⟩)) (.call (.ref f) ⟨.ref (↑s+1)::vs,kw⟩) (PySem.W.InitBack (↑s+1) R)
   {s with heap:=(s.heap.push emptyDict).push (cU C ↑s)}):
  bM (vF prog w) A (.call (.ref C) ⟨vs,kw⟩) R s:=by
 obtain⟨hh,g,d,t,os⟩:=s;exact PySem.W.make_core (PySem.W.makes_of X hm) (PySem.W.looks_findIn X hi) (fun self=>PySem.W.bind_fn X self hf) (.inl rfl) h
end
noncomputable def qdw(f:Str)(v:V):List (Str×V)->List (Str×V)
 | []=> [(f,v)]
 |(g,x)::r=>if g=f then(g,v)::r else(g,x)::qdw f v r
theorem qfq(f g:Str)(v:V):∀fs:List (Str×V),(qdw f v fs).lookup g=if g=f then some v else fs.lookup g
 | []=>by
  show aL g [(f,v)]=_;by_cases h:g=f
  .have hb:(g==f)=true:=beq_iff_eq.mpr h;simp only[aL,hb,gL h]
  .have hb:(g==f)=false:=beq_eq_false_iff_ne.mpr h;simp only[aL,hb,gK h]
 |(k,x)::r=>by
  have ih:=qfq f g v r;rw[show qdw f v ((k,x)::r)=(if k=f then(k,v)::r else(k,x)::qdw f v r) from rfl];by_cases hk:k=f
  .rw[gL hk];by_cases h:g=k
   .have hb:(g==k)=true:=beq_iff_eq.mpr h;simp only[aL,hb,gL (h.trans hk)]
   .have hb:(g==k)=false:=beq_eq_false_iff_ne.mpr h;simp only[aL,hb,gK (fun e:g=f=>h (e.trans hk.symm))]
  .rw[gK hk];by_cases h:g=k
   .have hb:(g==k)=true:=beq_iff_eq.mpr h;simp only[aL,hb,gK (fun e:g=f=>hk (h.symm.trans e))]
   .have hb:(g==k)=false:=beq_eq_false_iff_ne.mpr h;simp only[aL,hb];exact ih
theorem qfu(f:Str)(v:V):∀fs:List (Str×V),f∈(qdw f v fs).map (·.1)/\∀g,g∈fs.map (·.1)->g∈(qdw f v fs).map (·.1)
 | []=>⟨by simp[qdw],fun g h=>by simp at h⟩
 |(k,x)::r=>by
  obtain⟨i1,i2⟩:=qfu f v r;rw[show qdw f v ((k,x)::r)=(if k=f then(k,v)::r else(k,x)::qdw f v r) from rfl];by_cases hk:k=f
  .rw[gL hk];subst hk;exact⟨by simp,fun g h=>by simpa using h⟩
  .rw[gK hk];refine⟨?_,fun g h=>?_⟩
   .rw[zV];exact zD _ i1
   .rw[zV] at h⊢;rcases zP.mp h with e|e
    .exact zP.mpr (.inl e)
    .exact zD _ (i2 g e)
theorem qfs(f:Str)(v:V):∀fs:List (Str×V),(qdw f v fs).length<=fs.length+1
 | []=>by simp[qdw]
 |(k,x)::r=>by
  have ih:=qfs f v r;rw[show qdw f v ((k,x)::r)=(if k=f then(k,v)::r else(k,x)::qdw f v r) from rfl];by_cases hk:k=f
  .rw[gL hk,zR,zR];omega
  .rw[gK hk,zR,zR];omega
def qgz.some_of{o:Option uB}(r:qgz (some v) o):∃u,o=some u/\qbg v u:=by
 cases o with
 |none=>exact(show False from r).elim
 |some u=>exact⟨u,rfl,r⟩
def qgz.none_of{o:Option uB}(r:qgz none o):o=none:=by
 cases o with
 |none=>rfl
 |some u=>exact(show False from r).elim
def jg3(r:qbg v u):PySem.W.handedIn u=true:=by
 cases v with
 |non=>cases(show u=wN from r);rfl
 |bl b=>cases(show u=eS b from r);rfl
 |int i=>obtain⟨t,e⟩:=(show ∃t,u=gC i t from r);cases e;rfl
 |str x=>obtain⟨t,e⟩:=(show ∃t,u=dZ x t from r);cases e;rfl
 |byt b=>obtain⟨t,e⟩:=(show ∃t,u=Value.bytes b t from r);cases e;rfl
 |flt b=>obtain⟨t,e⟩:=(show ∃t,u=Value.float b t from r);cases e;rfl
 |ref a=>cases(show u=uV a from r);rfl
 |ty n=>cases(show u=cW n from r);rfl
section
variable{P:vA}{w:vN}{H:Hp}{h:vU}{a C dx:Addr}{fs:List (Str×V)}
def qgr(hok:HOk P w H h)(e:H a=some (.ins C dx fs)):∃mA,jms h a dx C mA/\(∀f,qgz (fs.lookup f) (mA f))/\PySem.Within mA (fs.map (·.1))/\fs.length<=1000/\H dx=some (.own a):=by
 obtain⟨d,z,ne,ob,mA,n,r,q⟩:=(show qbw P w H h a (.ins C dx fs) from hok a _ e);exact⟨mA,⟨ob,n,ne⟩,r,q,z,d⟩
end
structure Cls(K:uX)(C:Addr):Prop where
 pg:plainGet K C Str.empty=true
 hd:gB K C=true
 po:PySem.W.plainOver K C=true
 sa:wD K (.ref C) "__setattr__"=some (some (.builtin "object.__setattr__"))
def Cls.get(c:Cls K C)(f:Str):plainGet K C f=true:=c.pg
def qaq(K:uX)(C:Addr)(f:Str):Prop:=wD K (.ref C) f=some none
def qaq.taker{f:Str}(n:qaq K C f):PySem.W.takerIn K C f=some none:=by
 unfold PySem.W.takerIn;rw[show wD K (.ref C) f=some none from n];rfl
structure Con(K:uX)(C:Addr)(f:Str)(v:V)(u:uB):Prop where
 at_:wD K (.ref C) f=some (some u)
 rel:qbg v u
 get:dY K u "__get__"=some none
 cp:PySem.W.copiedNames.contains f=false
structure jav(K:uX)(C:Addr)(m:Str)(f:Addr):Prop where
 at_:wD K (.ref C) m=some (some (.ref f))
 fn:isFn K (.ref f)=true
 kp:bU K (.ref f)=true
section
variable{X:Cx}{pins:List (Addr×Obj)}{σ:St}{H:Hp}{s:uC}{a C dx:Addr}{fs:List (Str×V)}{f:Str}{v:V}{A:vS}{E:uB->uC->Prop}
def jf9{b:Bool}{Q:uB->uC->Prop}(I:Inv X pins σ H s)(e:H a=some (.ins C dx fs))(c:Cls X.K C)(n:qaq X.K C f)(l:fs.lookup f=some v)
  (h:∀u s',Inv X pins σ H s'->qbg v u->Q u s'):vC (vF X.prog X.w) A (getAttr (.ref a) f b) Q E s:=by
 obtain⟨mA,O,r,_,_,_⟩:=qgr I.hok e;obtain⟨u,hu,ru⟩:=qgz.some_of (v:=v) (o:=mA f) (by rw[<-l];exact r f);exact jmt I.kIn O (c.get f) c.hd n hu (jg3 ru) (h u _ (I.tok _) ru)
def qds{m:Str}{g:Addr}{pl:Sem Bool}{Q:uB×List uB->uC->Prop}(I:Inv X pins σ H s)(e:H a=some (.ins C dx fs))(c:Cls X.K C)(k:jav X.K C m g)(l:fs.lookup m=none)
  (h:Q (.ref g,[.ref a]) s):vC (vF X.prog X.w) A (eC (.ref a) m pl) Q E s:=by
 obtain⟨mA,O,r,_,_,_⟩:=qgr I.hok e;have hn:mA m=none:=qgz.none_of (by rw[<-l];exact r m);exact jj0 I.kIn O (c.get m) k.at_ k.fn hn h
def jga{y:V}{u:uB}{Q:Unit->uC->Prop}(I:Inv X pins σ H s)(e:H a=some (.ins C dx fs))(c:Cls X.K C)(n:qaq X.K C f)(hl:fs.length<1000)(ry:qbg y u)
  (h:∀s',Inv X pins σ (upd H a (.ins C dx (qdw f y fs))) s'->Q () s'):vC (vF X.prog X.w) A (setAttr (.ref a) f u) Q E s:=by
 obtain⟨mA,O,r,wi,_,ho⟩:=qgr I.hok e;have hz:(fs.map (·.1)).length<=sizeLine:=by rw[zB,yY];omega
 refine jmu I.kIn O c.sa c.po n.taker c.hd wi hz fun h' O' sb=>h _ ?_;have hd:∃o,h'.get? dx=some o:=let ⟨o,_,_,e',_⟩:=O'.ns;⟨o,e'⟩
 refine I.write (x:=a) (e:=dx) (by rw[e];exact xF) (.inr ho) (fun b q hb z=>(sb.2 b hb).trans z) hd ?_;refine⟨by rw[qa7 O.ne];exact ho,?_,O.ne,O'.obj,_,O'.ns,fun g=>?_,fun g hg=>?_⟩
 .have:=qfs f y fs;omega
 .show qgz ((qdw f y fs).lookup g) (if g=f then some u else mA g);rw[qfq];by_cases q:g=f
  .rw[gL q,gL q];exact ry
  .rw[gK q,gK q];exact r g
 .by_cases q:g=f
  .rw[q];exact(qfu f y fs).1
  .refine(qfu f y fs).2 g (wi g fun z=>hg ?_);show(if g=f then some u else mA g)=none;rw[gK q];exact z
def Inv.made(I:Inv X pins σ H s):Inv X pins σ (upd (upd H ↑s (.own (↑s+1))) (↑s+1) (.ins C ↑s []))
  {s with heap:=(s.heap.push emptyDict).push (cU C ↑s)}:=by
 have e1:(s.heap.push emptyDict).get? ↑s=some emptyDict:=vH s.heap rfl;have e2:((s.heap.push emptyDict).push (cU C ↑s)).get? (↑s+1)=some (cU C ↑s):=by
  have:=vH (s.heap.push emptyDict) (o:=cU C ↑s) rfl
  rwa [cB] at this
 have e3:(s.heap.push emptyDict).Ns ↑s (fun _=>none):=⟨emptyDict,#[],_,e1,rfl,(fun e he=>absurd he (by simp)),fun _=>rfl⟩;have I1:=I.laid (a:=↑s) (o:=.own (↑s+1)) (h':=s.heap.push emptyDict) (t':=s.toks) (fun b u q=>uG _ q) (uF _) ⟨_,e1⟩;refine I1.laid (a:=↑s+1) (o:=.ins C ↑s []) (t':=s.toks) (fun b u q=>uG _ q) (Nat.le_of_eq (cB _ _)) ?_;have ne:↑s≠↑s+1:=vL (bG _);refine⟨by rw[qa7 ne,qa1],wR _,ne,e2,fun _=>none,(Heap.Ns1.of_empty e3).at fun o q=>uG _ q,fun _=>xF,fun y hy=>absurd rfl hy⟩
def jmv{prog:vA}{w:vN}{env:Env}{e:vZ}{f:Str}{pos:Pos}{s:uC}{Q:uB->uC->Prop}(hb:bN e f env (wW e env)=wW e env)
  (h:vC (vF prog w) A (wW e env) (fun o s₁=>vC (vF prog w) A (getAttr o f true) Q E s₁) E s):vC (vF prog w) A (wW (.Attribute e f pos) env) Q E s:=
 Attribute_any_ h (by rw[arm_eval_Attribute,hb])
end
noncomputable def juv(K:uX)(ta:TE)(f:Str):TE:=fun σ H Q=>ta σ H fun x H1=>∃a C dx fs v,x=.ref a/\H1 a=some (.ins C dx fs)/\Cls K C/\qaq K C f/\fs.lookup f=some v/\Q v H1
noncomputable def juw(K:uX)(ta tv:TE)(f:Str):TS:=fun D σ H=>tv σ H fun y H1=>ta σ H1 fun x H2=>∃a C dx fs,x=.ref a/\H2 a=some (.ins C dx fs)/\Cls K C/\qaq K C f/\fs.length<1000/\
 D.nx σ (upd H2 a (.ins C dx (qdw f y fs)))
section
variable{X:Cx}{o e value:vZ}{f:Str}{pos pos':Pos}{ta tv:TE}
def qay(he:PE X e ta)(hb:bN e f X.env (wW e X.env)=wW e X.env):PE X (.Attribute e f pos) (juv X.K ta f):=by
 intro pins s σ H Q I h;refine jmv hb (thn (he pins s σ H _ I h) fun u s1 h9=>?_);obtain⟨x,H1,I1,rx,a,C,dx,fs,v,ex,ea,c,n,l,q⟩:=h9;subst ex;obtain rfl:u=uV a:=rx;exact jf9 I1 ea c n l fun u' s2 I2 ru=>⟨v,H1,I2,ru,q⟩
def qcj(ha:PE X o ta)(hv:PE X value tv)(hs:eB value (some (.Attribute o f pos')) pos.line X.env=pure false):PS X (.Assign [.Attribute o f pos'] value pos) (juw X.K ta tv f):=by
 intro pins s σ H D I h;refine plainObj_wpAny_Assign_Attribute (thn (hv pins s σ H _ I h) fun u s1 ⟨y,H1,I1,ry,q⟩=>thn (ha pins s1 σ H1 _ I1 q) fun ov s2 h9=>?_) hs;obtain⟨x,H2,I2,rx,a,C,dx,fs,ex,ea,c,n,l,q2⟩:=h9;subst ex;obtain rfl:ov=uV a:=rx;exact jga I2 ea c n l ry fun s3 I3=>⟨σ,_,I3,q2⟩
end
section
variable{X:Cx}{pins:List (Addr×Obj)}{σ:St}{H:Hp}{s:uC}{A:vS}{E:uB->uC->Prop}{Q:uB->uC->Prop}{c:uB}{b:Bool}
inductive jby(K:uX)(H:Hp):V->uB->Prop where
 |non:jby K H .non (.type "NoneType")
 |bl(x:Bool):jby K H (.bl x) (.type "bool")
 |int(i:Int):jby K H (.int i) (.type "int")
 |str(x:Str):jby K H (.str x) (.type "str")
 |flt(x:UInt64):jby K H (.flt x) (.type "float")
 |lst{a:Addr}{xs:List V}(e:H a=some (.lst xs)):jby K H (.ref a) (.type "list")
 |frz{a:Addr}{o:Obj}{xs:List V}(e:H a=some (.frz o (.lst xs))):jby K H (.ref a) (.type "list")
 |tup{a:Addr}{xs:List V}(e:H a=some (.tup xs)):jby K H (.ref a) (.type "tuple")
 |dK{a:Addr}{kvs:List (Key×V)}(e:H a=some (.dK kvs)):jby K H (.ref a) (.type "dict")
 |dT{a:Addr}{kvs:List (List Key×V)}(e:H a=some (.dT kvs)):jby K H (.ref a) (.type "dict")
 |ins{a C dx:Addr}{fs:List (Str×V)}(e:H a=some (.ins C dx fs))(cl:Cls K C)(ha:wD K (.ref C) "__class__"=some (some (.builtin "object.__class__")))
   (hn:dY K (.builtin "object.__class__") "__get__"=some (some (.builtin "getset_descriptor.__get__"))) (htk:PySem.W.takesIn K (.builtin "object.__class__")=some true)
   (hm:mroIn K C (.type "object")=some true):jby K H (.ref a) (.ref C)
def jg4{x:V}{t:uB}(I:Inv X pins σ H s)(rx:qbg x u)(ty:jby X.K H x t)(e:bV X.K t c=some b)(h:∀tk,Q (.bool b) {s with toks:=tk}):
  vC (vF X.prog X.w) A (call (.builtin "isinstance") [u,c]) Q E s:=by
 cases ty with
 |non=>cases(show u=wN from rx);exact wU PySem.W.kitx_none I.kIn xF e (fun z=>nomatch z) h
 |bl y=>cases(show u=eS y from rx);exact wU PySem.W.kitx_bool I.kIn xF e (fun z=>nomatch z) h
 |int i=>obtain⟨t,q⟩:=(show ∃t,u=gC i t from rx);cases q;exact wU PySem.W.kitx_int I.kIn xF e (fun z=>nomatch z) h
 |str y=>obtain⟨t,q⟩:=(show ∃t,u=dZ y t from rx);cases q;exact wU PySem.W.kitx_str I.kIn xF e (fun z=>nomatch z) h
 |flt y=>obtain⟨t,q⟩:=(show ∃t,u=Value.float y t from rx);cases q;exact wU PySem.W.kitx_float I.kIn xF e (fun z=>nomatch z) h
 | @lst a xs ea=>
  cases(show u=uV a from rx)
  obtain⟨_,_,n,_,h1⟩:=(show qbw X.prog X.w H s.heap a (.lst xs) from I.hok a _ ea);exact wU PySem.W.kitx_list I.kIn ⟨_,h1,rfl⟩ e (fun z=>nomatch z) h
 | @frz a ob xs ea=>
  cases(show u=uV a from rx)
  obtain⟨_,_,_,n,_,h1⟩:=(show qbw X.prog X.w H s.heap a (.frz ob (.lst xs)) from I.hok a _ ea);exact wU PySem.W.kitx_list I.kIn ⟨_,h1,rfl⟩ e (fun z=>nomatch z) h
 | @tup a xs ea=>
  cases(show u=uV a from rx)
  obtain⟨_,_,_,p⟩:=(show qbw X.prog X.w H s.heap a (.tup xs) from I.hok a _ ea);obtain⟨o,h1,h2,_⟩:=p;exact wU PySem.W.kitx_tuple I.kIn ⟨o,h1,h2⟩ e (fun z=>nomatch z) h
 | @dK a kvs ea=>
  cases(show u=uV a from rx)
  obtain⟨_,_,vs,_,p⟩:=(show qbw X.prog X.w H s.heap a (.dK kvs) from I.hok a _ ea);obtain⟨o,es,ep,h1,h2,_⟩:=p;exact wU PySem.W.kitx_dict I.kIn ⟨o,h1,h2.1⟩ e (fun z=>nomatch z) h
 | @dT a kvs ea=>
  cases(show u=uV a from rx)
  obtain⟨_,_,xs,_,o,es,ep,h1,h2,_⟩:=(show qbw X.prog X.w H s.heap a (.dT kvs) from I.hok a _ ea);exact wU PySem.W.kitx_dict I.kIn ⟨o,h1,h2.1⟩ e (fun z=>nomatch z) h
 | @ins a C dx fs ea cl ha hn htk hm=>
  cases(show u=uV a from rx)
  obtain⟨mA,O,_⟩:=qgr I.hok ea;obtain⟨od,J,_⟩:=O.look;exact wU (PySem.W.kitx_own (cl.get _) cl.hd ha hn htk hm) I.kIn J e (fun z=>nomatch z) h
end
structure ja0(k:Nat)(A:vS):Prop where
 hd:A.handled=none
 dp:A.depth+3*k+5<recursionLimit
 un:A.units+16*k+200<cLine
def ja0.mono{j k:Nat}(r:ja0 k A)(h:j<=k):ja0 j A:=⟨r.hd,by have:=r.dp;omega,by have:=r.un;omega⟩
theorem ja0.deeper{k:Nat}(r:ja0 (k+1) A)(env:Env):ja0 k (A.deeper env):=
 ⟨r.hd,by have:=r.dp;show A.depth+1+3*k+5<_;omega,by have:=r.un;show A.units+3+16*k+200<_;omega⟩
def jgb{kw:List (Str×uB)} :(A.under (.builtin "type.__call__" ⟨.ref C::us,kw⟩)).depth=A.depth+1:=by
 first|rfl|simp[Around.under,Code.weight,Code.isCreation,Code.isGuard,Code.isCaller,Code.frames,Code.isFrame,guardIds]
def jgc{kw:List (Str×uB)} :(A.under (.builtin "type.__call__" ⟨.ref C::us,kw⟩)).units=A.units+1:=by
 first|rfl|simp[Around.under,Code.cUnits,Code.frames,Code.isFrame]
def ja0.make{k:Nat}(r:ja0 (k+1) A)(C:Addr)(us:List uB)(kw:List (Str×uB)):ja0 k (A.under (.builtin "type.__call__" ⟨.ref C::us,kw⟩)):=
 ⟨r.hd,by have:=r.dp;rw[jgb];omega,by have:=r.un;rw[jgc];omega⟩
theorem ja0.depth{k:Nat}(r:ja0 k A):A.depth<recursionLimit:=by have:=r.dp;omega
theorem ja0.units{k:Nat}(r:ja0 k A):A.units+64<cLine:=by have:=r.un;omega
noncomputable def jou:TA:=fun _ H Q=>Q [] H
noncomputable def jmw(ta:TE)(tr:TA):TA:=fun σ H Q=>ta σ H fun x H1=>tr σ H1 fun xs H2=>Q (x::xs) H2
section
variable{X:Cx}{e:vZ}{es:List vZ}{te:TE}{t:TA}{pos:Pos}
def qa3:PA X [] jou:=fun _ _ _ _ H Q I h=>Calls.spliced_nil ⟨[],H,I,.nil,h⟩
def qa0(ha:PE X e te)(hr:PA X es t)(hs:autoParam (vG (e::es) X.env=(false,wW e X.env)::vG es X.env) aR):PA X (e::es) (jmw te t):=by
 intro pos pins s σ H Q I h;rw[hs];show vC _ _ (spliced ((false,wW e X.env)::xI pos (vG es X.env))) _ _ s;refine eY (thn (ha pins s σ H _ I h) fun u s1 h9=>?_);obtain⟨x,H1,I1,r1,q1⟩:=h9;exact thn (hr pos pins s1 σ H1 _ I1 q1) fun us s2 ⟨xs,H2,I2,r2,q2⟩=>⟨x::xs,H2,I2,.cons r1 r2,q2⟩
noncomputable def jux(t:TA):TE:=fun σ H Q=>t σ H fun xs H1=>xs.length<=sizeLine/\∀p,H1 p=none->Q (.ref p) (upd H1 p (.tup xs))
noncomputable def jsj(t:TA):TE:=fun σ H Q=>t σ H fun xs H1=>xs.length<=sizeLine/\∀p,H1 p=none->Q (.ref p) (upd H1 p (.lst xs))
def qbc{x1}(h:PA X es t):PE X (.Tuple es x1 pos) (jux t):=by
 intro pins s σ H Q I hq;refine wpAny_Tuple_spliced (thn (h pos pins s σ H _ I hq) fun us s1 ⟨xs,H1,I1,r,z,q⟩=>⟨by rw[<-r.length];exact z,?_⟩);have hf:H1 ↑s1=none:=I1.hok.fresh (uF _);refine⟨.ref ↑s1,upd H1 ↑s1 (.tup xs),I1.laid (t':=s1.toks) (fun b u e=>uG _ e) (uF _) ?_,rfl,q _ hf⟩;exact⟨z,us,r,⟨_,vH _ rfl,rfl,_,rfl⟩⟩
def qc2(h:PA X es t):PE X (.List es pos) (jsj t):=by
 intro pins s σ H Q I hq;refine wpAny_List_spliced (thn (h pos pins s σ H _ I hq) fun us s1 ⟨xs,H1,I1,r,z,q⟩=>⟨by rw[<-r.length];exact z,?_⟩);have hf:H1 ↑s1=none:=I1.hok.fresh (uF _);refine⟨.ref ↑s1,upd H1 ↑s1 (.lst xs),I1.laid (t':=s1.toks) (fun b u e=>uG _ e) (uF _) ?_,rfl,q _ hf⟩;exact⟨z,us,0,r,vH _ rfl⟩
end
abbrev Sp:=List V->Hp->VK->XK->Prop
abbrev CXT:=List Env->Hp->uC->XK->uB->uC->Prop
structure jj1(P:vA)(w:vN)(K:uX)(mg:Str->Option uB)(base:vU)(A:vS)(outer:List Env)(s:uC)(H:Hp):Prop where
 frames:A.frames=some outer
 mod:Mod K mg base
 bs:∀b o,base.get? b=some o->s.heap.get? b=some o/\H b=none
 bsz:base.objs.size<=↑s
 funs:s.heap.FunFrames base outer
 frf:∀b∈frs outer,H b=none
 hok:HOk P w H s.heap
 bare:cE s.gens
def CE(outer:List Env)(P:vA)(w:vN)(H:Hp)(s:uC)(Q:VK)(u:uB)(s':uC):Prop:=
 ∃v H',s'.os=s.os/\cE s'.gens/\Un (frs outer) [] H H' s.heap s'.heap/\HOk P w H' s'.heap/\qbg v u/\Q v H'
def CR(CX:CXT)(outer:List Env)(P:vA)(w:vN)(H:Hp)(s:uC)(Q:VK)(E:XK)(r:Result)(s':uC):Prop:=
 match r with
 | .ok (.ret u)=>CE outer P w H s Q u s'
 | .ok _=>False
 | .error e=>CX outer H s E e s'
structure jac(P:vA)(w:vN)(K:uX)(mg:Str->Option uB)(base:vU)(CX:CXT)(k:Nat)(f:Addr)(fd:uJ)(ps:List Str)(sp:Sp):Prop where
 len:∀vs H Q E,sp vs H Q E->vs.length=ps.length
 run:∀(A:vS)(outer:List Env)(s:uC)(H:Hp)(args:Args)(us:List uB)(vs:List V)(Q:VK)(E:XK),ja0 k A->jj1 P w K mg base A outer s H->cY s fd args (ps.zip us)->qbl vs us->sp vs H Q E->
  bM (vF P w) A (.call (.ref f) args) (CR CX outer P w H s Q E) s
theorem jac.mono{P:vA}{w:vN}{K:uX}{mg:Str->Option uB}{base:vU}{CX:CXT}{j k:Nat}{f:Addr}{fd:uJ}{ps:List Str}{sp:Sp}(F:jac P w K mg base CX j f fd ps sp)(h:j<=k):
  jac P w K mg base CX k f fd ps sp:=⟨F.len,fun A outer s H args us vs Q E hr=>F.run A outer s H args us vs Q E (hr.mono h)⟩
def jac.imp{P:vA}{w:vN}{K:uX}{mg:Str->Option uB}{base:vU}{CX:CXT}{k:Nat}{f:Addr}{fd:uJ}{ps:List Str}{sp sp':Sp}(F:jac P w K mg base CX k f fd ps sp)
  (h:∀vs H Q E,sp' vs H Q E->sp vs H Q E):jac P w K mg base CX k f fd ps sp':=
 ⟨fun vs H Q E q=>F.len vs H Q E (h _ _ _ _ q),fun A outer s H args us vs Q E hr he hb hv hs=>F.run A outer s H args us vs Q E hr he hb hv (h _ _ _ _ hs)⟩
def jj1.make{P:vA}{w:vN}{K:uX}{mg:Str->Option uB}{base:vU}{A:vS}{outer:List Env}{s:uC}{H:Hp}(e:jj1 P w K mg base A outer s H)(C:Addr)(us:List uB)(kw:List (Str×uB)):
  jj1 P w K mg base (A.under (.builtin "type.__call__" ⟨.ref C::us,kw⟩)) outer s H:=⟨by first|exact e.frames|(simpa[Around.under,Code.envs,Code.isFrame,pushEnvs] using e.frames),e.mod,e.bs,e.bsz,e.funs,e.frf,e.hok,e.bare⟩
section
variable{X:Cx}{pins:List (Addr×Obj)}{σ:St}{H:Hp}{s s':uC}
def Inv.env0(I:Inv X pins σ H s):jj1 X.prog X.w X.K X.mg X.base X.A X.stack s H:=
 ⟨I.ok.frames,I.ok.mod,I.bs,uY I.ok.bsz I.sz,I.stack,I.stkFree,I.hok,I.bare⟩
def Inv.after{Q:VK}(I:Inv X pins σ H s)(h:CE X.stack X.prog X.w H s Q u s'):EP X pins σ Q u s':=by
 obtain⟨v,H',os,bare,un,hok,r,q⟩:=h;obtain⟨hh,g,d,t,os'⟩:=s';obtain rfl:os'=s.os:=os;exact⟨v,H',I.call (h':=hh) (g':=g) (d':=d) (t':=t) (ch:=[]) un hok bare (fun b z=>absurd z (by simp)),r,q⟩
end
noncomputable def jpl(sp:Sp)(dvs:List V)(E:XK)(t:TA):TE:=fun σ H Q=>t σ H fun vs H1=>sp (vs++dvs) H1 Q E
noncomputable def jmx(C:Addr)(m:Str)(sp:Sp)(dvs:List V)(E:XK)(ta:TE)(t:TA):TE:=fun σ H Q=>ta σ H fun x H1=>∃a dx fs,x=.ref a/\H1 a=some (.ins C dx fs)/\fs.lookup m=none/\
 t σ H1 fun vs H2=>sp (x ::(vs++dvs)) H2 Q E
noncomputable def jpm(C:Addr)(sp:Sp)(dvs:List V)(E:XK)(t:TA):TE:=fun σ H Q=>t σ H fun vs H1=>∀x dx,H1 x=none->H1 dx=none->dx≠x->
 sp (.ref x ::(vs++dvs)) (upd (upd H1 dx (.own x)) x (.ins C dx [])) (fun v H2=>v=.non/\Q (.ref x) H2) E
def qao(K:uX)(fd:uJ)(ps:List Str)(ds:List uB):Prop:=
 ∀(s:uC)(us:List uB),K.In s.heap->(us++ds).length=ps.length->cY s fd ⟨us,[]⟩ (ps.zip (us++ds))
def qao.all{fd:uJ}{ps:List Str}(h:∀us:List uB,us.length=ps.length->bindArgs fd ⟨us,[]⟩=pure (ps.zip us)):qao K fd ps []:=fun s us _ hl=>by
 rw[yA] at hl⊢;exact .of_eq (h us hl)
def qg5(CX:CXT)(X:Cx)(E:XK):Prop:=∀(pins:List (Addr×Obj))(σ:St)(H:Hp)(s:uC)(e:uB)(s':uC),Inv X pins σ H s->CX X.stack H s E e s'->X.xe e s'
section
variable{X:Cx}{CX:CXT}{k:Nat}{f C:Addr}{fd:uJ}{ps:List Str}{sp:Sp}{dvs:List V}{ds:List uB}{E:XK}{x m:Str}{p pos apos:Pos}{e o:vZ}{es:List vZ}{ta:TE}{t:TA}
def jg5{pins:List (Addr×Obj)}{σ:St}{H:Hp}{s:uC}{Q:VK}{us:List uB}{vs:List V}(F:jac X.prog X.w X.K X.mg X.base CX k f fd ps sp)(hr:ja0 k X.A)(hb:qao X.K fd ps ds)(hd:qbl dvs ds)(hx:qg5 CX X E)
  (I:Inv X pins σ H s)(r:qbl vs us)(h:sp (vs++dvs) H Q E):vC (vF X.prog X.w) X.A (call (.ref f) us) (EP X pins σ Q) X.xe s:=by
 have r2:qbl (vs++dvs) (us++ds):=r.append hd;have hl:(us++ds).length=ps.length:=by rw[<-r2.length];exact F.len _ _ _ _ h
 refine bH (xP (F.run X.A X.stack s H ⟨us,[]⟩ (us++ds) (vs++dvs) Q E hr I.env0 (hb s us I.kIn hl) r2 h) fun r s' hq=>?_)
 cases r with
 |error e=>exact hx pins σ H s e s' I hq
 |ok fl=>
  cases fl with
  |ret u=>exact I.after hq
  |next=>exact vW hq
  |brk=>exact vW hq
  |cont=>exact vW hq
def qac(F:jac X.prog X.w X.K X.mg X.base CX k f fd ps sp)(hr:ja0 k X.A)(hg:Gl X x)(hm:X.mg x=some (.ref f))(hk:bU X.K (.ref f)=true)(hb:qao X.K fd ps ds)(hd:qbl dvs ds)(hx:qg5 CX X E)
  (ha:PA X (e::es) t)(hdb:autoParam ((x==("__debug__":Str))=false) aD)(he:autoParam (vG (e::es) X.env=(false,wW e X.env)::vG es X.env) aR)(hpl:autoParam ((xI pos (vG es X.env)).any (·.1)=false) aR):
  PE X (.Call (.Name x p) (e::es) [] pos) (jpl sp dvs E t):=by
 intro pins s σ H Q I h;refine xA (qe5 I hg hm ?_ hdb);refine xJ (h₀:=X.base) I.ok.mod.kin hk (thn (ha pos pins s σ H _ I h) fun us s1 ⟨vs,H1,I1,r,q⟩=>⟨I1.kIn,?_⟩) he hpl;exact jg5 F hr hb hd hx I1 r q
def jg6{pl:Sem Bool}(he:PE X o ta)(c:Cls X.K C)(hm:jav X.K C m f)(F:jac X.prog X.w X.K X.mg X.base CX k f fd ps sp)(hr:ja0 k X.A)(hb:qao X.K fd ps ds)(hd:qbl dvs ds)(hx:qg5 CX X E)(ha:PA X (e::es) t)
  (hst:autoParam (vG (e::es) X.env=(false,wW e X.env)::vG es X.env) aR)(hpl:autoParam ((xI pos (vG es X.env)).any (·.1)=false) aR)
  (ht:autoParam (wW (.Call (.Attribute o m apos) (e::es) [] pos) X.env=(do
   let ov<-wW o X.env
   standAt apos.atName
   let (f,first)<-holding [ov] (eC ov m pl)
   callWith pos f first (xI pos (vG (e::es) X.env)) (dS pos (bQ [] X.env)))) aR):
  PE X (.Call (.Attribute o m apos) (e::es) [] pos) (jmx C m sp dvs E ta t):=by
 intro pins s σ H Q I h;refine bC (pl:=pl) (thn (he pins s σ H _ I h) fun u s1 h9=>?_) ht;obtain⟨x,H1,I1,rx,a,dx,fs,ex,ea,l,q⟩:=h9;subst ex;obtain rfl:u=uV a:=rx;refine qds I1 ea c hm l ?_;refine xJ (first:=[.ref a]) (h₀:=X.base) I.ok.mod.kin hm.kp (thn (ha pos pins s1 σ H1 _ I1 q) fun us s2 ⟨vs,H2,I2,r,q2⟩=>⟨I2.kIn,?_⟩) hst hpl;exact jg5 (us:=.ref a::us) (vs:=.ref a::vs) F hr hb hd hx I2 (.cons rfl r) q2
def jj2{pl:Sem Bool}(he:PE X o ta)(c:Cls X.K C)(hm:jav X.K C m f)(F:jac X.prog X.w X.K X.mg X.base CX k f fd ps sp)(hr:ja0 k X.A)(hb:qao X.K fd ps ds)(hd:qbl dvs ds)(hx:qg5 CX X E)
  (ht:autoParam (wW (.Call (.Attribute o m apos) [] [] pos) X.env=(do
   let ov<-wW o X.env
   standAt apos.atName
   let (f,first)<-holding [ov] (eC ov m pl)
   callWith pos f first (xI pos (vG [] X.env)) (dS pos (bQ [] X.env)))) aR):
  PE X (.Call (.Attribute o m apos) [] [] pos) (jmx C m sp dvs E ta jou):=by
 intro pins s σ H Q I h;refine bC (pl:=pl) (thn (he pins s σ H _ I h) fun u s1 h9=>?_) ht;obtain⟨x,H1,I1,rx,a,dx,fs,ex,ea,l,q⟩:=h9;subst ex;obtain rfl:u=uV a:=rx;refine qds I1 ea c hm l ?_;exact PySem.W.callWith_K0 (first:=[.ref a]) I1.kIn hm.kp (jg5 (us:=[.ref a]) (vs:=[.ref a]) F hr hb hd hx I1 (.cons rfl .nil) q)
structure Mk(K:uX)(C f:Addr):Prop where
 makes:PySem.W.makesIn K C=true
 init:wD K (.ref C) "__init__"=some (some (.ref f))
 fn:isFn K (.ref f)=true
 kp:bU K (.ref C)=true
def jj3{pins:List (Addr×Obj)}{σ:St}{H:Hp}{s:uC}{Q:VK}{us:List uB}{vs:List V}(M:Mk X.K C f)(F:jac X.prog X.w X.K X.mg X.base CX k f fd ps sp)(hr:ja0 (k+1) X.A)(hb:qao X.K fd ps ds)(hd:qbl dvs ds)
  (hx:qg5 CX X E)(I:Inv X pins σ H s)(r:qbl vs us)
  (h:∀x dx,H x=none->H dx=none->dx≠x->sp (.ref x ::(vs++dvs)) (upd (upd H dx (.own x)) x (.ins C dx [])) (fun v H2=>v=.non/\Q (.ref x) H2) E):
  vC (vF X.prog X.w) X.A (call (.ref C) us) (EP X pins σ Q) X.xe s:=by
 have hq:=h (↑s+1) ↑s (I.hok.fresh (bR _)) (I.hok.fresh (uF _)) (vL (bG _));have I2:=Inv.made (C:=C) I;have r2:qbl (V.ref (↑s+1) ::(vs++dvs)) (uV (↑s+1) ::(us++ds)):=.cons rfl (r.append hd);have hl:(uV (↑s+1)::us++ds).length=ps.length:=by
  have e:=r2.length;rw[F.len _ _ _ _ hq] at e;exact e.symm
 refine bH (jfd (f:=f) I.kIn M.makes M.init (beq_iff_eq.mp M.fn) (xP (F.run _ X.stack _ _ ⟨uV (↑s+1)::us,[]⟩ (uV (↑s+1) ::(us++ds)) _ _ E (hr.make C us [])
  (I2.env0.make C us []) (hb _ (uV (↑s+1)::us) I2.kIn hl) r2 hq) fun r s' hq'=>?_))
 cases r with
 |error e=>exact hx pins σ _ _ e s' I2 hq'
 |ok fl=>
  cases fl with
  |ret u=>
   obtain⟨v,H',I3,rv,ev,q3⟩:=I2.after hq';subst ev;exact⟨rv,⟨V.ref (↑s+1),H',I3,rfl,q3⟩⟩
  |next=>exact vW hq'
  |brk=>exact vW hq'
  |cont=>exact vW hq'
def jmy(M:Mk X.K C f)(F:jac X.prog X.w X.K X.mg X.base CX k f fd ps sp)(hr:ja0 (k+1) X.A)(hg:Gl X x)(hm:X.mg x=some (.ref C))(hb:qao X.K fd ps ds)(hd:qbl dvs ds)(hx:qg5 CX X E)
  (ha:PA X (e::es) t)(hdb:autoParam ((x==("__debug__":Str))=false) aD)(he:autoParam (vG (e::es) X.env=(false,wW e X.env)::vG es X.env) aR)(hpl:autoParam ((xI pos (vG es X.env)).any (·.1)=false) aR):
  PE X (.Call (.Name x p) (e::es) [] pos) (jpm C sp dvs E t):=by
 intro pins s σ H Q I h;refine xA (qe5 I hg hm ?_ hdb);refine xJ (h₀:=X.base) I.ok.mod.kin M.kp (thn (ha pos pins s σ H _ I h) fun us s1 ⟨vs,H1,I1,r,q⟩=>⟨I1.kIn,?_⟩) he hpl;exact jj3 M F hr hb hd hx I1 r q
end
section
variable{fd:uJ}{ps ks:List Str}
structure juy(K:uX)(fd:uJ)(ps ks:List Str)(g:List uB->List uB->List uB)(gV:List V->List V->List V):Prop where
 to:∀(s:uC)(us ws:List uB),K.In s.heap->(g us ws).length=ps.length->cY s fd ⟨us,ks.zip ws⟩ (ps.zip (g us ws))
 rel:∀{vs:List V} {us:List uB} {zs:List V} {ws:List uB},qbl vs us->qbl zs ws->qbl (gV vs zs) (g us ws)
end
structure jaa(N P:List Str)(sc:xL):Prop where
 kind:sc.kind=.function
 co:sc.isCoroutine=false
 gen:sc.isGenerator=false
 nd:N.Nodup
 pre:N.take P.length=P
 par:∀x∈P,sc.names.lookup x=some .local\/sc.names.lookup x=some .cell
 nofree:∀y∈sc.names,y.2≠ .free
theorem jcv{kindOf:Str->Option NameKind}{x:Str}:∀{binds:List (Str×uB)} {m:Str->Option uB},(∀v,(x,v)∉binds)->bindL kindOf binds m x=m x
 | [],_,_=>rfl
 |(n,v)::r,m,h=>by
  unfold bindL;rw[jcv fun w hw=>h w (zD _ hw)]
  split
  .have:x≠n:=by rintro rfl;exact h v zG
   simp[this]
  .rfl
theorem jcw{kindOf:Str->Option NameKind}{x:Str}:∀{binds:List (Str×uB)} {m:Str->Option uB},(∀v,(x,v)∉binds)->fK kindOf binds m x=m x
 | [],_,_=>rfl
 |(n,v)::r,m,h=>by
  unfold fK;rw[jcw fun w hw=>h w (zD _ hw)]
  split
  .rfl
  .have:x≠n:=by rintro rfl;exact h v zG
   simp[this]
theorem jcx{kindOf:Str->Option NameKind}{x:Str}{v:uB}:∀{P:List Str} {vs:List uB} {i:Nat} {m:Str->Option uB},P.Nodup->P[i]?=some x->vs[i]?=some v->kindOf x=some .local->
  bindL kindOf (P.zip vs) m x=some v
 | [],_,_,_,_,h,_,_=>by simp at h
 |_::_,[],_,_,_,_,h,_=>by simp at h
 |p::P,w::vs,0,m,nd,h1,h2,hk=>by
  simp at h1 h2;subst h1;subst h2;show bindL kindOf ((p,w)::P.zip vs) m p=_;unfold bindL;rw[jcv fun v hv=>(zZ.mp nd).1 (List.of_mem_zip hv).1,gL hk];simp
 |p::P,w::vs,i+1,m,nd,h1,h2,hk=>by
  show bindL kindOf ((p,w)::P.zip vs) m x=_;unfold bindL;exact jcx (i:=i) (zZ.mp nd).2 (by simpa using h1) (by simpa using h2) hk
theorem jcy{kindOf:Str->Option NameKind}{x:Str}{v:uB}:∀{P:List Str} {vs:List uB} {i:Nat} {m:Str->Option uB},P.Nodup->P[i]?=some x->vs[i]?=some v->kindOf x≠some .local->
  fK kindOf (P.zip vs) m x=some v
 | [],_,_,_,_,h,_,_=>by simp at h
 |_::_,[],_,_,_,_,h,_=>by simp at h
 |p::P,w::vs,0,m,nd,h1,h2,hk=>by
  simp at h1 h2;subst h1;subst h2;show fK kindOf ((p,w)::P.zip vs) m p=_;unfold fK;rw[jcw fun v hv=>(zZ.mp nd).1 (List.of_mem_zip hv).1,gK hk];simp
 |p::P,w::vs,i+1,m,nd,h1,h2,hk=>by
  show fK kindOf ((p,w)::P.zip vs) m x=_;unfold fK;exact jcy (i:=i) (zZ.mp nd).2 (by simpa using h1) (by simpa using h2) hk
noncomputable def start(N:List Str)(vs:List V):St:=vs.map some++wO (N.length-vs.length) none
noncomputable def cxOf(CX:CXT)(P:vA)(w:vN)(K:uX)(mg:Str->Option uB)(base:vU)(N:List Str)(qual:Str)(scope:xL)(f:Addr)(cd:uB)(A:vS)(outer:List Env)(s:uC)(H:Hp)(E:XK):Cx where
 prog:=P
 w:=w
 K:=K
 mg:=mg
 base:=base
 A:=A.deeper (aF qual scope ↑s f cd)
 N:=N
 s₀:=s
 H₀:=H
 env:=aF qual scope ↑s f cd
 outer:=outer
 stack:=aF qual scope ↑s f cd::outer
 ex:=[]
 calm:=true
 fn:=fun _=>true
 pn:=[]
 xe:=fun e s'=>vC (vF P w) (A.deeper (aF qual scope ↑s f cd)) (leaving (aF qual scope ↑s f cd) e) (fun _ s''=>CX outer H s E e s'') (fun e' s''=>CX outer H s E e' s'') s'
def jfe{sc:xL}{n:Nat}(h:sc.names.lookup x=some .cell):∃c,(eD n sc.names []).lookup x=some c:=by
 have q:=PySem.W.cellsFrom_some sc.names n [] (.inl h);exact cL.mp q
def jg7{CX:CXT}{P:vA}{w:vN}{K:uX}{mg:Str->Option uB}{base:vU}{N ps:List Str}{qual:Str}{scope:xL}{f:Addr}{cd:uB}{A:vS}{outer:List Env}{s s1:uC}{H:Hp}{E:XK}{us:List uB}{vs:List V}
  (S:jaa N ps scope)(hd:A.handled=none)(e0:jj1 P w K mg base A outer s H)(hl:vs.length=ps.length)(r:qbl vs us)
  (x:InCallC s ↑s (bindL (aF qual scope ↑s f cd).kindOf (ps.zip us) fun _=>none) (eD (↑s+1) scope.names []) (fK (aF qual scope ↑s f cd).kindOf (ps.zip us) fun _=>none) s1):
  Inv (cxOf CX P w K mg base N qual scope f cd A outer s H E) [] (start N vs) H s1:=by
 have hpl:ps.length<=N.length:=by have:=congrArg wG S.pre;rw[zS] at this;omega
 obtain⟨h1,tk,rfl,hk⟩:=x.done;have noA:∀b:Addr,b∉(cxOf CX P w K mg base N qual scope f cd A outer s H E).ex:=fun b z=>absurd (show b∈([]:List Addr) from z) (by simp);refine⟨⟨e0.mod,S.kind,rfl,rfl,uF _,fun y z c h1 h2=>?_,fun y hy=>?_,fun y c _ h=>?_,fun _=>hd,Around.frames_deeper e0.frames,.inr ⟨rfl,rfl⟩,fun b z=>absurd z (noA b),e0.bs,e0.bsz,fun b _ _=>noA b,fun b z=>absurd z (noA b),e0.funs,e0.frf⟩,
  rfl,e0.bare,Un.kept hk,⟨_,x.toInCall.ns,fun i y v h1 h2 h3=>?_⟩,fun y c h=>⟨_,x.cell y c h⟩,e0.hok.fresh (uF _),fun y c h=>?_,fun p hp=>absurd (show p∈([]:List (Addr×Obj)) from hp) (by simp),e0.hok.kept hk,?_⟩
 .exact name_of_addr x.apart (xT h1) (xT h2)
 .have hy:scope.names.lookup y=some .cell\/scope.names.lookup y=some .free:=hy;rcases hy with hy|hy
  .exact jfe hy
  .exact absurd rfl (S.nofree _ (xT hy))
 .exact xG (x.above y c (xT h))
 .have hi:i<vs.length:=by
   unfold start at h2;by_cases hi:i<vs.length
   .exact hi
   .rw[xK (by simpa using hi)] at h2;rw[List.getElem?_replicate] at h2
    split at h2<;>cases h2
  have ha:vs[i]?=some v:=by
   unfold start at h2;rw[xM (by simpa using hi),zC] at h2
   cases e:vs[i]? with
   |none=>rw[e] at h2;cases h2
   |some a=>rw[e] at h2;cases h2;rfl
  obtain⟨u,hu,rv⟩:=r.get ha;have hp:ps[i]?=some y:=by
   rw[<-S.pre,List.getElem?_take_of_lt ↑∅];exact h1
  have ndP:ps.Nodup:=by rw[<-S.pre];exact S.nd.sublist (fL _ _)
  refine⟨u,rv,?_⟩;rcases S.par y (zE hp) with k|k
  .exact .inl ⟨k,jcx ndP hp hu k⟩
  .obtain⟨c,e⟩:=jfe (n:=↑s+1) k;refine .inr ⟨.inl k,c,e,?_⟩;have q:=x.cell y c e;rw[jcy ndP hp hu (by show scope.names.lookup y≠_;rw[k];decide)] at q;exact q
 .exact e0.hok.fresh (xG (x.above y c (xT h)))
 .unfold start;show _=N.length;rw[zT,zB,yT];omega
def jmz{CX:CXT}{P:vA}{w:vN}{K:uX}{mg:Str->Option uB}{base:vU}{k:Nat}{f:Addr}{name qual:Str}{params:xN}{body:List Stmt}{scope:xL}{dV kV doc pm cdv ct oc:uB}{an od:Option Addr}
  {osl:Array (Option uB)}{N ps:List Str}{sp:Sp}(lk:K.lookup f=some ⟨oc,od,.func (eF name qual params body scope dV kV doc pm an cdv ct),osl⟩)(hcd:cV K cdv qual=true)(S:jaa N ps scope)
  (len:∀vs H Q E,sp vs H Q E->vs.length=ps.length)
  (hbody:∀(A:vS)(outer:List Env)(s:uC)(H:Hp)(vs:List V)(Q:VK)(E:XK),ja0 k (A.deeper (aF qual scope ↑s f cdv))->sp vs H Q E->
   ∃t,PSs (cxOf CX P w K mg base N qual scope f cdv A outer s H E) body t/\t {nx:=fun _ H'=>Q .non H',rt:=Q} (start N vs) H):
  jac P w K mg base CX (k+1) f (eF name qual params body scope dV kV doc pm an cdv ct) ps sp:=by
 refine⟨len,fun A outer s H args us vs Q E hr e0 hb r hsp=>?_⟩;have hl:=len _ _ _ _ hsp;have KX:K.In s.heap:=e0.mod.kin.keeps fun b o e=>(e0.bs b o e).1;have lim:s.heap.NoLimit:=e0.mod.nolimit.keeps fun b o e=>(e0.bs b o e).1;have hkind:∀y∈ps.zip us,scope.names.lookup y.1=some .local\/(scope.names.lookup y.1=some .cell/\((eD (↑s+1) scope.names []).lookup y.1).isSome=true):=fun⟨n,v⟩ hy=>by
  rcases S.par n (List.of_mem_zip hy).1 with q|q
  .exact .inl q
  .exact .inr ⟨q,PySem.W.cellsFrom_some _ _ _ (.inl q)⟩
 refine codeAny_call_function hr.depth (KX _ _ lk) rfl S.co S.gen rfl (PySem.W.codeRec_of KX hcd) (hb _ _ _ _ ?_);refine wpAny_newFunctionEnv_cells S.kind hkind fun env he s1 x=>?_;subst he;refine⟨lim.keeps x.toInCall.keep,codeAny_func ?_⟩;obtain⟨t,ht,hq⟩:=hbody A outer s H vs Q E (hr.deeper _) hsp;have I:Inv (cxOf CX P w K mg base N qual scope f cdv A outer s H E) [] (start N vs) H s1:=jg7 S hr.hd e0 hl r x;refine wK (ht [] s1 (start N vs) H _ I hq) (fun fl s' hs=>?_) fun e s' hs=>hs;have fin:∀{σ':St} {H':Hp} {v:V} {u:uB},Inv (cxOf CX P w K mg base N qual scope f cdv A outer s H E) [] σ' H' s'->qbg v u->Q v H'->CE outer P w H s Q u s':=
  fun {σ' H' v u} J rv q=>⟨v,H',J.os,J.bare,J.base,J.hok,rv,q⟩
 cases fl with
 |ret u=>
  obtain⟨v,σ',H',J,rv,q⟩:=hs;exact fin J rv q
 |next=>
  obtain⟨σ',H',J,q⟩:=hs;exact fin (v:=V.non) (u:=wN) J rfl q
 |brk=>
  obtain⟨_,_,_,q⟩:=hs;exact vW q
 |cont=>
  obtain⟨_,_,_,q⟩:=hs;exact vW q
section
variable{X:Cx}{x:Str}{p pos:Pos}{e:vZ}{es:List vZ}{t:TA}{id T:String}{r:List V->Hp->VK->Prop}
noncomputable def tCB(r:List V->Hp->VK->Prop)(t:TA):TE:=fun σ H Q=>t σ H fun vs H1=>r vs H1 Q
def qaj(hc:qcv X (.builtin id) r)(hg:Gl X x)(hm:X.mg x=none)(hv:aP x=some (.builtin id))(ha:PA X (e::es) t)(hn:autoParam (x≠"__name__") aD)(hdb:autoParam ((x==("__debug__":Str))=false) aD)
  (he:autoParam (vG (e::es) X.env=(false,wW e X.env)::vG es X.env) aR) (hpl:autoParam ((xI pos (vG es X.env)).any (·.1)=false) aR):PE X (.Call (.Name x p) (e::es) [] pos) (tCB r t):=by
 intro pins s σ H Q I h;refine xA (qgc I hg hm hv ?_ hn hdb);exact PyProof.Rows.callWith_builtin1 (thn (ha pos pins s σ H _ I h) fun us s1 ⟨vs,H1,I1,r1,q1⟩=>hc pins s1 σ H1 vs us Q I1 r1 q1) he hpl
def qbr(hc:qcv X (.type T) r)(hg:Gl X x)(hm:X.mg x=none)(hv:aP x=some (.type T))(ha:PA X (e::es) t)(hn:autoParam (x≠"__name__") aD)(hdb:autoParam ((x==("__debug__":Str))=false) aD)
  (he:autoParam (vG (e::es) X.env=(false,wW e X.env)::vG es X.env) aR) (hpl:autoParam ((xI pos (vG es X.env)).any (·.1)=false) aR):PE X (.Call (.Name x p) (e::es) [] pos) (tCB r t):=by
 intro pins s σ H Q I h;refine xA (qgc I hg hm hv ?_ hn hdb);exact yU (thn (ha pos pins s σ H _ I h) fun us s1 ⟨vs,H1,I1,r1,q1⟩=>hc pins s1 σ H1 vs us Q I1 r1 q1) he hpl
end
end L2
namespace HT
open PySem PyProof.Rows
section
noncomputable def sIx(n d:Nat):Option Int->Nat
 |none=>d
 |some v=>if v<0 then(v+(n:Int)).toNat else min v.toNat n
end
end HT
namespace L2
open PySem PySem.Spec PyProof.Rows
abbrev TO:=St->Hp->(Option Int->Hp->Prop)->Prop
def PO(X:Cx)(e:Option vZ)(t:TO):Prop:=
 ∀(pins:List (Addr×Obj))(s:uC)(σ:St)(H:Hp)(Q:Option Int->Hp->Prop),Inv X pins σ H s->t σ H Q->
  vC (vF X.prog X.w) X.A (evalPart e X.env) (fun u s'=>∃o H',Inv X pins σ H' s'/\IsPart u o/\Q o H') X.xe s
noncomputable def jpn(t:TE):TO:=fun σ H Q=>t σ H fun x H1=>∃i,x=.int i/\Q (some i) H1
section
variable{X:Cx}{e:vZ}{te:TE}{lo hi:Option vZ}{tl th:TO}{pos p2:Pos}
def jg8(h:PE X e te):PO X (some e) (jpn te):=by
 intro pins s σ H Q I hw;rw[evalPart_some];refine thn (h pins s σ H _ I hw) fun u s1 h9=>?_;obtain⟨x,H1,I1,r1,q1⟩:=h9;obtain⟨i,rfl,q⟩:=q1;obtain⟨t,rfl⟩:=r1;exact⟨some i,H1,I1,.int i t,q⟩
def SlR(X:Cx)(r:V->Option Int->Option Int->Hp->VK->Prop):Prop:=
 ∀(pins:List (Addr×Obj))(s:uC)(σ:St)(H:Hp)(x:V)(v vl vu:uB)(lo hi:Option Int)(sl:Addr)(Q:VK),Inv X pins σ H s->qbg x v->s.heap.IsSliceOf sl vl vu .none->IsPart vl lo->IsPart vu hi->r x lo hi H Q->
  ∃T id,typeLookup (.type T) "__getitem__"=pure (some (.builtin id))/\s.TypeIs v T/\vC (vF X.prog X.w) X.A (getItem v (.ref sl)) (EP X pins σ Q) X.xe s
noncomputable def tSl(r:V->Option Int->Option Int->Hp->VK->Prop)(te:TE)(tl th:TO):TE:=fun σ H Q=>te σ H fun x H1=>tl σ H1 fun l H2=>th σ H2 fun u H3=>r x l u H3 Q
def jj4{r:V->Option Int->Option Int->Hp->VK->Prop}(hr:SlR X r)(he:PE X e te)(hl:PO X lo tl)(hu:PO X hi th):PE X (.Subscript e (.Slice lo hi none p2) pos) (tSl r te tl th):=by
 intro pins s σ H Q I h;refine Subscript_ (thn (he pins s σ H _ I h) fun v s1 h9=>?_);obtain⟨x,H1,I1,r1,q1⟩:=h9;refine wpAny_Slice (thn (hl pins s1 σ H1 _ I1 q1) fun vl s2 ⟨l,H2,I2,pl,q2⟩=>thn (hu pins s2 σ H2 _ I2 q2) fun vu s3 h9=>?_);obtain⟨u,H3,I3,pu,q3⟩:=h9;rw[evalPart_none];refine vE ?_;have I4:Inv X pins σ H3 {s3 with heap:=s3.heap.push {cls:=.type "slice",data:=.fields #[vl,vu,.none]}}:=I3.kept (t':=s3.toks) fun b ob q=>uG _ q;obtain⟨T,id,hT,ht,hg⟩:=hr pins {s3 with heap:=s3.heap.push {cls:=.type "slice",data:=.fields #[vl,vu,.none]}} σ H3 x v vl vu l u ↑s3 Q I4 r1 (Heap.IsSliceOf.new ..) pl pu q3;show vC (vF X.prog X.w) X.A (subscriptTail e (.Slice lo hi none p2) v (.ref ↑s3)) (EP X pins σ Q) X.xe {s3 with heap:=s3.heap.push {cls:=.type "slice",data:=.fields #[vl,vu,.none]}};exact tail_any (ops:=[.ref ↑s3,v]) ht hT hg (by with_unfolding_all rfl)
noncomputable def jg9(xs:List V)(lo hi:Option Int):List V:=(xs.drop (HT.sIx xs.length 0 lo)).take (HT.sIx xs.length xs.length hi-HT.sIx xs.length 0 lo)
def qg1(xs:List V)(lo hi:Option Int):(jg9 xs lo hi).length<=xs.length:=by
 unfold jg9;rw[zS,List.length_drop];omega
end
noncomputable def ixN(n:Nat)(i:Int):Option Nat:=if 0<=i then(if i<n then some i.toNat else none) else if -(n:Int)<=i then some (i+n).toNat else none
noncomputable def atI{α:Type}(xs:List α)(i:Int):Option α:=(ixN xs.length i).bind fun j=>xs[j]?
def jm0{n:Nat}{i:Int}{j:Nat}(h:ixN n i=some j):seqIndex? i n=some j/\j<n/\-(n:Int)<=i/\i<n:=by
 unfold ixN at h;by_cases h0:0<=i
 .rw[gL h0] at h;by_cases h1:i<n
  .rw[gL h1] at h;have e:i.toNat=j:=uU h;exact⟨by rw[seqIndex_of h0 h1,e],↑∅,↑∅,h1⟩
  .rw[gK h1] at h;cases h
 .rw[gK h0] at h;by_cases h1: -(n:Int)<=i
  .rw[gL h1] at h;have e:(i+n).toNat=j:=uU h;exact⟨by rw[seqIndex_neg ↑∅ h1,e],↑∅,h1,↑∅⟩
  .rw[gK h1] at h;cases h
def jd3{α:Type}{xs:List α}{i:Int}{v:α}(h:atI xs i=some v):∃j,seqIndex? i xs.length=some j/\xs[j]?=some v/\j<xs.length/\-(xs.length:Int)<=i/\i<xs.length:=by
 unfold atI at h
 cases e:ixN xs.length i with
 |none=>rw[e] at h;cases h
 |some j=>
  rw[e] at h;obtain⟨h1,h2,h3,h4⟩:=jm0 e;exact⟨j,h1,h,h2,h3,h4⟩
def qbt{α:Type}{xs:List α}{j:Nat}{v:α}(h:xs[j]?=some v):atI xs (j:Int)=some v:=by
 have hj:j<xs.length:=(uL.mp h).1;have e:ixN xs.length (j:Int)=some j:=by
  unfold ixN;rw[gL ↑∅,gL ↑∅];simp
 unfold atI;rw[e];exact h
def jha(b:vZ):Prop:=∀o i,subscripted b false o i=operate [o,i] (getItem o i)
def IxR(X:Cx)(r:R2):Prop:=
 ∀(value slice:vZ)(pins:List (Addr×Obj))(s:uC)(σ:St)(H:Hp)(x y:V)(v u:uB)(Q:VK),Inv X pins σ H s->qbg x v->qbg y u->r x y H Q->
  subscripted slice false v u=operate [v,u] (getItem v u)->vC (vF X.prog X.w) X.A (subscriptTail value slice v u) (EP X pins σ Q) X.xe s
def MtR(X:Cx)(id:String)(r:V->List V->Hp->VK->Prop):Prop:=
 ∀(pins:List (Addr×Obj))(s:uC)(σ:St)(H:Hp)(x:V)(xs:List V)(v:uB)(us:List uB)(Q:VK),Inv X pins σ H s->qbg x v->qbl xs us->r x xs H Q->
  vC (vF X.prog X.w) X.A (call (.builtin id) (v::us)) (EP X pins σ Q) X.xe s
section
variable{X:Cx}{a b:vZ}{ta tb:TE}{pos:Pos}
def qam{r:R2}(hr:IxR X r)(ha:PE X a ta)(hb:PE X b tb)(hs:jha b):PE X (.Subscript a b pos) (tOp r ta tb):=by
 intro pins s σ H Q I h;exact Subscript_ (jsi ha hb I h fun v u s2 x y H2 I2 rx ry q=>hr a b pins s2 σ H2 x y v u Q I2 rx ry q (hs _ _))
noncomputable def jpo(K:uX):R2:=fun x y H Q=>∃p xs i v,x=.ref p/\y=.int i/\SqL K H p xs/\atI xs i=some v/\Q v H
noncomputable def juz(K:uX):R2:=fun x y H Q=>∃p xs i v,x=.ref p/\y=.int i/\SqT K H p xs/\atI xs i=some v/\Q v H
noncomputable def ju0:R2:=fun x y H Q=>∃z i c,x=.str z/\y=.int i/\z.length<=sizeLine/\atI z.cps.toList i=some c/\Q (.str ⟨#[c]⟩) H
def qax:IxR X (jpo X.K):=by
 intro value slice pins s σ H x y v u Q I rx ry h hs;obtain⟨p,xs,i,z,rfl,rfl,hq,he,q⟩:=h
 cases rx
 obtain⟨t,rfl⟩:=ry;obtain⟨its,r,pl,hz⟩:=I.list hq;obtain⟨j,h1,h2,h3,h4,h5⟩:=jd3 he;obtain⟨w,ew,rw'⟩:=r.get h2;have hl:=r.length;have hn:=jcu;have fin:EP X pins σ Q w s:=⟨z,H,I,rw',q⟩;by_cases h0:0<=i
 .have hj:i.toNat=j:=by
   rw[seqIndex_of h0 h5] at h1;exact uU h1
  exact item_listR pl.isList h0 ↑∅ (by rw[hj];simpa using ew) fin hs
 .have hj:(i+(its.toArray.size:Int)).toNat=j:=by
   rw[seqIndex_neg ↑∅ h4] at h1;rw[zL,<-hl];exact uU h1
  exact subscriptTail_builtinR (x:=w) pl.isList.typeIs slot_list_getitem.lookup
   (wpAny_getItem_list_neg (Q:=fun r s'=>r=w/\EP X pins σ Q r s') pl.isList ↑∅ (by rw[zL]<;>omega) ↑∅ (by rw[hj];simpa using ew) ⟨rfl,fin⟩) hs
def qak:IxR X (juz X.K):=by
 intro value slice pins s σ H x y v u Q I rx ry h hs;obtain⟨p,xs,i,z,rfl,rfl,hq,he,q⟩:=h
 cases rx
 obtain⟨t,rfl⟩:=ry;obtain⟨its,r,pl,hz⟩:=I.tuple hq;obtain⟨j,h1,h2,h3,h4,h5⟩:=jd3 he;obtain⟨w,ew,rw'⟩:=r.get h2;have hl:=r.length;have hn:=jcu;have fin:EP X pins σ Q w s:=⟨z,H,I,rw',q⟩;exact subscriptTail_builtinR (x:=w) pl.typeIs slot_tuple_getitem.lookup
  (getItem_tuple (j:=j) (Q:=fun r s'=>r=w/\EP X pins σ Q r s') pl ↑∅ ↑∅ (by rw[zL,<-hl];exact h1) (by simpa using ew) ⟨rfl,fin⟩) hs
def jlf:IxR X ju0:=by
 intro value slice pins s σ H x y v u Q I rx ry h hs;obtain⟨z,i,c,rfl,rfl,hz,he,q⟩:=h;obtain⟨t,rfl⟩:=rx;obtain⟨t',rfl⟩:=ry;obtain⟨j,h1,h2,h3,h4,h5⟩:=jd3 he;have hl:z.cps.toList.length=z.length:=by simp[Str.length]
 rw[hl] at h1 h4 h5;have hn:=jcu;exact tail_any (typeIs_str s z t) slot_str_getitem.lookup (getItem_str (c:=c) (by
  have e1:decide (i < -(2^63:Int))=false:=gO ↑∅;have e2:decide (i≥2^63)=false:=gO ↑∅;rw[e1,e2,Bool.or_false]) (by rw[h1];simpa using h2) ⟨.str ⟨#[c]⟩,H,I.tok _,⟨_,rfl⟩,q⟩) hs
def jcz(lo hi:Option Int)(n:Nat):(bS lo hi none n).1=((HT.sIx n 0 lo:Nat):Int)/\(bS lo hi none n).2.1=((HT.sIx n n hi:Nat):Int)/\(bS lo hi none n).2.2=1:=by
 refine⟨?_,?_,rfl⟩
 .cases lo with
  |none=>simp[bS,HT.sIx]
  |some i=>
   simp only[bS,HT.sIx,Option.getD_none,show(1:Int) > 0 by decide,if_true];by_cases h:i<0
   .simp only[h,if_true]<;>omega
   .simp only[h,if_false]<;>omega
 .cases hi with
  |none=>simp[bS,HT.sIx]
  |some i=>
   simp only[bS,HT.sIx,Option.getD_none,show(1:Int) > 0 by decide,if_true];by_cases h:i<0
   .simp only[h,if_true]<;>omega
   .simp only[h,if_false]<;>omega
def qgk(its:List uB)(lo hi:Option Int):slicePick its.toArray lo hi none=((its.drop (HT.sIx its.length 0 lo)).take (HT.sIx its.length its.length hi-HT.sIx its.length 0 lo)).toArray:=by
 obtain⟨h1,h2,h3⟩:=jcz lo hi its.toArray.size;unfold slicePick;rw[h1,h2,h3];simp only[sliceRange_one,pick_run,zL]<;>rfl
noncomputable def jvw(K:uX):V->Option Int->Option Int->Hp->VK->Prop:=fun x lo hi H Q=>∃a xs,x=.ref a/\SqL K H a xs/\∀p,H p=none->Q (.ref p) (upd H p (.lst (jg9 xs lo hi)))
def jm1:SlR X (jvw X.K):=by
 intro pins s σ H x v vl vu lo hi sl Q I rx hs pl pu h;obtain⟨a,xs,rfl,hx,q⟩:=h
 cases rx
 obtain⟨its,r,ht,hz⟩:=I.list hx;have hlen:=r.length;refine⟨"list",_,slot_list_getitem.lookup,ht.isList.typeIs,?_⟩;refine wpAny_getItem_list_slice ht.isList hs pl pu .none (by simp) ?_ (by rw[zL]<;>omega);rw[qgk,<-hlen];refine⟨.ref ↑s,_,I.laid (t':=s.toks) (o:=.lst (jg9 xs lo hi)) (fun b ob q=>uG _ q) (uF _) ?_,rfl,q _ (I.hok.fresh (uF _))⟩;exact⟨uY (qg1 xs lo hi) hz,_,0,(r.drop (HT.sIx xs.length 0 lo)).take (HT.sIx xs.length xs.length hi-HT.sIx xs.length 0 lo),vH _ rfl⟩
noncomputable def qdb:V->Bool
 | .non=>true
 | .bl _=>true
 | .int _=>true
 | .str _=>true
 |_=>false
noncomputable def eqV:V->V->Bool
 | .non,.non=>true
 | .bl a,.bl b=>a==b
 | .bl a,.int b=>(if a then 1 else 0)==b
 | .int a,.bl b=>a==(if b then 1 else 0)
 | .int a,.int b=>a==b
 | .str a,.str b=>a==b
 |_,_=>false
def jff{A:vS}{s:uC}{y x:V}{u v:uB}(ry:qbg y u)(rx:qbg x v)(fy:qdb y=true)(fx:qdb x=true):SeqAt.EqAt A s u v (eqV y x):=by
 cases y with
 |non=>
  cases ry
  cases x with
  |non=>cases rx;exact SeqAt.EqAt.same _
  |bl b=>cases rx;exact SeqAt.EqAt.none_bool b
  |int b=>obtain⟨t,rfl⟩:=rx;exact SeqAt.EqAt.none_int b t
  |str b=>obtain⟨t,rfl⟩:=rx;exact SeqAt.EqAt.none_str b t
  |_=>exact absurd (show false=true from fx) vB
 |bl a=>
  cases ry
  cases x with
  |non=>cases rx;exact SeqAt.EqAt.bool_none a
  |bl b=>cases rx;exact SeqAt.EqAt.bool_bool a b
  |int b=>obtain⟨t,rfl⟩:=rx;exact SeqAt.EqAt.bool_int a b t
  |str b=>obtain⟨t,rfl⟩:=rx;exact SeqAt.EqAt.bool_str a b t
  |_=>exact absurd (show false=true from fx) vB
 |int a=>
  obtain⟨t',rfl⟩:=ry
  cases x with
  |non=>cases rx;exact SeqAt.EqAt.int_none a t'
  |bl b=>cases rx;exact SeqAt.EqAt.int_bool a t' b
  |int b=>obtain⟨t,rfl⟩:=rx;exact SeqAt.EqAt.int_int a t' b t
  |str b=>obtain⟨t,rfl⟩:=rx;exact SeqAt.EqAt.int_str a t' b t
  |_=>exact absurd (show false=true from fx) vB
 |str a=>
  obtain⟨t',rfl⟩:=ry
  cases x with
  |non=>cases rx;exact SeqAt.EqAt.str_none a t'
  |bl b=>cases rx;exact SeqAt.EqAt.str_bool a t' b
  |int b=>obtain⟨t,rfl⟩:=rx;exact SeqAt.EqAt.str_int a t' b t
  |str b=>obtain⟨t,rfl⟩:=rx;exact SeqAt.EqAt.str_str a t' b t
  |_=>exact absurd (show false=true from fx) vB
 |_=>exact absurd (show false=true from fy) vB
noncomputable def eqU(x:V)(u:uB):Bool:=match u with
 | .none=>eqV .non x
 | .bool b=>eqV (.bl b) x
 | .int i _=>eqV (.int i) x
 | .str z _=>eqV (.str z) x
 |_=>false
def jlg{x y:V}{u:uB}(r:qbg y u)(f:qdb y=true):eqU x u=eqV y x:=by
 cases y with
 |non=>cases r;rfl
 |bl b=>cases r;rfl
 |int i=>obtain⟨t,rfl⟩:=r;rfl
 |str z=>obtain⟨t,rfl⟩:=r;rfl
 |_=>exact absurd (show false=true from f) vB
theorem qg4{x:V}:∀{xs:List V} {us:List uB},qbl xs us->xs.all qdb=true->us.any (eqU x)=xs.any fun y=>eqV y x
 |_,_,.nil,_=>rfl
 |y::xs,u::us,.cons r t,f=>by
  rw[yN,wC] at f;rw[yM,yM,jlg r f.1,qg4 t f.2]
theorem qeh{A:vS}{s:uC}{x:V}{v:uB}(rx:qbg x v)(fx:qdb x=true):∀{xs:List V} {us:List uB},qbl xs us->xs.all qdb=true->∀u∈us,SeqAt.EqAt A s u v (eqU x u)
 |_,_,.nil,_=>fun u hu=>by cases hu
 |y::xs,u::us,.cons r t,f=>fun u' hu=>by
  rw[yN,wC] at f;rcases zP.mp hu with rfl|hu
  .rw[jlg r f.1];exact jff r rx f.1 fx
  .exact qeh rx fx t f.2 u' hu
noncomputable def inV(x:V)(xs:List V):Bool:=xs.any fun y=>eqV y x
noncomputable def rIn(K:uX)(neg:Bool):R2:=fun x y H Q=>∃p xs,y=.ref p/\(SqL K H p xs\/SqT K H p xs)/\qdb x=true/\xs.all qdb=true/\Q (.bl (if neg then !inV x xs else inV x xs)) H
def jc0:OpR X (wJ .In) (rIn X.K false):=by
 intro pins s σ H x y v u Q I rx ry h;obtain⟨p,xs,rfl,hq,fx,fs,q⟩:=h
 cases ry
 rcases hq with hq|hq
 .obtain⟨its,r,pl,hz⟩:=I.list hq;refine SeqAt.in_listAt (eqU x) pl.isList (fun w hw=>qeh rx fx r fs w (by simpa using hw)) ⟨.bl _,H,I,rfl,?_⟩;rw[show its.toArray.any (eqU x)=its.any (eqU x) by simp,qg4 r fs];exact q
 .obtain⟨its,r,pl,hz⟩:=I.tuple hq;refine SeqAt.in_tupleAt (eqU x) pl (fun w hw=>qeh rx fx r fs w (by simpa using hw)) ⟨.bl _,H,I,rfl,?_⟩;rw[show its.toArray.any (eqU x)=its.any (eqU x) by simp,qg4 r fs];exact q
def qcx:OpR X (wJ .NotIn) (rIn X.K true):=by
 intro pins s σ H x y v u Q I rx ry h;obtain⟨p,xs,rfl,hq,fx,fs,q⟩:=h
 cases ry
 rcases hq with hq|hq
 .obtain⟨its,r,pl,hz⟩:=I.list hq;refine SeqAt.notIn_listAt (eqU x) pl.isList (fun w hw=>qeh rx fx r fs w (by simpa using hw)) ⟨.bl _,H,I,rfl,?_⟩;rw[show its.toArray.any (eqU x)=its.any (eqU x) by simp,qg4 r fs];exact q
 .obtain⟨its,r,pl,hz⟩:=I.tuple hq;refine SeqAt.notIn_tupleAt (eqU x) pl (fun w hw=>qeh rx fx r fs w (by simpa using hw)) ⟨.bl _,H,I,rfl,?_⟩;rw[show its.toArray.any (eqU x)=its.any (eqU x) by simp,qg4 r fs];exact q
def jc1:qcv X (.builtin "len") (fun xs H Q=>∃p ys,xs=[.ref p]/\(SqL X.K H p ys\/SqT X.K H p ys)/\Q (.int ys.length) H):=by
 intro pins s σ H xs us Q I r h;obtain⟨p,ys,rfl,hq,q⟩:=h;obtain⟨u,rfl,rx⟩:=jg1 r
 cases rx
 have hn:=jcu;rcases hq with hq|hq
 .obtain⟨its,r',pl,hz⟩:=I.list hq;have hlen:=r'.length;exact Calls.call_len_list pl.isList (by simp only[zL]<;>omega) ⟨.int ys.length,H,I.tok _,⟨s.toks+1,by rw[zL,hlen]⟩,q⟩
 .obtain⟨its,r',pl,hz⟩:=I.tuple hq;have hlen:=r'.length;exact len_tuple pl (by simp only[zL]<;>omega) ⟨.int ys.length,H,I.tok _,⟨s.toks+1,by rw[zL,hlen]⟩,q⟩
def jc2:qcv X (.builtin "len") (fun xs H Q=>∃z,xs=[.str z]/\z.length<=sizeLine/\Q (.int z.length) H):=by
 intro pins s σ H xs us Q I r h;obtain⟨z,rfl,hz,q⟩:=h;obtain⟨u,rfl,t,rfl⟩:=jg1 r;have hn:=jcu;exact len_str ↑∅ ⟨.int z.length,H,I.tok _,⟨_,rfl⟩,q⟩
def jc3:qcv X (.type "list") (fun xs H Q=>∃p ys,xs=[.ref p]/\(SqL X.K H p ys\/SqT X.K H p ys)/\∀l,H l=none->Q (.ref l) (upd H l (.lst ys))):=by
 intro pins s σ H xs us Q I r h;obtain⟨p,ys,rfl,hq,q⟩:=h;obtain⟨u,rfl,rx⟩:=jg1 r
 cases rx
 have fin:∀(its:List uB),qbl ys its->ys.length<=sizeLine->∀(h':vU)(c':Nat),(∀b o',s.heap.get? b=some o'->h'.get? b=some o')->
   h'.get? ↑s=some {cls:=.type "list",dict:=none,data:=.seq its.toArray c',slots:=#[]}->EP X pins σ Q (.ref ↑s) {s with heap:=h'}:=fun its r' hz h' c' kp e=>
  ⟨.ref ↑s,_,I.laid (t':=s.toks) kp (uF _) (show qbw X.prog X.w _ h' _ (.lst ys) from⟨hz,its,c',r',e⟩),rfl,q _ (I.hok.fresh (uF _))⟩
 rcases hq with hq|hq
 .obtain⟨its,r',pl,hz⟩:=I.list hq;have hlen:=r'.length;obtain⟨o,ho,hc,n,hd⟩:=pl.isList;exact call_list_seq p (.inl rfl) ho hc hd (fun h' c' kp e=>fin its r' hz h' c' kp e) (by simp only[zL]<;>omega)
 .obtain⟨its,r',pl,hz⟩:=I.tuple hq;have hlen:=r'.length;obtain⟨o,ho,hc,n,hd⟩:=pl;exact call_list_seq p (.inr rfl) ho hc hd (fun h' c' kp e=>fin its r' hz h' c' kp e) (by simp only[zL]<;>omega)
def tyV(K:uX)(T:String)(x:V)(H:Hp):Prop:=match x with
 | .str _=>T= "str"
 | .int _=>T= "int"
 | .ref p=>(T= "list"/\∃xs,SqL K H p xs)\/(T= "tuple"/\∃o,K.lookup p=some o/\o.cls=.type "tuple"/\o.dict=none)\/
   (T= "dict"/\((∃kvs,H p=some (.dK kvs))\/∃kvs,H p=some (.dT kvs)))\/(T= "set"/\∃S n,H p=some (.set S n))
 |_=>False
def jlh{pins:List (Addr×Obj)}{σ:St}{H:Hp}{s:uC}{T:String}{x:V}{v:uB}(I:Inv X pins σ H s)(r:qbg x v)(ty:tyV X.K T x H):
  s.TypeIs v T/\∀a,v=.ref a->∃ob,s.heap.get? a=some ob/\ob.dict=none:=by
 cases x with
 |str z=>
  obtain⟨t,rfl⟩:=r
  cases(show T= "str" from ty)
  exact⟨typeIs_str s z t,fun _ e=>nomatch e⟩
 |int i=>
  obtain⟨t,rfl⟩:=r
  cases(show T= "int" from ty)
  exact⟨typeIs_int s i t,fun _ e=>nomatch e⟩
 |ref p=>
  cases r
  rcases ty with⟨rfl,xs,hq⟩|⟨rfl,o,hk,hc,hd⟩|⟨rfl,hk⟩|⟨rfl,S,n,hk⟩
  .obtain⟨its,_,pl,_⟩:=I.list hq;refine⟨pl.isList.typeIs,fun a e=>?_⟩
   cases e
   obtain⟨o,n,e,c,hd,_⟩:=pl;exact⟨o,e,hd⟩
  .refine⟨⟨o,I.kIn p o hk,hc⟩,fun a e=>?_⟩
   cases e
   exact⟨o,I.kIn _ o hk,hd⟩
  .have z:∃o,s.heap.get? p=some o/\o.ExactDict:=by
    rcases hk with⟨kvs,hk⟩|⟨kvs,hk⟩
    .obtain⟨_,_,_,_,o,_,_,e,ex,_⟩:=I.hok p _ hk;exact⟨o,e,ex⟩
    .obtain⟨_,_,_,_,o,_,_,e,ex,_⟩:=I.hok p _ hk;exact⟨o,e,ex⟩
   obtain⟨o,e,ex⟩:=z;refine⟨⟨o,e,ex.1⟩,fun a e2=>?_⟩
   cases e2
   exact⟨o,e,ex.2.1⟩
  .obtain⟨o,_,_,_,e,ex,_⟩:=I.hok p _ hk;refine⟨⟨o,e,ex.1⟩,fun a e2=>?_⟩
   cases e2
   exact⟨o,e,ex.2.1⟩
 |_=>exact vW ty
noncomputable def ju1(K:uX)(T:String)(r:V->List V->Hp->VK->Prop)(to:TE):TE:=fun σ H Q=>to σ H fun x H1=>tyV K T x H1/\r x [] H1 Q
noncomputable def tBM(K:uX)(T:String)(r:V->List V->Hp->VK->Prop)(to:TE)(t:TA):TE:=fun σ H Q=>to σ H fun x H1=>tyV K T x H1/\t σ H1 fun xs H2=>r x xs H2 Q
variable{o e:vZ}{es:List vZ}{to:TE}{t:TA}{name:Str}{apos cpos:Pos}{T id:String}{r:V->List V->Hp->VK->Prop}
def jpp(pa:PlainAttrs T)(slot:Slot T name id)(hty:typeOf (.builtin id)=pure (.type "method_descriptor"))(hm:MtR X id r)(ho:PE X o to)
  (hbase:autoParam (bN o name X.env (wW o X.env)=wW o X.env) aR)(hline:autoParam ((apos.endLine==cpos.line)=true) aR):PE X (.Call (.Attribute o name apos) [] [] cpos) (ju1 X.K T r to):=by
 intro pins s σ H Q I h;refine wpAny_Call_method0_late hbase hline (thn (ho pins s σ H _ I h) fun v s1 h9=>?_);obtain⟨x,H1,I1,r1,ty,q1⟩:=h9;obtain⟨h1,h2⟩:=jlh I1 r1 ty;exact⟨T,id,pa,slot,hty,h1,h2,cZ rfl (PySem.evalArgs_none (hm pins s1 σ H1 x [] v [] Q I1 r1 .nil q1))⟩
def qf2(pa:PlainAttrs T)(slot:Slot T name id)(hty:typeOf (.builtin id)=pure (.type "method_descriptor"))(hm:MtR X id r)(ho:PE X o to)(ha:PA X (e::es) t)
  (hbase:autoParam (bN o name X.env (wW o X.env)=wW o X.env) aR)
  (hfew:autoParam (((xI cpos (vG (e::es) X.env)).all (fun x=>!x.1) && (dS cpos (bQ [] X.env)).all (fun x=>x.1.isSome)
   && decide ((e::es).length+([]:List Keyword).length+(if([]:List Keyword).isEmpty then 0 else 1)<30))=true) aR)
  (hline:autoParam ((apos.endLine==cpos.line)=true) aR) (hs:autoParam (vG (e::es) X.env=(false,wW e X.env)::vG es X.env) aR) (hplain:autoParam ((xI cpos (vG es X.env)).any (·.1)=false) aR):
  PE X (.Call (.Attribute o name apos) (e::es) [] cpos) (tBM X.K T r to t):=by
 intro pins s σ H Q I h;refine wpAny_Call_method_late hbase hfew hline rfl (thn (ho pins s σ H _ I h) fun v s1 h9=>?_);obtain⟨x,H1,I1,r1,ty,q1⟩:=h9;obtain⟨h1,h2⟩:=jlh I1 r1 ty;refine⟨T,id,pa,slot,hty,h1,h2,?_⟩;have hA:=ha cpos pins s1 σ H1 _ I1 q1;rw[hs] at hA⊢;refine cZ (by show(false ||(xI cpos (vG es X.env)).any (·.1))=false;rw[hplain]<;>rfl) (dU ?_);exact thn hA fun us s2 ⟨vs,H2,I2,r2,q2⟩=>hm pins s2 σ H2 x vs v us Q I2 r1 r2 q2
end
def MtM(X:Cx)(id:String)(r:V->List V->Hp->VK->Prop):Prop:=
 ∀(pins:List (Addr×Obj))(s:uC)(σ:St)(H:Hp)(x:V)(xs:List V)(v:uB)(us:List uB)(Q:VK),Inv X pins σ H s->qbg x v->qbl xs us->r x xs H Q->
  vC (vF X.prog X.w) X.A (call (.builtin id) (v::us)) (EP X pins σ Q) X.xe s
def qbl.one:∀{x:V} {us:List uB},qbl [x] us->∃u,us=[u]/\qbg x u
 |_,_,.cons r .nil=>⟨_,rfl,r⟩
def qbl.zero:∀{us:List uB},qbl [] us->us=[]
 |_,.nil=>rfl
section
variable{X:Cx}{pins:List (Addr×Obj)}{σ:St}{H:Hp}{s:uC}{l:Addr}{xs ys:List V}
def Inv.lset{its its':List uB}{n:Nat}{f:Array uB->Array uB}{t':Nat}(I:Inv X pins σ H s)(hH:H l=some (.lst xs))
  (e:s.heap.get? l=some {cls:=.type "list",data:=.seq its.toArray n})(hf:f its.toArray=its'.toArray)(hv:qbl ys its')(hz:ys.length<=sizeLine):
  Inv X pins σ (upd H l (.lst ys)) {s with heap:=s.heap.update l (Obj.mapSeq f),toks:=t'}:=by
 have q:=PySem.IsL.update e f;rw[hf] at q;refine I.write (x:=l) (e:=l) (by rw[hH];exact trivial) (.inl rfl) (fun b' u hb hu=>(xH s.heap (Obj.mapSeq f) (xS hb)).trans hu) ⟨_,q⟩ ?_;exact⟨hz,its',_,hv,q⟩
def Inv.lnew{its:List uB}{t':Nat}(I:Inv X pins σ H s)(hv:qbl ys its)(hz:ys.length<=sizeLine):
  Inv X pins σ (upd H ↑s (.lst ys)) {s with heap:=s.heap.push {cls:=.type "list",data:=.seq its.toArray},toks:=t'}:=
 I.laid (fun _ _ q=>uG _ q) (uF _) ⟨hz,its,0,hv,vH _ rfl⟩
theorem Inv.fresh(I:Inv X pins σ H s):H ↑s=none:=I.hok.fresh (uF _)
def Inv.lstM(I:Inv X pins σ H s)(hH:H l=some (.lst xs)):xs.length<=sizeLine/\∃(its:List uB)(n:Nat),qbl xs its/\xs.length=its.length/\s.heap.get? l=some {cls:=.type "list",data:=.seq its.toArray n}:=by
 obtain⟨z,its,n,r,e⟩:=I.hok l _ hH;exact⟨z,its,n,r,r.length,e⟩
def jj5{n:Nat}(h:n<=sizeLine):cM n=false:=by
 unfold cM;exact gO ↑∅
end
section
variable{X:Cx}
noncomputable def jhb:V->List V->Hp->VK->Prop:=fun x vs H Q=>∃l xs y,x=.ref l/\vs=[y]/\H l=some (.lst xs)/\xs.length<sizeLine/\Q .non (upd H l (.lst (xs++[y])))
def qcf:MtM X "list.append" jhb:=by
 intro pins s σ H x vs v us Q I rx rv h;obtain⟨l,xs,y,rfl,rfl,hH,hz,q⟩:=h
 cases rx
 obtain⟨u,rfl,ru⟩:=rv.one;obtain⟨z,its,n,r,hl,e⟩:=I.lstM hH;refine call_meets F.slot_list_append ⟨_,e,rfl⟩ F.entry_list_append (F.args_list_append_2 _ _) (PySem.list_append l its.toArray n u (by rw[zL];omega)) ⟨e,?_⟩;refine⟨.non,_,I.lset (its':=its++[u]) hH e (by simp) (r.append (.cons ru .nil)) ?_,rfl,q⟩;rw[zT,yD];omega
noncomputable def jhc:V->List V->Hp->VK->Prop:=fun x vs H Q=>∃l b xs zs,x=.ref l/\vs=[.ref b]/\H l=some (.lst xs)/\H b=some (.lst zs)/\xs.length+zs.length<=sizeLine/\Q .non (upd H l (.lst (xs++zs)))
def jhd:MtM X "list.extend" jhc:=by
 intro pins s σ H x vs v us Q I rx rv h;obtain⟨l,b,xs,zs,rfl,rfl,hH,hB,hz,q⟩:=h
 cases rx
 obtain⟨u,rfl,ru⟩:=rv.one
 cases ru
 obtain⟨z,its,n,r,hl,e⟩:=I.lstM hH;obtain⟨z2,its2,n2,r2,hl2,e2⟩:=I.lstM hB;have hsz:its.toArray.size+its2.toArray.size<=sizeLine:=by rw[zL,zL];omega
 have hlong:¬(!its.toArray.isEmpty && cM (its.toArray.size+its2.toArray.size))=true:=by
  rw[jj5 hsz,yZ];exact vB
 refine call_meets F.slot_list_extend ⟨_,e,rfl⟩ F.entry_list_extend (F.args_list_extend_2 _ _)
  (AutoSeq1.list_extend_list_list_0 l its.toArray n b its2.toArray n2 hlong (by rw[zL];omega) ↑∅) ⟨e,e2,?_⟩
 refine⟨.non,_,I.lset (its':=its++its2) hH e (by simp) (r.append r2) ?_,rfl,q⟩;rw[zT];omega
noncomputable def ju2:R2:=fun x y H Q=>∃l b xs zs,x=.ref l/\y=.ref b/\H l=some (.lst xs)/\H b=some (.lst zs)/\xs.length+zs.length<=sizeLine/\∀p,H p=none->Q (.ref p) (upd H p (.lst (xs++zs)))
def jli:OpR X (yX .Add) ju2:=by
 intro pins s σ H x y v u Q I rx ry h;obtain⟨l,b,xs,zs,rfl,rfl,hH,hB,hz,q⟩:=h
 cases rx
 cases ry
 obtain⟨z,its,n,r,hl,e⟩:=I.lstM hH;obtain⟨z2,its2,n2,r2,hl2,e2⟩:=I.lstM hB;refine PySem.P.add_list e e2 ?_ (by rw[zL,zL];omega);have ea:its.toArray++its2.toArray=(its++its2).toArray:=by simp
 rw[ea];exact⟨.ref _,_,I.lnew (t':=s.toks) (r.append r2) (by rw[zT];omega),rfl,q _ I.fresh⟩
end
end L2
namespace Att
open PySem PySem.W PySem.Calls PyProof.Rows
def qfv{P:Params}{h:vU}:∀(ns:List Int)(vs:List uB),WellAll P h vs (ns.map WData.int)->IntsAre vs ns:=by
 intro ns
 induction ns with
 |nil=>
  intro vs w;rw[fM] at w
  cases w
  exact .nil
 |cons n ns ih=>
  intro vs w;rw[zV] at w
  cases w with
  |cons a b=>
   cases a
   exact .cons _ _ (ih _ b)
def jhe{l:OpenLaw}{n:Nat}(hn:l.most=some n){P:Params}{h:vU}{args:List WData}{vals:List uB}
  (hpre:l.row.toRowW.claim.pre args=true)(hwl:WellAll P h vals args):
  ∃a vs ns,vals=[uV a]/\args=[WData.list (ns.map WData.int)]/\h.get? a=some {cls:=.type "list",data:=.seq vs.toArray}/\IntsAre vs ns/\ns.length<=n:=by
 have hsh:WShape.hasAll [] args [.list .int]=true:=(pre_splitW hpre).1;have hc:l.pre.holds [] {args:=args}=true:=(pre_splitW hpre).2;obtain⟨d,r,rfl,h1,h2⟩:=hasAllW_cons hsh;obtain rfl:=hasAllW_nil h2;obtain⟨xs,rfl,h3⟩:=hasW_list h1;obtain⟨ns,rfl⟩:=items_int h3;have hlen:ns.length<=n:=by
  unfold OpenLaw.pre at hc;have h4:(WTm.not (.lt (.lit (.int (n:Int))) (.len (.arg 0)))).holds [] {args:=[.list (ns.map .int)]}=true:=by
   have h4:=(holds_andW hc).1;rw[hn] at h4;exact h4
  have h5:=condW_of h4 (w_not (w_lt w_lit (w_len_list (w_arg rfl))));rw[zB] at h5;refine Nat.le_of_not_lt fun q=>?_;have q':(n:Int) <((ns.length:Nat):Int):=by omega
  first
   |(rw[gM q'] at h5;exact absurd h5 ∅)
   |(simp at h5;omega)
 cases hwl with
 |cons w1 w2=>
  cases w2
  cases w1 with
  |list ho hall=>exact⟨_,_,ns,rfl,rfl,ho,qfv ns _ hall,hlen⟩
def jhf(l:OpenLaw)(args:List WData):l.row.toRowW.claim.post args (.bool true) args=true:=
 postW_of (r:=l.row.toRowW) (X:=(true==true))
  (show WShape.has [] (.bool true) .bool=true by first|rfl|decide|simp[WShape.has,WShape.arms,WShape.armsAll])
  (show(WTm.eq .res (.lit (.bool true))).value [] {args:=args,res:=some (.bool true),after:=args}=some (.bool (true==true)) from w_eq_bool (w_res rfl) w_lit) rfl
def attach_call{l:OpenLaw}{n:Nat}{q:vA}{loose:List Str}{XP:(Str->Option uB)->vU->Prop}{YP:vN->vU->Prop}{d:DefRec}
  (hn:l.most=some n)(hdf:d.params.defaults=[])
  (call:∀(w:vN)(s₀ s₁:uC)(mg mb:Str->Option uB)(fa:Addr)(o:Obj)(pm cd doc:uB)(a:Addr)(vs:List uB)(ns:List Int),
   Ground q loose [] XP w s₀ mg mb s₁.heap->YP w s₁.heap->
   s₁.heap.get? fa=some o->o.data=.func (docDef d.name d.params d.body d.scope pm cd doc)->s₁.heap.CodeRec cd d.name->mg d.name=some (.ref fa)->
   s₁.heap.get? a=some {cls:=.type "list",data:=.seq vs.toArray}->IntsAre vs ns->ns.length<=n->s₁.gens= #[]->
   bM (vF l.prog w) fN (.call (.ref fa) ⟨[.ref a],[]⟩) (fun r s'=>r=.ok (.ret (.bool true))/\OldK s₁.heap s'.heap/\s'.os=s₁.os/\cE s'.gens) s₁):
  WalkO q loose XP YP l.row.toRowW d [] (fun f vs=>PySem.call f vs):=by
 intro w s₀ s₁ mg mb G Y fa o pm cd doc dV kV ho hd hcd hD hmg hg args vals as hpre hlay hrd hwl hlo;obtain rfl:dV=.none:=Dflts.none hD hdf;obtain rfl:kV=.none:=Dflts.noKw hD;obtain⟨a,vs,ns,rfl,rfl,hobj,hints,hlen⟩:=jhe hn hpre hwl;refine enter_call (xP (call w s₀ s₁ mg mb fa o pm cd doc a vs ns G Y ho (fd_plain hd) hcd hmg hobj hints hlen hg) fun r s' hq=>?_);obtain⟨rfl,h2,h3,h4⟩:=hq;exact⟨.inl ⟨.bool true,.bool true,[],rfl,fun _=>rfl,.bool true,jhf l _,fun _=>⟨fO,fun _ hm=>(nomatch hm)⟩⟩,h2,h3,h4⟩
end Att
namespace L2
open PySem PySem.Spec PyProof.Rows
theorem jc4:∀{vs:List uB} {ns:List Int},IntsAre vs ns->qbl (ns.map V.int) vs
 |_,_,.nil=> .nil
 |_,_,.cons n t h=> .cons ⟨t,rfl⟩ (jc4 h)
noncomputable def qbo(s:Stmt):xN:=match s with
 | .FunctionDef _ a _ _ _ _ _ _ _ _=>a
 |_=>{posonlyargs:=[],args:=[],vararg:=none,kwonlyargs:=[],kw_defaults:=[],kwarg:=none,defaults:=[]}
noncomputable def qbv(s:Stmt):List Stmt:=match s with
 | .FunctionDef _ _ b _ _ _ _ _ _ _=>b
 |_=> []
noncomputable def qa8(s:Stmt):xL:=match s with
 | .FunctionDef _ _ _ _ _ _ sc _ _ _=>sc
 |_=>{kind:=.function,names:=[],isGenerator:=false,isCoroutine:=false}
abbrev CX0:CXT:=fun _ _ _ _ _ _=>False
abbrev E0:XK:=fun _ _ _=>False
def qas{X:Cx}:qg5 CX0 X E0:=fun _ _ _ _ _ _ _ h=>h.elim
structure Fun(K:uX)(x qual:Str)(st:Stmt)(f:Addr)(fd:uJ):Prop where
 ex:∃(oc:uB)(od:Option Addr)(kV doc pm:uB)(an:Option Addr)(cdv ct:uB)(osl:Array (Option uB)),
  fd=eF x qual (qbo st) (qbv st) (qa8 st) .none kV doc pm an cdv ct/\K.lookup f=some ⟨oc,od,.func fd,osl⟩/\cV K cdv qual=true
 kp:bU K (.ref f)=true
section
variable{P:vA}{w:vN}{K:uX}{mg:Str->Option uB}{base:vU}
def Fun.ok{x qual:Str}{st:Stmt}{f:Addr}{fd:uJ}{N ps:List Str}{k:Nat}{sp:Sp}(F:Fun K x qual st f fd)(S:jaa N ps (qa8 st))(len:∀vs H Q E,sp vs H Q E->vs.length=ps.length)
  (hbody:∀(cdv:uB)(A:vS)(outer:List Env)(s:uC)(H:Hp)(vs:List V)(Q:VK)(E:XK),ja0 k (A.deeper (aF qual (qa8 st) ↑s f cdv))->sp vs H Q E->
   ∃t,PSs (cxOf CX0 P w K mg base N qual (qa8 st) f cdv A outer s H E).nox (qbv st) t/\t {nx:=fun _ H'=>Q .non H',rt:=Q} (start N vs) H):jac P w K mg base CX0 (k+1) f fd ps sp:=by
 obtain⟨oc,od,kV,doc,pm,an,cdv,ct,osl,rfl,lk,hcd⟩:=F.ex;refine jmz lk hcd S len fun A outer s H vs Q E hr hsp=>?_;obtain⟨t,h,q⟩:=hbody cdv A outer s H vs Q E hr hsp;exact⟨t,h.nox,q⟩
def Fun.binds{x qual:Str}{st:Stmt}{f:Addr}{fd:uJ}{ps:List Str}(F:Fun K x qual st f fd)
  (h:∀(kV doc pm:uB)(an:Option Addr)(cdv ct:uB)(us:List uB),us.length=ps.length->bindArgs (eF x qual (qbo st) (qbv st) (qa8 st) .none kV doc pm an cdv ct) ⟨us,[]⟩=pure (ps.zip us)):qao K fd ps []:=by
 obtain⟨oc,od,kV,doc,pm,an,cdv,ct,osl,rfl,lk,hcd⟩:=F.ex;exact .all (h kV doc pm an cdv ct)
def fun_mk{x qual:Str}{st:Stmt}{f:Addr}{oc:uB}{od an:Option Addr}{osl:Array (Option uB)}{kV doc pm cdv ct:uB}(l:K.lookup f=some ⟨oc,od,.func (eF x qual (qbo st) (qbv st) (qa8 st) .none kV doc pm an cdv ct),osl⟩)
  (c:cV K cdv qual=true)(k:bU K (.ref f)=true):Fun K x qual st f (eF x qual (qbo st) (qbv st) (qa8 st) .none kV doc pm an cdv ct):=⟨⟨oc,od,kV,doc,pm,an,cdv,ct,osl,rfl,l,c⟩,k⟩
end
def qap{A:vS}{k:Nat}(hr:ja0 k A):A.units+1<cLine:=uO (Nat.add_le_add_left (by decide:1<=64) _) hr.units
section
variable{X:Cx}
def pv(i:Nat){x:Str}{pos:Pos}(hN:autoParam (X.N[i]?=some x) aR)(hv:Vis X.env.scope x:=by first|exact uD rfl|exact eZ (uD rfl) |exact eZ (eZ rfl))(hd:autoParam ((x==("__debug__":Str))=false) aD)
  (hcd:autoParam ((x==("__classdict__":Str))=false) aD):PE X (.Name x pos) (jsf i):=je9 hN hv hd hcd
end
def jsk{A B:Prop}(h:B):if false=true then A else B:=by
 rw[gK vB];exact h
def jr9{A B:Prop}(h:A):if true=true then A else B:=by
 rw[gL rfl];exact h
def jab(H H':Hp):Prop:=∀b o,H b=some o->H' b=some o
def jab.refl(H:Hp):jab H H:=fun _ _ h=>h
def jab.trans{H H1 H2:Hp}(a:jab H H1)(b:jab H1 H2):jab H H2:=fun c o h=>b c o (a c o h)
def jab.free{H H':Hp}(e:jab H H'){l:Addr}(h:H' l=Option.none):H l=Option.none:=by
 cases q:H l with
 |none=>rfl
 |some o=>
  rw[e l o q] at h
  cases h
def jab.seq{K:uX}{H H':Hp}{a:Addr}{xs:List V}(e:jab H H')(h:SqL K H a xs):SqL K H' a xs:=by
 rcases h with (h|⟨o,h⟩) |h
 .exact .inl (.inl (e _ _ h))
 .exact .inl (.inr ⟨o,e _ _ h⟩)
 .exact .inr h
end L2
namespace My
open PySem PySem.Spec PyProof.Rows L2
section
variable{X:Cx}
def jhg{k:Int}(h:k.natAbs<2^600):Builtin.Int.intBits k<=2^20:=
 uY (PyProof.Rows.intBits_le (k:=600) h) ∅
def jvx(i j:Int):Prop:=i.natAbs<2^600/\j.natAbs<2^600
def qb3:OpR X (yX .Mult) (rI jvx fun i j=> .int (i*j)):=opI fun _ _ _ _ _ _ _ hc q=>mul_int q (IntMulOk.of_bits (jhg hc.1) (jhg hc.2))
def jsl(i j:Int):Prop:=j≠0/\j.natAbs<2^600
def noPy{x y:Int}(h:y.natAbs<2^600):Builtin.divisionGoesByPylong x y=false:=by
 refine PyProof.noPylong_of_log2 ?_;by_cases h0:y.natAbs=0
 .rw[h0];decide+kernel
 .have h30:y.natAbs.log2<600:=(Nat.log2_lt h0).mpr h;omega
def qbe:OpR X (yX .FloorDiv) (rI jsl fun i j=> .int (i.fdiv j)):=opI fun _ _ _ _ _ _ _ hc q=>floordiv_int hc.1 q (.inl (noPy hc.2))
end
def qa4{H:Hp}{p:Addr}(h:H p=none)(o:HO):jab H (upd H p o):=fun b u q=>by rw[qa7 (qa9 q h)];exact q
noncomputable def cell(ns:List Int)(k:Int):Int:=(ns[k.toNat]?).getD 0
def jm2{ns:List Int}{k:Int}(h0:0<=k)(h:k <(ns.length:Int)):atI (ns.map V.int) k=some (.int (cell ns k)):=by
 have hk:k.toNat<ns.length:=by omega
 have ek:k=((k.toNat:Nat):Int):=by omega
 have q:atI (ns.map V.int) ((k.toNat:Nat):Int)=some (.int ns[k.toNat]):=qbt (by rw[zC,zA hk]<;>rfl);rw[<-ek] at q;rw[q];unfold cell;rw[zA hk];rfl
def jj6{ns:List Int}{k:Int}(h:¬k <(ns.length:Int))(h0:0<=k):cell ns k=0:=by
 unfold cell;rw[dM ↑∅];rfl
end My
set_option maxHeartbeats 1000000
namespace My
open PySem PySem.Spec PyProof.Rows L2
variable{a p:Addr}{o:HO}{C:uB}{d:Option Addr}{W:L2.St->XK}{X:Cx}{xs:List V}{A c B:Prop}{R:It->Hp->Prop}{H:Hp}
section
variable{X:Cx}{pins:List (Addr×Obj)}{σ:L2.St}{H:Hp}{s:uC}{h':vU}
structure Rec(X:Cx)(pins:List (Addr×Obj))(H:Hp)(h:vU)(b:Addr):Prop where
 nw:X.s₀.heap.get? b=none
 un:H b=none
 pin:∀p∈X.pn++pins,p.1≠b
 ob:∃o vs,h.get? b=some o/\o.data=.fields vs
theorem Rec.loc(I:Inv X pins σ H s){b:Addr}(r:Rec X pins H s.heap b):b≠X.env.locals:=fun z=>by
 obtain⟨o,vs,e,d⟩:=r.ob;obtain⟨m,⟨o',es,ep,e',d',_⟩,_⟩:=I.loc;rw[z,e'] at e;cases e;rw[d'] at d;cases d
def Rec.cel(I:Inv X pins σ H s){b:Addr}(r:Rec X pins H s.heap b):∀x c,X.env.cells.lookup x=some c->c≠b:=fun x c hc z=>by
 obtain⟨o,vs,e,d⟩:=r.ob;obtain⟨v,o',e',d'⟩:=I.cell x c hc;rw[z,e] at e';cases e';rw[d] at d';cases d'
theorem Rec.frs(I:Inv X pins σ H s){b:Addr}(r:Rec X pins H s.heap b):b∉frs X.stack:=fun z=>by
 obtain⟨o,vs,e,d⟩:=r.ob;obtain⟨_,o',e',d'⟩:=I.stack.mem z;rw[e] at e';cases e';exact d' vs d
def Inv.marks{ch:List Addr}{t':Nat}(I:Inv X pins σ H s)(hch:∀b∈ch,Rec X pins H s.heap b)
  (k1:∀b o,b∉frs X.stack->b∉ch->s.heap.get? b=some o->h'.get? b=some o)
  (k2:∀b o,b∉ch->s.heap.get? b=some o->∃sl,h'.get? b=some {o with slots:=sl}):Inv X pins σ H {s with heap:=h',toks:=t'}:=by
 have sub:∀b,b≠X.env.locals->b∉X.fs->b∉frs X.stack:=fun b h1 h2 z=>(zP.mp (I.stkSub b z)).elim h1 h2;have neL:∀b o,X.s₀.heap.get? b=some o->b≠X.env.locals:=fun b o e=>vL (vD (uP e) I.ok.above);have neC:∀b o,X.s₀.heap.get? b=some o->b∉ch:=fun b o e z=>by rw[(hch b z).nw] at e;cases e
 have cel:∀x c,X.env.cells.lookup x=some c->∀v,s.heap.IsCell c v->h'.IsCell c v:=fun x c e v ⟨o,ho,hd⟩=>by
  obtain⟨sl,q⟩:=k2 c o (fun z=>(hch c z).cel I x c e rfl) ho;exact⟨_,q,hd⟩
 refine⟨I.ok,I.os,I.bare,⟨fun b o e n hb hx=>k1 b o (sub b (neL b o e) hb) (neC b o e) (I.base.keep b o e n hb hx),fun b o e n hb hx=>?_,I.base.free,fun b o e hx=>?_,I.base.tups,I.base.frzs,I.base.tbls⟩,
  ?_,fun x c e=>?_,I.free,I.freeC,fun p hp=>?_,fun a o e=>?_,I.len⟩
 .obtain⟨sl,e1⟩:=I.base.slot b o e n hb hx;obtain⟨sl',e2⟩:=k2 b _ (neC b o e) e1;exact⟨sl',e2⟩
 .obtain⟨o',e1⟩:=I.base.there b o e hx;obtain⟨sl',e2⟩:=k2 b _ (neC b o e) e1;exact⟨_,e2⟩
 .obtain⟨m,hm,hl⟩:=I.loc;have hm':h'.Ns X.env.locals m:=by
   obtain⟨o,es,ep,e,r⟩:=hm;obtain⟨sl,q⟩:=k2 _ o (fun z=>(hch _ z).loc I rfl) e;exact⟨_,es,ep,q,r⟩
  refine⟨m,hm',fun i x v e1 e2 e3=>?_⟩;obtain⟨u,r,l⟩:=hl i x v e1 e2 e3;refine⟨u,r,?_⟩;rcases l with l|⟨k,c,e,z⟩
  .exact .inl l
  .exact .inr ⟨k,c,e,cel x c e _ z⟩
 .obtain⟨v,z⟩:=I.cell x c e;exact⟨v,cel x c e v z⟩
 .obtain⟨e,n,ne,nf,d⟩:=I.pin p hp;exact⟨k1 p.1 p.2 (sub p.1 ne nf) (fun z=>(hch p.1 z).pin p hp rfl) e,n,ne,nf,d⟩
 .refine(I.hok a o e).stay (fun b u hb q=>k1 b u ?_ ?_ q) (fun _ q=>q) fun _ _ q=>q
  .intro z;have n:=I.stkFree b z;rcases hb with rfl|hb
   .rw[n] at e;cases e
   .rw[n] at hb;cases hb
  .intro z;have n:=(hch b z).un;rcases hb with rfl|hb
   .rw[n] at e;cases e
   .rw[n] at hb;cases hb
def jhh{P:vA}{w:vN}{H:Hp}{h:vU}(x:qbw P w H h a o):∃ob,h.get? a=some ob:=by
 cases o with
 |lst xs=>obtain⟨_,_,_,_,e⟩:=x;exact⟨_,e⟩
 |tup xs=>obtain⟨_,_,_,ob,e,_⟩:=x;exact⟨_,e⟩
 |dK kvs=>obtain⟨_,_,_,_,o,_,_,e,_⟩:=x;exact⟨_,e⟩
 |dT kvs=>obtain⟨_,_,_,_,o,_,_,e,_⟩:=x;exact⟨_,e⟩
 |set S n=>obtain⟨o,_,_,_,e,_⟩:=x;exact⟨_,e⟩
 |ins C dx fs=>obtain⟨_,_,_,e,_⟩:=x;exact⟨_,e⟩
 |own y=>exact x
 |xd fs=>obtain⟨_,⟨_,_,_,e,_⟩,_⟩:=x;exact⟨_,e⟩
 |rng lo hi=>obtain⟨_,_,_,e⟩:=x;exact⟨_,e⟩
 |frz ob u=>obtain⟨e,_⟩:=x;exact⟨_,e⟩
 |tbl ps=>exact⟨_,(show h.get? a=some _ from x)⟩
 |met f y=>exact⟨_,(show h.get? a=some _ from x)⟩
 |ext φ=>obtain⟨_,e,_⟩:=x;exact e
def jsm{P:vA}{w:vN}{H:Hp}{h:vU}(x:HOk P w H h)(e:h.get? a=none):H a=none:=by
 cases q:H a with
 |none=>rfl
 |some o=>obtain⟨ob,z⟩:=jhh (x a o q);rw[e] at z;cases z
def jc5(I:Inv X pins σ H s)(hex:X.ex=[]){b:Addr}(e:s.heap.get? b=none):X.s₀.heap.get? b=none:=by
 cases q:X.s₀.heap.get? b with
 |none=>rfl
 |some o=>obtain⟨o',z⟩:=I.base.there b o q (by rw[hex];simp);rw[e] at z;cases z
def jvy(h:vU)(e:Addr)(C:uB)(d:Option Addr):Prop:=
 ∃oe vs,h.get? e=some oe/\oe.cls=C/\oe.dict=d/\oe.data=.fields vs/\vs[1]?=some .none
def XTr(h:vU)(e:Addr)(C:uB)(d:Option Addr)(fl:uB)(T:Addr):Prop:=
 ∃oe vs oT ts,h.get? e=some oe/\oe.cls=C/\oe.dict=d/\oe.data=.fields vs/\vs[1]?=some (.ref T)/\T≠e/\h.get? T=some oT/\oT.data=.fields ts/\ts[3]?=some fl
def XIn(X:Cx)(pins:List (Addr×Obj))(H:Hp)(h:vU)(e:Addr)(C:uB)(d:Option Addr):Prop:=
 Rec X pins H h e/\(jvy h e C d\/∃T,Rec X pins H h T/\∃fl,XTr h e C d fl T)
def qf3(X:Cx)(pins:List (Addr×Obj))(H:Hp)(h:vU)(e:Addr)(C:uB)(d:Option Addr)(fl:uB):Prop:=
 Rec X pins H h e/\∃T,Rec X pins H h T/\XTr h e C d fl T
def jhi(f:Array uB->Array uB)(o:Obj):(o.mapFields f).dict=o.dict:=by
 obtain⟨c,d,dt,sl⟩:=o
 cases dt<;>rfl
def jhj{M:Model}{A:vS}{E:uB->uC->Prop}{e:Addr}{C:uB}{d:Option Addr}{head:uB}{hadNext:Bool}{Q:Unit->uC->Prop}
  (I:Inv X pins σ H s)(hA:A.frames=some X.stack)(hst:X.stack=X.env::X.outer)(hf:X.env.frame=some X.env.locals)(r:Rec X pins H s.heap e)
  (ho:∃oe vs,s.heap.get? e=some oe/\oe.cls=C/\oe.dict=d/\oe.data=.fields vs/\1<vs.size)
  (h:∀s',Inv X pins σ H s'->qf3 X pins H s'.heap e C d (aI X.env.locals)->Q () s'):
  vC M A (do let a<-frameOf X.env;let pl<-entryPlaceOf X.env.locals hadNext;let b<-EntryCells.newEntry head a .none (aI X.env.locals) .none pl;setField (.ref e) 1 b) Q E s:=by
 obtain⟨oe,vs,he,hc,hdd,hd,hsz⟩:=ho;have hl:=I.stack;rw[hst] at hl hA;have ne:e∉L2.frs X.stack:=r.frs I;refine uK (wpAny_frameOf_fun hA hl hf fun h₁ hs₁=>uK (wpAny_entryPlaceOf fun pl hpl=>?_));unfold EntryCells.newEntry newFields;refine uK (fJ ?_ (hpl.sizeOk5 _ _ _ _ _));rw[<-hst] at hs₁;have he1:h₁.get? e=some oe:=(hs₁.2.1 e ne).trans he;generalize hN:({cls:=.type "traceback",dict:=none,data:=.fields ([head,.ref X.env.locals,.none,aI X.env.locals,.none]++(if pl.isEmpty then wO 6 wN else pl)).toArray}:Obj)=N;have he2:(h₁.push N).get? e=some oe:=uG _ he1;refine wpAny_setField he2 hd hsz (h _ ?_ ?_)
 .refine Inv.marks (s:=s) (ch:=[e]) (t':=s.toks) I (fun b hb=>by rw[zF.mp hb];exact r) (fun b o h1 h2 q=>?_) fun b o h2 q=>?_
  .have hb:b≠e:=fun z=>h2 (by simp[z]);rw[xH _ _ (xS hb)];exact uG _ ((hs₁.2.1 b h1).trans q)
  .have hb:b≠e:=fun z=>h2 (by simp[z]);obtain⟨sl,q1⟩:=hs₁.2.2 b o q;exact⟨sl,by rw[xH _ _ (xS hb)];exact uG _ q1⟩
 .have sz1:h₁.objs.size=↑s:=hs₁.1;have hTe:h₁.objs.size≠e:=xC (uP he1);have d3:=Obj.data_mapFields hd (·.setIfInBounds 1 (uV h₁.objs.size));have e3:=Heap.get?_update_self (aH (·.setIfInBounds 1 (uV h₁.objs.size))) he2 (Obj.isFreed_of_fields d3);have nf:N.isFreed=false:=by rw[<-hN];rfl
  have t3:=(xH (h₁.push N) (aH (·.setIfInBounds 1 (uV h₁.objs.size))) (xS hTe)).trans (vH h₁ nf);have rT:Rec X pins H ((h₁.push N).update e (aH (·.setIfInBounds 1 (uV h₁.objs.size)))) h₁.objs.size:=by
   refine⟨bO (by rw[sz1];exact I.sz),I.hok.fresh (by rw[sz1];exact uF _),fun p hp z=>?_,⟨N,_,t3,by rw[<-hN]⟩⟩;obtain⟨q,_⟩:=I.pin p hp;have w:=uP q;rw[z,sz1] at w;exact absurd w (wQ _)
  refine⟨⟨r.nw,r.un,r.pin,⟨_,_,e3,d3⟩⟩,h₁.objs.size,rT,_,_,N,_,e3,(Obj.cls_mapFields _ _).trans hc,?_,d3,by simp[hsz],hTe,t3,by rw[<-hN],?_⟩
  .rw[<-hdd];exact jhi _ _
  .first|(simp;done) |(rcases hpl with rfl|⟨_,_,_,_,_,_,_,rfl⟩<;>simp)
def jhk{M:Model}{A:vS}{E:uB->uC->Prop}{e:Addr}{C:uB}{d:Option Addr}{Q:Unit->uC->Prop}
  (I:Inv X pins σ H s)(hA:A.frames=some X.stack)(hst:X.stack=X.env::X.outer)(hf:X.env.frame=some X.env.locals)(x:XIn X pins H s.heap e C d)
  (h:∀s',Inv X pins σ H s'->qf3 X pins H s'.heap e C d (aI X.env.locals)->Q () s'):vC M A (noteFrame (.ref e) X.env) Q E s:=by
 obtain⟨r,x⟩:=x;unfold noteFrame;simp only[hf];rcases x with⟨oe,vs,he,hc,hdd,hd,h1⟩|⟨T,rT,fl,oe,vs,oT,ts,he,hc,hdd,hd,h1,hTe,hT,hdT,h3⟩
 .refine uK (cG he hd h1 ?_);rw[gK ∅];exact jhj I hA hst hf r ⟨oe,vs,he,hc,hdd,hd,(aA.mp h1).1⟩ h
 .refine uK (cG he hd h1 ?_);rw[gL (show(uV T !=wN)=true from by simp)];refine uK (cG hT hdT h3 ?_);by_cases qf:(fl==aI X.env.locals)=true
  .rw[gL qf];have ef:fl=aI X.env.locals:=eq_of_beq qf;rw[ef] at h3;exact vE (h s I ⟨r,T,rT,oe,vs,oT,ts,he,hc,hdd,hd,h1,hTe,hT,hdT,h3⟩)
  .rw[gK qf];refine uK (wpAny_setField hT hdT (aA.mp h3).1 ?_);have oth:∀b,b≠T->(s.heap.update T (aH (·.setIfInBounds 3 wN))).get? b=s.heap.get? b:=fun b hb=>xH _ _ (xS hb);have J:Inv X pins σ H {s with heap:=s.heap.update T (aH (·.setIfInBounds 3 wN))}:=
    Inv.marks (s:=s) (ch:=[T]) (t':=s.toks) I (fun b hb=>by rw[zF.mp hb];exact rT) (fun b o _ h2 q=>(oth b fun z=>h2 (by simp[z])).trans q) fun b o h2 q=>⟨o.slots,(oth b fun z=>h2 (by simp[z])).trans q⟩
   have he':=(oth e (xS hTe)).trans he;exact jhj J hA hst hf ⟨r.nw,r.un,r.pin,⟨oe,vs,he',hd⟩⟩ ⟨oe,vs,he',hc,hdd,hd,(aA.mp h1).1⟩ h
def qgu(fr:Option Addr){M:Model}{A:vS}{E:uB->uC->Prop}{e:Addr}{C fl:uB}{d:Option Addr}{Q:Unit->uC->Prop}
  (I:Inv X pins σ H s)(x:qf3 X pins H s.heap e C d fl)
  (h:∀s',Inv X pins σ H s'->qf3 X pins H s'.heap e C d (fr.elim wN fun f=>aI f)->Q () s'):vC M A (gF (.ref e) fr) Q E s:=by
 obtain⟨r,T,rT,oe,vs,oT,ts,he,hc,hdd,hd,h1,hTe,hT,hdT,h3⟩:=x;have hsz:=(aA.mp h3).1;unfold gF;refine uK (cG he hd h1 ?_);rw[gL (show(uV T !=wN)=true from by simp)];refine wpAny_setField hT hdT hsz (h _ ?_ ?_)
 all_goals have oth:∀b,b≠T->(s.heap.update T (aH (·.setIfInBounds 3 (fr.elim wN fun f=>aI f)))).get? b=s.heap.get? b:=fun b hb=>xH _ _ (xS hb)
 .exact Inv.marks (s:=s) (ch:=[T]) (t':=s.toks) I (fun b hb=>by rw[zF.mp hb];exact rT) (fun b o _ h2 q=>(oth b fun z=>h2 (by simp[z])).trans q) fun b o h2 q=>⟨o.slots,(oth b fun z=>h2 (by simp[z])).trans q⟩
 .have he':=(oth e (xS hTe)).trans he;have d3:=Obj.data_mapFields hdT (·.setIfInBounds 3 (fr.elim wN fun f=>aI f));have hT':=Heap.get?_update_self (aH (·.setIfInBounds 3 (fr.elim wN fun f=>aI f))) hT (Obj.isFreed_of_fields d3);exact⟨⟨r.nw,r.un,r.pin,⟨oe,vs,he',hd⟩⟩,T,⟨rT.nw,rT.un,rT.pin,⟨_,_,hT',d3⟩⟩,oe,vs,_,_,he',hc,hdd,hd,h1,hTe,hT',d3,by simp[hsz]⟩
def jj7{M:Model}{A:vS}{E:uB->uC->Prop}{e:Addr}{C fl:uB}{d:Option Addr}{Q:Unit->uC->Prop}
  (I:Inv X pins σ H s)(x:qf3 X pins H s.heap e C d fl)
  (h:∀s',Inv X pins σ H s'->qf3 X pins H s'.heap e C d .none->Q () s'):vC M A (gF (.ref e) none) Q E s:=qgu none I x h
def qf3.xin{h:vU}{e:Addr}{fl:uB}(x:qf3 X pins H h e C d fl):XIn X pins H h e C d:=
 let ⟨r,T,rT,q⟩:=x
 ⟨r,.inr ⟨T,rT,_,q⟩⟩
def qf3.xinL{h:vU}{e:Addr}(x:qf3 X pins H h e C d (aI X.env.locals)):XIn X pins H h e C d:=x.xin
noncomputable def CX1(P:vA)(w:vN):CXT:=fun outer H s E e s'=>∃(a:Addr)(C:uB)(d:Option Addr)(H':Hp),e=.ref a/\s'.os=s.os/\cE s'.gens/\Un (L2.frs outer) [] H H' s.heap s'.heap/\HOk P w H' s'.heap/\
 s.heap.get? a=none/\H' a=none/\(∃T,s.heap.get? T=none/\H' T=none/\XTr s'.heap a C d .none T)/\E C d H'
def Xes(X:Cx)(W:L2.St->XK):Prop:=∀(pins:List (Addr×Obj))(σ:L2.St)(H:Hp)(s:uC)(a:Addr)(C:uB)(d:Option Addr),Inv X pins σ H s->XIn X pins H s.heap a C d->W σ C d H->X.xe (.ref a) s
def jfg(h:Xes X W)(hex:X.ex=[]){e:uB}{s':uC}(I:Inv X pins σ H s)(q:CX1 X.prog X.w X.stack H s (W σ) e s'):X.xe e s':=by
 obtain⟨a,C,d,H',rfl,os,bare,un,hok,la,na,⟨T,lT,nT,x⟩,w⟩:=q;have J:Inv X pins σ H' s':=I.call' (ch:=[]) os un hok bare (fun b z=>absurd z (by simp));have pn:∀b,s.heap.get? b=none->∀p∈X.pn++pins,p.1≠b:=fun b lb p hp z=>by
  have w:=(I.pin p hp).1;rw[z,lb] at w
  cases w
 obtain⟨oe,vs,oT,ts,he,hc,hdd,hd,h1,hTe,hT,hdT,h3⟩:=id x;exact h pins σ H' s' a C d J ⟨⟨jc5 I hex la,na,pn a la,⟨oe,vs,he,hd⟩⟩,.inr ⟨T,⟨jc5 I hex lT,nT,pn T lT,⟨oT,ts,hT,hdT⟩⟩,_,x⟩⟩ w
end
section
variable{X:Cx}{pins:List (Addr×Obj)}{σ:L2.St}{H:Hp}{s:uC}{W:L2.St->XK}
def XSt(X:Cx)(W:L2.St->XK)(e:uB)(s:uC):Prop:=∃(a:Addr)(C:uB)(d:Option Addr)(σ:L2.St)(H:Hp),e=.ref a/\Inv X [] σ H s/\XIn X [] H s.heap a C d/\W σ C d H
abbrev xw(X:Cx)(W:L2.St->XK):Cx:=X.wish (XSt X W)
def Rec.less{h:vU}{b:Addr}(r:Rec X pins H h b):Rec X [] H h b:=⟨r.nw,r.un,fun p hp=>r.pin p (by rw[yA] at hp;exact zO _ hp),r.ob⟩
theorem XIn.less{h:vU}(x:XIn X pins H h a C d):XIn X [] H h a C d:=by
 obtain⟨r,x⟩:=x;rcases x with x|⟨T,rT,x⟩
 .exact⟨r.less,.inl x⟩
 .exact⟨r.less,.inr ⟨T,rT.less,x⟩⟩
def Rec.unwish{E:uB->uC->Prop}{h:vU}{b:Addr}(r:Rec (X.wish E) pins H h b):Rec X pins H h b:=⟨r.nw,r.un,r.pin,r.ob⟩
theorem XIn.unwish{E:uB->uC->Prop}{h:vU}(x:XIn (X.wish E) pins H h a C d):XIn X pins H h a C d:=by
 obtain⟨r,x⟩:=x;rcases x with x|⟨T,rT,x⟩
 .exact⟨r.unwish,.inl x⟩
 .exact⟨r.unwish,.inr ⟨T,rT.unwish,x⟩⟩
def qau:Xes (xw X W) W:=fun pins σ H s a C d I x w=>⟨a,C,d,σ,H,rfl,I.unwish.pins_of (fun _ z=>nomatch z),x.unwish.less,w⟩
def qbj(hst:X.stack=X.env::X.outer)(hf:X.env.frame=some X.env.locals):PassesOwn (vF X.prog X.w) X.A X.env (XSt X W):=by
 rintro e s' ⟨a,C,d,σ,H,rfl,I,x,w⟩;show vC _ _ (noteFrame (.ref a) X.env) _ _ s';refine jhk I I.ok.frames hst hf x fun s2 I2 x2=>?_;obtain⟨r,T,rT,oe,vs,oT,ts,he,hc,hdd,hd,h1,r2⟩:=id x2;unfold cameBackBy;refine uK (cG he hd h1 ?_);have fin:vC (vF X.prog X.w) X.A (gF (.ref a) X.env.frame) (fun _ s''=>XSt X W (.ref a) s'') (XSt X W) s2:=by
  rw[hf];exact qgu (some X.env.locals) I2 x2 fun s3 I3 x3=>⟨a,C,d,σ,H,rfl,I3,qf3.xinL x3,w⟩
 first
  |(rw[gK (show ¬((uV T==wN)=true) from by simp)];exact fin)
  |(rw[gK (show ¬((uV T==wN)=true) from by simp)];exact uK (vE fin))
  |(refine uK ?_;rw[gK (show ¬((uV T==wN)=true) from by simp)];exact vE fin)
def PSs.xes{st:List Stmt}{t:TS}(hx:Xes X W)(h:PSs (xw X W) st t):PSs X st t:=fun pins s σ H D I hw=>
 wK (h pins s σ H D (I.wish _) hw) (fun _ _ q=>q.unwish) fun _ _ ⟨a,C,d,σ',H',e,I',x,w⟩=>by subst e;exact hx [] σ' H' _ a C d I' x w
end
section
variable{P:vA}{w:vN}{K:uX}{mg:Str->Option uB}{base:vU}
def jlj{N:List Str}{qual:Str}{scope:xL}{f:Addr}{cd:uB}{A:vS}{outer:List Env}{s:uC}{H:Hp}{E:XK}:
  Xes (cxOf (CX1 P w) P w K mg base N qual scope f cd A outer s H E) (fun _=>E):=by
 intro pins σ H1 s1 a C d I x wE;show vC _ _ (leaving _ _) _ _ s1;unfold leaving;refine uK (jhk I I.ok.frames rfl rfl x fun s2 I2 x2=>jj7 I2 x2 fun s3 I3 x3=>?_);obtain⟨r,T,rT,xt⟩:=x3;exact⟨a,C,d,H1,rfl,I3.os,I3.bare,I3.base,I3.hok,r.nw,r.un,⟨T,rT.nw,rT.un,xt⟩,wE⟩
def okX{x qual:Str}{st:Stmt}{f:Addr}{fd:uJ}{N ps:List Str}{k:Nat}{sp:Sp}(F:Fun K x qual st f fd)(S:jaa N ps (qa8 st))(len:∀vs H Q E,sp vs H Q E->vs.length=ps.length)
  (hbody:∀(cdv:uB)(A:vS)(outer:List Env)(s:uC)(H:Hp)(vs:List V)(Q:VK)(E:XK),ja0 k (A.deeper (aF qual (qa8 st) ↑s f cdv))->sp vs H Q E->
   ∃t,PSs (xw (cxOf (CX1 P w) P w K mg base N qual (qa8 st) f cdv A outer s H E) (fun _=>E)) (qbv st) t/\t {nx:=fun _ H'=>Q .non H',rt:=Q} (start N vs) H):jac P w K mg base (CX1 P w) (k+1) f fd ps sp:=by
 obtain⟨oc,od,kV,doc,pm,an,cdv,ct,osl,rfl,lk,hcd⟩:=F.ex;refine jmz lk hcd S len fun A outer s H vs Q E hr hsp=>?_;obtain⟨t,ht,q⟩:=hbody cdv A outer s H vs Q E hr hsp;exact⟨t,PSs.xes jlj ht,q⟩
end
section
variable{X:Cx}{k:Nat}{f:Addr}{fd:uJ}{ps:List Str}{sp:Sp}{dvs:List V}{ds:List uB}{W:L2.St->XK}{x:Str}{p pos:Pos}{e:vZ}{es:List vZ}{t:TA}
noncomputable def jhl(sp:Sp)(dvs:List V)(W:L2.St->XK)(t:TA):TE:=fun σ H Q=>t σ H fun vs H1=>sp (vs++dvs) H1 Q (W σ)
def jd4{pins:List (Addr×Obj)}{σ:L2.St}{H:Hp}{s:uC}{Q:VK}{us:List uB}{vs:List V}(F:jac X.prog X.w X.K X.mg X.base (CX1 X.prog X.w) k f fd ps sp)(hr:ja0 k X.A)(hb:qao X.K fd ps ds)(hd:qbl dvs ds)(hx:Xes X W)(hex:X.ex=[])
  (I:Inv X pins σ H s)(r:qbl vs us)(h:sp (vs++dvs) H Q (W σ)):vC (vF X.prog X.w) X.A (call (.ref f) us) (EP X pins σ Q) X.xe s:=by
 have r2:qbl (vs++dvs) (us++ds):=r.append hd;have hl:(us++ds).length=ps.length:=by rw[<-r2.length];exact F.len _ _ _ _ h
 refine bH (xP (F.run X.A X.stack s H ⟨us,[]⟩ (us++ds) (vs++dvs) Q (W σ) hr I.env0 (hb s us I.kIn hl) r2 h) fun r s' hq=>?_)
 match r,hq with
 | .error e,hq=>exact jfg hx hex I hq
 | .ok (.ret u),hq=>exact I.after hq
 | .ok .next,hq=>exact vW hq
 | .ok .brk,hq=>exact vW hq
 | .ok .cont,hq=>exact vW hq
def qaz(F:jac X.prog X.w X.K X.mg X.base (CX1 X.prog X.w) k f fd ps sp)(hr:ja0 k X.A)(hg:Gl X x)(hm:X.mg x=some (.ref f))(hk:bU X.K (.ref f)=true)(hb:qao X.K fd ps ds)(hd:qbl dvs ds)(hx:Xes X W)
  (ha:PA X (e::es) t)(hex:autoParam (X.ex=[]) aR)(hdb:autoParam ((x==("__debug__":Str))=false) aD)(he:autoParam (vG (e::es) X.env=(false,wW e X.env)::vG es X.env) aR)(hpl:autoParam ((xI pos (vG es X.env)).any (·.1)=false) aR):
  PE X (.Call (.Name x p) (e::es) [] pos) (jhl sp dvs W t):=by
 intro pins s σ H Q I h;refine xA (qe5 I hg hm ?_ hdb);refine xJ (h₀:=X.base) I.ok.mod.kin hk (thn (ha pos pins s σ H _ I h) fun us s1 ⟨vs,H1,I1,r,q⟩=>⟨I1.kIn,?_⟩) he hpl;exact jd4 F hr hb hd hx hex I1 r q
end
structure XCls(K:uX)(C:Addr):Prop where
 ob:∃(nm q:Str)(N:Addr)(bs bm:List uB)(hdct:Bool)(sn:List Str)(sub:List uB)(ab:Bool)(col:Option Bool)(dd:Option Addr)(k0 k1 k2 k3 k5:Option uB)(mN:Str->Option uB),
  K.lookup C=some (excClassObj nm q C N bs bm hdct sn sub ab col dd k0 k1 k2 k3 k5 "ValueError.__new__")/\(∀h:vU,K.In h->h.Ns N mN)/\mN "__init__"=none/\
  ∀h:vU,K.In h->OwnTail h [.type "ValueError",.type "Exception",.type "BaseException",.type "object"] bm
section
variable{X:Cx}{x:Str}{C:Addr}{W:L2.St->XK}{np cpos pos:Pos}{e:vZ}{es:List vZ}{t:TA}
noncomputable def jlk(t:TA)(C:Addr)(W:L2.St->XK):TS:=fun _ σ H=>t σ H fun xs H1=>xs.length<=sizeLine/\W σ (.ref C) none H1
def jj8(hc:X.calm=true)(M:XCls X.K C)(hg:Gl X x)(hm:X.mg x=some (.ref C))(hx:Xes X W)(ha:PA X (e::es) t)(hex:autoParam (X.ex=[]) aR)(hdb:autoParam ((x==("__debug__":Str))=false) aD)
  (he:autoParam (vG (e::es) X.env=(false,wW e X.env)::vG es X.env) aR) (hpl:autoParam ((xI cpos (vG es X.env)).any (·.1)=false) aR):
  PS X (.Raise (some (.Call (.Name x np) (e::es) [] cpos)) none pos) (jlk t C W):=by
 intro pins s σ H D I h;obtain⟨nm,q,N,bs,bm,hdct,sn,sub,ab,col,dd,k0,k1,k2,k3,k5,mN,hC,hN,hni,T⟩:=M.ob;refine wpAny_Raise_call_subU (C:=C) (nm:=nm) (q:=q) (N:=N) (bs:=bs) (bm:=bm) (hdct:=hdct) (sn:=sn) (sub:=sub) (ab:=ab) (col:=col) (dd:=dd) (k0:=k0) (k1:=k1) (k2:=k2) (k3:=k3) (k5:=k5)
  PySem.F.excBase_ValueError ∅ PySem.F.excBase_ValueError (mN:=mN) ((T _ I.kIn).hasType PySem.F.excBase_ValueError.hasBase) (I.ok.hd hc) ?_ hni ?_
 .rw[he];show(false ||(xI cpos (vG es X.env)).any (·.1))=false;rw[hpl];rfl
 .refine qe5 I hg hm ⟨rfl,?_⟩ hdb;have z:=ha cpos pins s σ H _ I h;rw[he] at z⊢;refine dU (wK z (fun us s2 ⟨vs,H2,I2,r,hl,q⟩=>⟨rfl,by rw[<-r.length];exact hl,I2.kIn _ _ hC,hN _ I2.kIn,T _ I2.kIn,fun h' a m=>?_⟩) fun _ _ y=>y);obtain⟨tp,ea,_,_⟩:=m.there;have J:Inv X pins σ H2 {s2 with heap:=h'}:=I2.kept (t':=s2.toks) m.keeps;refine hx pins σ H2 _ a (.ref C) none J ⟨⟨jc5 I2 hex m.new,jsm I2.hok m.new,fun p hp y=>?_,⟨_,_,ea,rfl⟩⟩,.inl ⟨_,_,ea,rfl,rfl,rfl,rfl⟩⟩ q;have w:=(I2.pin p hp).1;rw[y,m.new] at w
  cases w
end
section
variable{X:Cx}{pins:List (Addr×Obj)}
abbrev pnd(X:Cx)(pins:List (Addr×Obj)):Cx:={X with pn:=X.pn++pins}
abbrev suite(X:Cx)(a:Addr):Cx:={X with A:=X.A.mark (some (.ref a)),calm:=false,xe:=fun _ _=>False}
noncomputable def XO(a:Addr)(C:uB)(d:Option Addr):HO:=.ext fun h=>∃(oe:Obj)(vs:Array uB),h.get? a=some oe/\oe.cls=C/\oe.dict=d/\oe.data=.fields vs
end
section
variable{X:Cx}
noncomputable def jsn(t:TS):TS:=fun D σ H=>∃J:L2.St->Hp->Prop,t {D with nx:=J} σ H/\∀σ' H',J σ' H'->D.nx σ' H'
def qca{st:Stmt}{t:TS}(h:PS X st t):PS X st (jsn t):=by
 intro pins s σ H D I ⟨J,hw,k⟩;refine wK (h pins s σ H _ I hw) (fun f s' q=>?_) fun _ _ z=>z
 cases f with
 |next=>obtain⟨σ',H',I',z⟩:=q;exact⟨σ',H',I',k _ _ z⟩
 |brk=>exact q
 |cont=>exact q
 |ret u=>exact q
end
def jm3{K:uX}{C:Addr}(q:PySem.W.excIn K C [.type "ValueError",.type "Exception",.type "BaseException",.type "object"] "ValueError.__new__"=true):XCls K C:=by
 unfold PySem.W.excIn at q
 split at q
 .rename_i dd cd sl ho
  split at q
  .rename_i C' bm k0 k1 k2 k3 n k5 hm hs;simp only[wC,beq_iff_eq,fP] at q;obtain⟨⟨⟨⟨⟨rfl,rfl⟩,hdel⟩,ht⟩,hok⟩,hni⟩:=q;obtain⟨nm,bs,mro,ns,qn,hd,sn,sub,ab,col,del⟩:=cd;dsimp only at hm hdel hok hni;subst hm hdel;have hsl:sl= #[k0,k1,k2,k3,some (.builtin "ValueError.__new__"),k5]:=by
    obtain⟨l⟩:=sl;simp only at hs;rw[hs]
   subst hsl;unfold PySem.W.nsOkIn at hok
   split at hok
   .rename_i c1 d1 es ep sl1 hN;have hSK:StrKeys es:=fun e he=>by
     have z:=Array.all_eq_true_iff_forall_mem.mp hok e he
     split at z
     .rename_i n t q;exact⟨n,t,q⟩
     .cases z
    have hNs:∀h:vU,K.In h->h.Ns ns (fun x=>nsFind es x):=fun h X=>⟨_,es,ep,X _ _ hN,rfl,hSK,fun _=>rfl⟩;refine⟨nm,qn,ns,bs,bm,hd,sn,sub,ab,col,dd,k0,k1,k2,k3,k5,fun x=>nsFind es x,ho,hNs,?_,fun h X=>PySem.W.tail_of_in X ht⟩;unfold xZ at hni;rw[hN] at hni;dsimp only at hni
    split at hni
    .cases hni
    .rename_i hf;show nsFind es "__init__"=none;unfold nsFind findBy;rw[<-Array.find?_toList,hf];rfl
   .cases hok
  .cases q
 .cases q
def TyX(K:uX)(H:Hp)(x:V)(t:uB)(b:Bool):Prop:=jby K H x t\/∃(a:Addr)(d:Option Addr),x=.ref a/\H a=some (XO a t d)/\b=true
noncomputable def ju3(K:uX):List V->Hp->VK->Prop:=fun xs H Q=>∃(x c:V)(u t:uB)(b:Bool),xs=[x,c]/\qbg c u/\(∀u',qbg c u'->u'=u)/\TyX K H x t b/\bV K t u=some b/\Q (.bl b) H
def jm4{prog:vA}{w:vN}{A:vS}{E:uB->uC->Prop}{s:uC}{Q:uB->uC->Prop}{K:uX}{a:Addr}{t c:uB}(KX:K.In s.heap)(hp:∃o,s.heap.get? a=some o/\o.cls=t)(e:bV K t c=some true)
  (h:Q (.bool true) s):vC (vF prog w) A (call (.builtin "isinstance") [.ref a,c]) Q E s:=by
 refine call_isinstance_of ?_ (by intro q;cases q);obtain⟨h0,g,d,tt,os⟩:=s;obtain⟨o,ho,hc⟩:=hp;have LT:PySem.W.Looks (vF prog w) h0 (typeOf (.ref a)) t:=hc▸(PySem.W.Looks.ld ho).andThen .now;unfold bV at e;unfold aR.«isinstance.nested»;refine uK (LT.at ?_);by_cases q:(t==c)=true
 .rw[gL q]
  first
   |exact uK (wpAny_rule (vE h))
   |exact uK (wpAny_rule h)
 .rw[gK q] at e;rw[gK q];obtain⟨hty,his,hsub⟩:=PySem.W.kit_cls (M:=vF prog w) KX e;have LI:PySem.W.Looks (vF prog w) h0 (isInstance (.ref a) c) true:=LT.andThen hsub;refine uK (hty.at ?_);rw[gL ∅]
  k_delta "plainIsInstance"
  refine uK (uK (his.at ?_));simp only[Bool.not_true,fA,if_false];refine uK (LI.at ?_)
  first
   |exact vE (vE h)
   |(simp only[if_true];first|exact vE (vE h) |exact vE h|exact uK (vE (vE h)))
def jc6:Xes X (fun _ _ _ _=>False):=fun _ _ _ _ _ _ _ _ _ w=>w.elim
section
variable{X:Cx}
def qbn:qcv X (.builtin "isinstance") (ju3 X.K):=by
 intro pins s σ H xs us Q I hv h;obtain⟨x,c,u,t,b,rfl,hu,hu',ty,e,q⟩:=h
 cases hv with
 |cons r1 hv=>
  cases hv with
  |cons r2 hv=>
   cases hv
   rename_i v1 v2;rw[hu' v2 r2];rcases ty with ty|⟨a,d,rfl,ea,rfl⟩
   .exact jg4 I r1 ty e fun tk=>⟨.bl b,H,I.tok tk,rfl,q⟩
   .cases r1
    obtain⟨⟨oe,vs,h1,h2,_⟩,_⟩:=(show qbw X.prog X.w H s.heap a (XO a t d) from I.hok a _ ea);exact jm4 I.kIn ⟨oe,h1,h2⟩ e ⟨.bl true,H,I,rfl,q⟩
noncomputable def ju4:R2:=fun x y H Q=>y=.bl true/\((∃b,x=.bl b)\/x=.non)/\Q (.bl (decide (x=.bl true))) H
noncomputable def jsa:R2:=fun x y H Q=>y=.non/\Q (.bl (decide (x=.non))) H
noncomputable def jj9:R2:=fun x y H Q=>y=.non/\Q (.bl (!decide (x=.non))) H
noncomputable def ju5:List V->Hp->VK->Prop:=fun xs H Q=>∃i,xs=[.int i]/\Q (.int (if i<0 then -i else i)) H
noncomputable def jso(K:uX):List V->Hp->VK->Prop:=fun xs H Q=>∃p ys,xs=[.ref p]/\(SqL K H p ys\/SqT K H p ys)/\Q (.int ys.length) H
def qg3:qcv X (.builtin "abs") ju5:=jjz
def qbm:qcv X (.builtin "len") (jso X.K):=jc1
def jd5:OpR X (wJ .Is) jsa:=jpj
def qeg:OpR X (wJ .IsNot) jj9:=jmr
def jpq:OpR X (wJ .Is) ju4:=by
 intro pins s σ H x y v u Q I rx ry h;obtain⟨rfl,hx,q⟩:=h
 cases ry
 rcases hx with⟨b,rfl⟩|rfl
 .cases rx
  refine is_bool ⟨_,H,I,?_,q⟩
  cases b<;>rfl
 .cases rx
  exact wpAny_is_other ∅ (by intro z;cases z) ⟨.bl false,H,I,rfl,q⟩
end
section
variable{K:uX}{H:Hp}{Q:VK}
def jsp{x:V}{T:String}{t:uB}{b:Bool}(ty:jby K H x t)(e:bV K t (.type T)=some b)(h:Q (.bl b) H):ju3 K [x,.ty T] H Q:=⟨x,_,_,t,b,rfl,rfl,fun _ z=>z,.inl ty,e,h⟩
end
section
variable{K:uX}
def jd6:bV K (.type "int") (.type "int")=some true:=by rfl
def jc7:bV K (.type "int") (.type "bool")=some false:=by rfl
def qgq:bV K (.type "bool") (.type "bool")=some true:=by rfl
def jd7:bV K (.type "str") (.type "str")=some true:=by rfl
def jd8:bV K (.type "list") (.type "list")=some true:=by rfl
def jd9:bV K (.type "tuple") (.type "tuple")=some true:=by rfl
def jea:bV K (.type "dict") (.type "dict")=some true:=by rfl
end
section
variable{K:uX}{σ σ':L2.St}{H H1:Hp}{Q:VK}{D:jcd}{ta tb te:TE}{t u:TS}{c c':TT}{ar:TA}{v x y:V}{i j:Nat}
def qad{N:List Str}{vs:List V}(e:start N vs=σ)(h:t D σ H):t D (start N vs) H:=e▸h
def jsq(e:σ[i]?=some (some v))(h:Q v H):jsf i σ H Q:=⟨v,e,h⟩
def r_c(h:Q v H):tC v σ H Q:=h
def jvz{r:R2}(h:ta σ H fun x H1=>tb σ H1 fun y H2=>r x y H2 Q):tOp r ta tb σ H Q:=h
def jv0{r:V->Hp->VK->Prop}(h:ta σ H fun x H1=>r x H1 Q):tUn r ta σ H Q:=h
def jv1{g:Int->Int->V}{i j:Int}(h:Q (g i j) H):rI0 g (.int i) (.int j) H Q:=⟨i,j,rfl,rfl,h⟩
def r_I{C:Int->Int->Prop}{g:Int->Int->V}{i j:Int}(hc:C i j)(h:Q (g i j) H):rI C g (.int i) (.int j) H Q:=⟨i,j,rfl,rfl,hc,h⟩
def r_U{g:Int->V}{i:Int}(h:Q (g i) H):rU g (.int i) H Q:=⟨i,rfl,h⟩
def jsr{i j:Int}(h:Q (.bl (decide (i=j))) H):rEq (.int i) (.int j) H Q:=⟨rfl,by
 have e:decide (V.int i=V.int j)=decide (i=j):=by by_cases z:i=j<;>simp[z]
 rw[e];exact h⟩
def jss{i j:Int}(h:Q (.bl (!decide (i=j))) H):rNe (.int i) (.int j) H Q:=⟨rfl,by
 have e:decide (V.int i=V.int j)=decide (i=j):=by by_cases z:i=j<;>simp[z]
 rw[e];exact h⟩
def jst{i j:Str}(h:Q (.bl (!decide (i=j))) H):rNe (.str i) (.str j) H Q:=⟨rfl,by
 have e:decide (V.str i=V.str j)=decide (i=j):=by by_cases z:i=j<;>simp[z]
 rw[e];exact h⟩
def jsu{b:Bool}{Q:Bool->Prop}(h:Q b):∃k,V.bl b=.bl k/\Q k:=⟨b,rfl,h⟩
def jpr{Q:Bool->Hp->Prop}(h:te σ H fun x H'=>∃k,x=.bl k/\Q k H'):jpk te σ H Q:=h
def jv2{Q:Bool->Hp->Prop}(h:te σ H fun x H'=>∃k,x=.bl k/\Q k H'):tB te σ H Q:=h
def jsv{Q:Bool->Hp->Prop}(h:c σ H fun b H1=>if b=true then c' σ H1 Q else Q false H1):jum c c' σ H Q:=h
def jv3{Q:Bool->Hp->Prop}(h:c σ H fun b H1=>if b=true then Q true H1 else c' σ H1 Q):tOr c c' σ H Q:=h
def jsw{Q:Bool->Hp->Prop}(h:c σ H fun b H1=>Q (!b) H1):jun c σ H Q:=h
def jps(h:ta σ H fun x H1=>∃k,x=.bl k/\if k=true then tb σ H1 Q else Q (.bl false) H1):jo7 ta tb σ H Q:=h
def jpt(h:ta σ H fun x H1=>∃k,x=.bl k/\Q (.bl (!k)) H1):jo8 ta σ H Q:=h
def jsx(h:c σ H fun b H1=>if b=true then ta σ H1 Q else tb σ H1 Q):tIf c ta tb σ H Q:=h
def jpu(h:D.nx σ H):jo9 D σ H:=h
def jsy(h:t {nx:=u D,rt:=D.rt,bk:=D.bk,ct:=D.ct} σ H):jsh t u D σ H:=h
def jpv(h:te σ H fun _ H1=>D.nx σ H1):jpa te D σ H:=h
def jsz(h:te σ H D.rt):juo te D σ H:=h
def jv4(h:c σ H fun b H1=>if b=true then t D σ H1 else u D σ H1):jup c t u D σ H:=h
def js0{g:TG}(h:te σ H fun x H1=>g x σ H1 D.nx):jpc te g D σ H:=h
def jpw{Q:L2.St->Hp->Prop}(e:σ.set i (some v)=σ')(h:Q σ' H):qe6 i v σ H Q:=by subst e;exact h
def jpx{Q:L2.St->Hp->Prop}(h:Q σ H):juq [] σ H Q:=⟨rfl,h⟩
def jm5{g:TG}{gs:TGs}{vs:List V}{Q:L2.St->Hp->Prop}(h:g v σ H fun σ' H'=>gs vs σ' H' Q):jpb g gs (v::vs) σ H Q:=⟨v,vs,rfl,h⟩
def jpy{n:Nat}{gs:TGs}{Q:L2.St->Hp->Prop}(hS:SqT K H a xs)(hn:xs.length=n)(h:gs xs σ H Q):jur K n gs (.ref a) σ H Q:=⟨a,xs,rfl,hS,hn,h⟩
def js1(h:ar σ H fun vs H1=>∃v w,vs=[v,w]/\D.nx ((σ.set i (some v)).set j (some w)) H1):jus i j ar D σ H:=h
def js2{v w:V}{Q:V->V->Prop}(h:Q v w):∃a b,[v,w]=[a,b]/\Q a b:=⟨v,w,rfl,h⟩
def jv5{f b c:L2.St->Hp->Prop}{r:VK}(h:f σ H):jcd.nx {nx:=f,rt:=r,bk:=b,ct:=c} σ H:=h
def jv6{f b c:L2.St->Hp->Prop}{r:VK}(h:r v H):jcd.rt {nx:=f,rt:=r,bk:=b,ct:=c} v H:=h
def js3{Q:List V->Hp->Prop}(h:Q [] H):jou σ H Q:=h
def jpz{Q:List V->Hp->Prop}(h:te σ H fun x H1=>ar σ H1 fun xs H2=>Q (x::xs) H2):jmw te ar σ H Q:=h
def js4(h:ar σ H fun xs H1=>xs.length<=sizeLine/\∀p,H1 p=none->Q (.ref p) (upd H1 p (.tup xs))):jux ar σ H Q:=h
def js5(h:ar σ H fun xs H1=>xs.length<=sizeLine/\∀p,H1 p=none->Q (.ref p) (upd H1 p (.lst xs))):jsj ar σ H Q:=h
def js6(hn:xs.length<=sizeLine)(h:A):xs.length<=sizeLine/\A:=⟨hn,h⟩
def jp0{sp:Sp}{E:XK}(h:ar σ H fun vs H1=>sp vs H1 Q E):jpl sp [] E ar σ H Q:=by
 have e:(fun vs H1=>sp (vs++[]) H1 Q E)=fun vs H1=>sp vs H1 Q E:=by funext vs H1;rw[yA]
 show ar σ H fun vs H1=>sp (vs++[]) H1 Q E;rw[e];exact h
def jm6{sp:Sp}(h:ar σ H fun vs H1=>sp vs H1 Q (W σ)):jhl sp [] W ar σ H Q:=by
 have e:(fun vs H1=>sp (vs++[]) H1 Q (W σ))=fun vs H1=>sp vs H1 Q (W σ):=by funext vs H1;rw[yA]
 show ar σ H fun vs H1=>sp (vs++[]) H1 Q (W σ);rw[e];exact h
def jv7{r:List V->Hp->VK->Prop}(h:ar σ H fun vs H1=>r vs H1 Q):tCB r ar σ H Q:=h
def jm7{C:Addr}(h:ar σ H fun xs H1=>xs.length<=sizeLine/\W σ (.ref C) none H1):jlk ar C W D σ H:=h
def qcc{k:Int}(hS:SqL K H p xs)(e:atI xs k=some v)(h:Q v H):jpo K (.ref p) (.int k) H Q:=⟨p,xs,k,v,rfl,rfl,hS,e,h⟩
def js7{k:Int}(hS:SqT K H p xs)(e:atI xs k=some v)(h:Q v H):juz K (.ref p) (.int k) H Q:=⟨p,xs,k,v,rfl,rfl,hS,e,h⟩
def jm8{R:Addr->Prop}(h:∀p,H p=none->R p):∀p,H p=none->R p:=h
def jhm{xs:List Int}{r:Int}(hS:SqL K H p (xs.map V.int))(h0:0<=r)(h1:r<xs.length)(h:∀m,m∈xs->Q (.int m) H):jpo K (.ref p) (.int r) H Q:=by
 have hk:r.toNat<xs.length:=by omega
 have ek:r=((r.toNat:Nat):Int):=by omega
 have q:atI (xs.map V.int) ((r.toNat:Nat):Int)=some (.int xs[r.toNat]):=qbt (by rw[zC,zA hk]<;>rfl);rw[<-ek] at q;exact⟨p,_,r,_,rfl,rfl,hS,q,h _ (zY hk)⟩
def qd4(h:t {nx:=D.nx,rt:=D.rt,bk:=D.bk,ct:=D.ct} σ H):jsn t D σ H:=⟨D.nx,h,fun _ _ z=>z⟩
def qgm(J:L2.St->Hp->Prop)(h:t {nx:=J,rt:=D.rt,bk:=D.bk,ct:=D.ct} σ H)(k:∀σ' H',J σ' H'->D.nx σ' H'):jsn t D σ H:=⟨J,h,k⟩
def jp1{ys:List V}(hS:SqT K H p ys)(h:Q (.int ys.length) H):jso K [.ref p] H Q:=⟨p,ys,rfl,.inr hS,h⟩
def jll{ys:List V}(hS:SqL K H p ys)(h:Q (.int ys.length) H):jso K [.ref p] H Q:=⟨p,ys,rfl,.inl hS,h⟩
def js8{i:Int}(h:Q (.int (if i<0 then -i else i)) H):ju5 [.int i] H Q:=⟨i,rfl,h⟩
def jp2(h:Q (.bl true) H):jsa .non .non H Q:=⟨rfl,h⟩
def jp3(h:Q (.bl false) H):jsa (.ref a) .non H Q:=⟨rfl,h⟩
def jp4{a:Str}(h:Q (.bl false) H):jsa (.str a) .non H Q:=⟨rfl,h⟩
def jm9(h:Q (.bl false) H):jj9 .non .non H Q:=⟨rfl,h⟩
def jna{a:Int}(h:Q (.bl true) H):jj9 (.int a) .non H Q:=⟨rfl,h⟩
def jp5{b:Bool}(h:Q (.bl b) H):ju4 (.bl b) (.bl true) H Q:=⟨rfl,.inl ⟨b,rfl⟩,by
 have e:decide (V.bl b=V.bl true)=b:=by cases b<;>simp
 rw[e];exact h⟩
end
section
variable{K:uX}{σ:L2.St}{H:Hp}{D:jcd}{wi:TI}{g:TG}{tb:TS}{tl:TE}{ta:TA}
def FOR(J:It)(g:TG)(tb:TS)(D:jcd)(σ:L2.St)(H:Hp):Prop:=∃W:Nat->Nat->L2.St->Hp->Prop,(∃m,W 0 m σ H)/\∀i m σ H,W i m σ H->
 (J.stop i H/\D.nx σ H)\/(J.go i H/\∃N:L2.St->Hp->Prop,(∀σ' H',N σ' H'->∃m',m'<m/\W (i+1) m' σ' H')/\∀x H',J.yld i H x H'->g x σ H' fun σ2 H2=>tb {D with nx:=N,ct:=N,bk:=D.nx} σ2 H2)
def ju6(K:uX)(x:V)(H:Hp)(R:It->Hp->Prop):Prop:=∃a,x=.ref a/\(∃xs,SqL K H a xs)/\R (Itl K a) H
def ju7(vs:List V)(H:Hp)(R:It->Hp->Prop):Prop:=∃j:Int,vs=[.int j]/\-(2^62)<=j/\j<2^62/\R (Itr 0 j.toNat) H
def js9(h:wi σ H fun J H1=>FOR J g tb D σ H1):jut wi g tb D σ H:=h
def jv8(h:tl σ H fun x H1=>ju6 K x H1 R):jpe K tl σ H R:=h
def jv9(h:ta σ H fun vs H1=>ju7 vs H1 R):jpf ta σ H R:=h
def jta(hS:SqL K H a xs)(h:R (Itl K a) H):ju6 K (.ref a) H R:=⟨a,rfl,⟨xs,hS⟩,h⟩
def jtb{j:Int}(h0: -(2^62)<=j)(h1:j<2^62)(h:R (Itr 0 j.toNat) H):ju7 [.int j] H R:=⟨j,rfl,h0,h1,h⟩
def qbp{a:Addr}{xs:List V}(Pv:Nat->L2.St->Hp->Prop)(h0:Pv 0 σ H)(hl:∀i σ H,i<=xs.length->Pv i σ H->SqL K H a xs)
  (hs:∀i x σ H,xs[i]?=some x->Pv i σ H->g x σ H fun σ2 H2=>tb {nx:=Pv (i+1),rt:=D.rt,bk:=D.nx,ct:=Pv (i+1)} σ2 H2)(hd:∀σ H,Pv xs.length σ H->D.nx σ H):FOR (Itl K a) g tb D σ H:=jjx Pv h0 hl hs hd
def qgv{lo:Int}{n:Nat}(Pv:Nat->L2.St->Hp->Prop)(h0:Pv 0 σ H)
  (hs:∀(i:Nat) σ H,i<n->Pv i σ H->g (.int (lo+i)) σ H fun σ2 H2=>tb {nx:=Pv (i+1),rt:=D.rt,bk:=D.nx,ct:=Pv (i+1)} σ2 H2)(hd:∀σ H,Pv n σ H->D.nx σ H):FOR (Itr lo n) g tb D σ H:=jgv Pv h0 hs hd
end
def qaa{o':HO}(h:H a=some o)(n:H p=none):upd H p o' a=some o:=by rw[qa7 (qa9 h n)];exact h
def jeb{K:uX}(h:SqL K H a xs)(n:H p=none):SqL K (upd H p o) a xs:=(qa4 n o).seq h
def jfh{H0:Hp}(h:jab H0 H)(n:H p=none):jab H0 (upd H p o):=h.trans (qa4 n o)
def i_t[Decidable c](h:c)(hA:A):if decide c=true then A else B:=by rw[gM h];exact jr9 hA
def i_f[Decidable c](h:¬c)(hB:B):if decide c=true then A else B:=by rw[gO h];exact jsk hB
def i_2[Decidable c](h1:c->A)(h2:¬c->B):if decide c=true then A else B:=by
 by_cases h:c
 .exact i_t h (h1 h)
 .exact i_f h (h2 h)
def ju8[Decidable c](h:¬c)(hA:A):if(!decide c)=true then A else B:=by rw[gO h];exact jr9 hA
def ju9[Decidable c](h:c)(hB:B):if(!decide c)=true then A else B:=by rw[gM h];exact jsk hB
def jwa[Decidable c](h1:¬c->A)(h2:c->B):if(!decide c)=true then A else B:=by
 by_cases h:c
 .exact ju9 h (h2 h)
 .exact ju8 h (h1 h)
def jwb(h:B):if(!true)=true then A else B:=h
def jwc(h:A):if(!false)=true then A else B:=jr9 h
noncomputable def jlm{α:Type}(f:α->Prop):List α->Prop
 | []=>True
 |a::l=>f a/\jlm f l
theorem jlm.mem{α:Type}{f:α->Prop}:∀{l:List α},jlm f l->∀a∈l,f a
 | [],_,_,h=>absurd h (by simp)
 |b::l,h,a,m=>by
  rcases zP.mp m with rfl|m
  .exact h.1
  .exact jlm.mem h.2 a m
noncomputable def qch(caps:List Nat)(σ:L2.St):L2.St:=caps.map fun j=>(σ[j]?).getD none
def jp6(acc:Addr)(N:Hp->Prop)(y:V)(H:Hp):Prop:=∃ys,H acc=some (.lst ys)/\ys.length<sizeLine/\N (upd H acc (.lst (ys++[y])))
def jsb(J:It)(caps:List Nat)(tt:TT)(te:TE)(acc:Addr)(σ:L2.St)(H:Hp)(Q:VK):Prop:=∃W:Nat->Nat->Hp->Prop,(∃m,W 0 m H)/\∀i m H,W i m H->
 (J.stop i H/\Q (.ref acc) H)\/(J.go i H/\∃N:Hp->Prop,(∀H',N H'->∃m',m'<m/\W (i+1) m' H')/\∀v H',J.yld i H v H'->tt (some v::qch caps σ) H' fun b H2=>
  if b=true then te (some v::qch caps σ) H2 fun y H3=>jp6 acc N y H3 else N H2)
abbrev CT(α:Type):=Addr->uC->Hp->List Addr->α
noncomputable def jhn(wi:TI)(caps:List Nat)(tt:CT TT)(te:CT TE):TE:=fun σ H Q=>wi σ H fun J H1=>∀(C:Addr)(s:uC)(H0:Hp)(fp:List Addr)(acc:Addr),H1 acc=none->jsb J caps (tt C s H0 fp) (te C s H0 fp) acc σ (upd H1 acc (.lst [])) Q
noncomputable def jp7:TT:=fun _ H Q=>Q true H
def jov(X:Cx)(ifs:List vZ)(t:TT):Prop:=
 ∀(pins:List (Addr×Obj))(s:uC)(σ:L2.St)(H:Hp)(Q:Bool->Hp->Prop),Inv X pins σ H s->t σ H Q->
  vC (vF X.prog X.w) X.A (forIn ifs true fun c r=>if r=true then do let ok<-isTrue c X.env (wW c X.env);pure (dF ok) else pure (dF r)) (TP X pins σ Q) X.xe s
def qdd:jov X [] jp7:=fun pins s σ H Q I h=>wpAny_tests_nil ⟨H,I,h⟩
def jho{c:vZ}{t:TT}(h:PT X c t):jov X [c] t:=fun pins s σ H Q I hw=>wpAny_tests_one (h pins s σ H Q I hw)
noncomputable def cxC(X:Cx)(N:List Str)(scope:xL)(cl:List (Str×Addr))(C:Addr)(s:uC)(H:Hp)(fp:List Addr):Cx where
 prog:=X.prog
 w:=X.w
 K:=X.K
 mg:=X.mg
 base:=X.base
 A:=X.A
 N:=N
 s₀:=s
 H₀:=H
 env:=aS scope cl C X.env
 outer:=X.stack
 stack:=X.stack
 ex:=fp
 fn:=fun _=>false
 calm:=X.calm
 pn:=[]
 xe:=fun _ _=>False
structure jow(X:Cx)(x:Str)(scope:xL)(cl:List (Str×Addr))(caps:List Nat)(cn:List Str):Prop where
 clos:closureFor scope X.env=pure cl
 kind:scope.kind=.function
 cell:∀y∈scope.names,y.2≠ .cell
 names:∀y∈scope.names,y.2=.local->scope.names.lookup y.1=some .local
 tg:scope.names.lookup x=some .local
 sub:∀y c,cl.lookup y=some c->X.env.cells.lookup y=some c
 has:∀y,((fQ scope X.env).names.lookup y=some .cell\/(fQ scope X.env).names.lookup y=some .free)->∃c,cl.lookup y=some c
 len:caps.length=cn.length
 cap:∀(k:Nat)(y:Str)(j:Nat),cn[k]?=some y->caps[k]?=some j->X.N[j]?=some y/\X.env.kindOf y=some .cell/\(fQ scope X.env).names.lookup y=some .cell/\X.env.scope.names.lookup y=some .cell/\∃c,cl.lookup y=some c
 nd:(x::cn).Nodup
section
variable{X:Cx}{pins:List (Addr×Obj)}{σ:L2.St}{H:Hp}{s:uC}
def Inv.comp{x:Str}{scope:xL}{cl:List (Str×Addr)}{caps:List Nat}{cn:List Str}(Cp:jow X x scope cl caps cn)(I:Inv X pins σ H s){fp:List Addr}(hf:∀b∈fp,jcp X pins H b)(hlt:∀b∈fp,b<↑s){h₁:vU}{t':Nat}
  (hns:h₁.Ns ↑s (fun _=>none))(k:∀b o,s.heap.get? b=some o->h₁.get? b=some o):
  Inv (cxC X (x::cn) scope cl ↑s s H fp) [] (none::qch caps σ) H {s with heap:=h₁,toks:=t'}:=by
 have cne:∀y c,cl.lookup y=some c->∃v,s.heap.IsCell c v:=fun y c e=>I.cell y c (Cp.sub y c e);have ltC:∀y c,cl.lookup y=some c->c<↑s:=fun y c e=>let ⟨v,q⟩:=cne y c e;q.lt
 have isC:∀c v,s.heap.IsCell c v->h₁.IsCell c v:=fun c v ⟨o,e,d⟩=>⟨o,k c o e,d⟩;refine⟨⟨I.ok.mod,Cp.kind,I.ok.glob,I.ok.blt,uF _,fun y z c e1 e2=>I.ok.inj y z c (Cp.sub y c e1) (Cp.sub z c e2),fun y hy=>Cp.has y hy,fun y c z=>(vB z).elim,I.ok.hd,I.ok.frames,.inl rfl,
  fun b hb=>⟨vL (hlt b hb),fun y c e z=>?_⟩,I.bs,uY I.ok.bsz I.sz,fun b o e hb=>?_,fun b hb z=>?_,I.stack,I.stkFree⟩,
  rfl,I.bare,Un.kept k,⟨_,hns,fun i y v e1 e2 e3=>?_⟩,fun y c e=>?_,I.hok.fresh (uF _),fun y c e=>I.freeC y c (Cp.sub y c e),fun p hp=>absurd (show p∈([]:List (Addr×Obj)) from hp) (by simp),I.hok.kept k,?_⟩
 .exact(hf b hb).2.2.2.2.1 y c (Cp.sub y c e) z
 .rcases(hf b hb).2.2.2.1 with z|z
  .exact I.ok.noex b o e z
  .exact absurd (vD (uP e) (uY I.ok.bsz z)) (wQ _)
 .rcases zP.mp (I.stkSub b z) with z|z
  .exact(hf b hb).2.1 z
  .exact(hf b hb).2.2.1 z
 .cases i with
  |zero=>cases e2
  |succ i=>
   have e1':cn[i]?=some y:=by simpa[cxC] using e1
   have e2':(qch caps σ)[i]?=some (some v):=by simpa using e2
   unfold qch at e2';rw[zC] at e2';obtain⟨j,hj,ej⟩:=uH.mp e2';obtain⟨c1,c2,c3,c5,c,c4⟩:=Cp.cap i y j e1' hj
   cases hs:σ[j]? with
   |none=>rw[hs] at ej;cases ej
   |some w=>
    rw[hs] at ej;have ej':w=some v:=ej;subst ej';obtain⟨m,hn,hl⟩:=I.loc;obtain⟨u,r,l⟩:=hl j y v c1 hs (.inr (.inl c5));refine⟨u,r,.inr ⟨.inl c3,c,c4,?_⟩⟩;rcases l with⟨l,_⟩|⟨_,c',e',q⟩
    .rw[c2] at l;cases l
    .rw[Cp.sub y c c4] at e'
     cases e'
     exact isC _ _ q
 .obtain⟨v,q⟩:=cne y c e;exact⟨v,isC c v q⟩
 .show(none::qch caps σ).length=(x::cn).length;rw[zR,zR];unfold qch;rw[zB,Cp.len]
def Inv.uncomp{N:List Str}{scope:xL}{cl:List (Str×Addr)}{C:Addr}{σ':L2.St}{H':Hp}{s':uC}{fp:List Addr}(I:Inv X pins σ H s)(hf:∀b∈fp,jcp X pins H b)(hC:C=↑s)
  (J:Inv (cxC X N scope cl C s H fp) [] σ' H' s'){h':vU}(sb:bZ C s'.heap h'):Inv X pins σ H' {s' with heap:=h'}:=by
 have ne:∀b o,s.heap.get? b=some o->b≠C:=fun b o e=>by rw[hC];exact vL (uP e)
 have u:Un (frs X.stack) fp H H' s.heap s'.heap:=J.base;have hok:HOk X.prog X.w H' h':=fun b o e=>by
  refine(J.hok b o e).stay (fun c u' hc q=>(sb.2 c ?_).trans q) (fun _ q=>q) fun _ _ q=>q;intro z;have n:H' C=none:=J.free;rcases hc with hc|hc
  .rw[<-hc,z,n] at e;cases e
  .rw[z,n] at hc;cases hc
 refine I.call' (s':={s' with heap:=h'}) (ch:=fp) J.os ⟨fun b o e n hb hx=>(sb.2 b (ne b o e)).trans (u.keep b o e n hb hx),fun b o e n hb hx=>?_,u.free,fun b o e hx=>?_,u.tups,u.frzs,u.tbls⟩ hok J.bare fun b hb=>?_
 .obtain⟨sl,q⟩:=u.slot b o e n hb hx;exact⟨sl,(sb.2 b (ne b o e)).trans q⟩
 .obtain⟨o',q⟩:=u.there b o e hx;exact⟨o',(sb.2 b (ne b o e)).trans q⟩
 .obtain⟨f0,f1,f2,f3,f4,f5⟩:=hf b hb;exact⟨f3,f1,f4,f5⟩
end
section
variable{X:Cx}
def qgw{elt iter:vZ}{x:Str}{px:Pos}{ifs:List vZ}{scope:xL}{cl:List (Str×Addr)}{pos:Pos}{caps:List Nat}{cn:List Str}{tt:CT TT}{te:CT TE}(Cp:jow X x scope cl caps cn)(hc:X.calm=true)
  (ht:∀C s H fp,jov (cxC X (x::cn) scope cl C s H fp) ifs (tt C s H fp)){pins:List (Addr×Obj)}{σ:L2.St}{Q:VK}{itv:uB}{s2:uC}{us:Option (uB->Sem Unit)}{P:uB->uC->Prop}
  (h2:PIE X pins σ (.Name x px) (fun J H1=>∀(C:Addr)(s:uC)(H0:Hp)(fp:List Addr)(acc:Addr),H1 acc=none->jsb J caps (tt C s H0 fp) (te C s H0 fp) acc σ (upd H1 acc (.lst [])) Q) itv s2)
  (he:∀(acc:Addr)(s3:uC)(H3:Hp)(fp:List Addr),Inv X pins σ H3 s3->(∀b∈fp,jcp X pins H3 b)->∀(pn:List (Addr×Obj))(s9:uC)(τ:L2.St)(H9:Hp)(R:VK),Inv (cxC X (x::cn) scope cl ↑s3 s3 H3 fp) pn τ H9 s9->te ↑s3 s3 H3 fp τ H9 R->
   vC (vF X.prog X.w) X.A (wW elt (aS scope cl ↑s3 X.env)) (EP (cxC X (x::cn) scope cl ↑s3 s3 H3 fp) pn τ R) (notedBy (vF X.prog X.w) X.A (aS scope cl ↑s3 X.env) fun e s'=>fR (vF X.prog X.w) X.A X.xe us P (.ref acc) ↑s3 (.error e) s') s9)
  (hd:∀(acc:Addr)(s3:uC)(H3:Hp)(fp:List Addr),Inv X pins σ H3 s3->(∀b∈fp,jcp X pins H3 b)->∀(τ:L2.St)(H5:Hp)(s6:uC)(v:Flow),Inv (cxC X (x::cn) scope cl ↑s3 s3 H3 fp) [] τ H5 s6->Q (.ref acc) H5->fR (vF X.prog X.w) X.A X.xe us P (.ref acc) ↑s3 (.ok v) s6):
  vC (vF X.prog X.w) X.A (newList []) (fun acc s3=>vC (vF X.prog X.w) X.A (newFunctionEnv scope X.env.globals cl [] X.env.qual none .none (some X.env)) (fun ce s4=>
   bM (vF X.prog X.w) X.A (.compStart (.ListComp elt [⟨.Name x px,iter,ifs,0⟩] scope pos) 0 itv acc {ce with scope:=fQ scope X.env}) (fR (vF X.prog X.w) X.A X.xe us P acc ce.locals) s4) X.xe s3) X.xe s2:=by
 obtain⟨it,fp,tn,J,H2,e,I2,T,st2,f2,R⟩:=h2;subst e;have hacc:H2 ↑s2=none:=I2.hok.fresh (uF _);refine fJ ?_;have I3:Inv X pins σ (upd H2 ↑s2 (.lst [])) {s2 with heap:=s2.heap.push {cls:=.type "list",dict:=none,data:=.seq ([]:List uB).toArray}}:=Inv.lnew (its:=[]) (t':=s2.toks) I2 .nil (wR _);have lt2:∀b∈fp,b<↑s2:=fun b hb=>let ⟨o,e,_⟩:=T.obj _ _ st2 b hb;uP e
 have f3:∀b∈fp,jcp X pins (upd H2 ↑s2 (.lst [])) b:=fun b hb=>⟨by rw[qa7 (vL (lt2 b hb))];exact(f2 b hb).1,(f2 b hb).2⟩;have st3:tn 0 (s2.heap.push {cls:=.type "list",dict:=none,data:=.seq ([]:List uB).toArray}):=T.keep _ _ _ st2 fun b _ o e=>uG _ e;generalize hs3:({s2 with heap:=s2.heap.push {cls:=.type "list",dict:=none,data:=.seq ([]:List uB).toArray}}:uC)=s3 at I3⊢;have st3':tn 0 s3.heap:=by rw[<-hs3];exact st3
 generalize ↑s2=acc at hacc I3 f3⊢;obtain⟨W,⟨m0,w0⟩,turn⟩:=R ↑s3 s3 (upd H2 acc (.lst [])) fp acc hacc;have lt3:∀b∈fp,b<↑s3:=fun b hb=>let ⟨o,e,_⟩:=T.obj _ _ st3' b hb;uP e
 clear st3 hs3;refine wpAny_newFunctionEnv Cp.cell (by intro y hy;simp at hy) (fun h₁ hns hsb=>?_) Cp.kind;have k1:∀b o,s3.heap.get? b=some o->h₁.get? b=some o:=fun b o e=>hsb.extBut b o (vL (uP e)) (uG _ e);have I4:Inv (cxC X (x::cn) scope cl ↑s3 s3 (upd H2 acc (.lst [])) fp) [] (none::qch caps σ) (upd H2 acc (.lst [])) {s3 with heap:=h₁,toks:=s3.toks+([]:List (Str×uB)).length}:=
  Inv.comp Cp I3 f3 lt3 hns k1
 have st4:tn 0 h₁:=T.keep _ _ _ st3' fun b _ o e=>k1 b o e;generalize hX:cxC X (x::cn) scope cl ↑s3 s3 (upd H2 acc (.lst [])) fp=X' at I4;have stat:∀{H':Hp},(∀b∈fp,H' b=none)->∀b∈fp,jcp X' [] H' b:=fun hn b hb=>by
  subst hX;obtain⟨g0,g1,g2,g3,g4,g5⟩:=f3 b hb;refine⟨hn b hb,vL (lt3 b hb),fun z=>?_,.inl hb,fun y c e=>g4 y c (Cp.sub y c e),fun p hp=>absurd (show p∈([]:List (Addr×Obj)) from hp) (by simp)⟩;rcases zP.mp (I3.stkSub b z) with z|z
  .exact g1 z
  .exact g2 z
 have core:bM (vF X.prog X.w) X.A (.compLoop (.ListComp elt [⟨.Name x px,iter,ifs,0⟩] scope pos) 0 (.ref it) (.ref acc) (aS scope cl ↑s3 X.env))
   (fR (vF X.prog X.w) X.A X.xe us P (.ref acc) ↑s3) {s3 with heap:=h₁,toks:=s3.toks+([]:List (Str×uB)).length}:=by
  refine codeAny_loop rfl (fun n s'=>∃i a H',Inv X' [] (a::qch caps σ) H' s'/\tn i s'.heap/\(∀b∈fp,H' b=none)/\W i n H') (fun n s5 hI=>?_) m0 ⟨0,none,_,I4,st4,fun b hb=>(f3 b hb).1,w0⟩;obtain⟨i,a0,H5,I5,st5,fr5,w5⟩:=hI;show vC _ _ ((compTurn _ 0 _ _ _).onRaise _) _ _ s5;refine wpAny_noted ?_;rw[compTurn_list];refine uK (eO (uK ?_));have aX:X'.A=X.A:=by subst hX;rfl
  have pX:X'.prog=X.prog:=by subst hX;rfl
  have wX:X'.w=X.w:=by subst hX;rfl
  have kX:X'.K=X.K:=by subst hX;rfl
  have cX:X'.calm=true:=by subst hX;exact hc
  have eX:X'.env=aS scope cl ↑s3 X.env:=by subst hX;rfl
  rcases turn i n H5 w5 with⟨stop,qn⟩|⟨go,N,hN,step⟩
  .have z:=T.done X' pX wX kX cX i [] s5 _ H5 (fun _ _=>False) I5 (stat fr5) st5 stop;rw[aX] at z;refine wK z (fun r s6 h9=>?_) fun _ _ q=>q.elim;obtain⟨hr,I6⟩:=h9;subst hr;subst hX;exact vE (hd acc s3 _ fp I3 f3 _ H5 s6 _ I6 qn)
  .have z:=T.item X' pX wX kX cX i [] s5 _ H5 (fun _ _=>False) I5 (stat fr5) st5 go;rw[aX] at z;refine wK z (fun r s6 h9=>?_) fun _ _ q=>q.elim;obtain⟨u,hr,h6⟩:=h9;subst hr;refine uK (wK h6 (fun _ s7 h9=>?_) fun _ _ q=>q.elim);obtain⟨v,H7,I7,r7,y7,st7,fr7⟩:=h9;have I7':=I7.pinned (stat fr7) (T.obj _ _ st7);have asg:vC (vF X.prog X.w) X.A (gE (.Name x px) (aS scope cl ↑s3 X.env) u) (fun _ s8=>Inv X' ([]++qef fp s7.heap) (some v::qch caps σ) H7 s8) (fun _ _=>False) s7:=by
    subst hX;exact fI (qea (X:=cxC X (x::cn) scope cl ↑s3 s3 (upd H2 acc (.lst [])) fp) (i:=0) I7' Cp.nd rfl (.inl (lookup_relabel_local Cp.tg)) r7 (fun s' I'=>I') (.inr (lookup_relabel_local Cp.tg)))
   refine uK (wK asg (fun _ s8 I8=>?_) fun _ _ q=>q.elim);have tst:vC (vF X.prog X.w) X.A (forIn ifs true fun c r=>if r=true then do let ok<-isTrue c (aS scope cl ↑s3 X.env) (wW c (aS scope cl ↑s3 X.env));pure (dF ok) else pure (dF r))
     (TP X' ([]++qef fp s7.heap) (some v::qch caps σ) (fun b H9=>if b=true then te ↑s3 s3 (upd H2 acc (.lst [])) fp (some v::qch caps σ) H9 (fun y H3=>jp6 acc N y H3) else N H9)) (fun _ _=>False) s8:=by
    subst hX;exact ht _ _ _ _ _ s8 _ H7 _ I8 (step v H7 y7)
   refine uK (wK tst (fun b s9 h9=>?_) fun _ _ q=>q.elim);obtain⟨H9,I9,q9⟩:=h9;have fin:∀{a:Option V} {H10:Hp} {s10:uC},Inv X' ([]++qef fp s7.heap) (a::qch caps σ) H10 s10->N H10->∃m',m'<n/\∃i a H',Inv X' [] (a::qch caps σ) H' s10/\tn i s10.heap/\(∀b∈fp,H' b=none)/\W i m' H':=fun {a H10 s10} I10 n10=>
    let ⟨m',hm,w10⟩:=hN _ n10
    ⟨m',hm,i+1,a,H10,I10.unpinned,T.keep _ _ _ st7 fun b hb o e=>(I10.pin (b,o) (zK _ (zK _ (qdo hb e)))).1,fun b hb=>by
     obtain⟨o,e,d⟩:=T.obj _ _ st7 b hb;exact(I10.pin (b,o) (zK _ (zK _ (qdo hb e)))).2.1,w10⟩
   cases b with
   |false=>exact vE ⟨rfl,fin I9 q9⟩
   |true=>
    have elt':vC (vF X.prog X.w) X.A (wW elt (aS scope cl ↑s3 X.env)) (EP X' ([]++qef fp s7.heap) (some v::qch caps σ) (fun y H3=>jp6 acc N y H3)) (notedBy (vF X.prog X.w) X.A (aS scope cl ↑s3 X.env) fun e s'=>fR (vF X.prog X.w) X.A X.xe us P (.ref acc) ↑s3 (.error e) s') s9:=by
     subst hX;exact he acc s3 _ fp I3 f3 _ s9 _ H9 _ I9 q9
    refine uK (uK (wK elt' (fun y s10 h9=>?_) fun _ _ q=>q));obtain⟨w,H10,I10,r10,ys,ha,hz,q10⟩:=h9;have app:vC (vF X.prog X.w) X.A (call (.builtin "list.append") [.ref acc,y]) (EP X' ([]++qef fp s7.heap) (some v::qch caps σ) fun _ H11=>H11=upd H10 acc (.lst (ys++[w]))) (fun _ _=>False) s10:=by
     subst hX;exact qcf (X:=cxC X (x::cn) scope cl ↑s3 s3 (upd H2 acc (.lst [])) fp) _ s10 _ H10 (.ref acc) [w] (.ref acc) [y] _ I10 rfl (.cons r10 .nil) ⟨acc,ys,w,rfl,rfl,ha,hz,rfl⟩
    refine uK (wK app (fun _ s11 h9=>?_) fun _ _ q=>q.elim);obtain⟨_,H11,I11,_,e11⟩:=h9;subst e11;exact vE (vE ⟨rfl,fin I11 q10⟩)
 exact codeAny_compStart_list core (T.self _ 0 _ _ _ st4 core)
def qcm{elt iter:vZ}{x:Str}{px:Pos}{ifs:List vZ}{scope:xL}{cl:List (Str×Addr)}{pos:Pos}{caps:List Nat}{cn:List Str}{wi:TI}{tt:CT TT}{te:CT TE}(Cp:jow X x scope cl caps cn)(hc:X.calm=true)
  (hi:PI X (.Name x px) iter wi)(ht:∀C s H fp,jov (cxC X (x::cn) scope cl C s H fp) ifs (tt C s H fp))(he:∀C s H fp,PE (cxC X (x::cn) scope cl C s H fp) elt (te C s H fp))
  (hs:∀x,cF iter X.env x=pure x:=by intro _;rfl):
  PE X (.ListComp elt [⟨.Name x px,iter,ifs,0⟩] scope pos) (jhn wi caps tt te):=by
 intro pins s σ H Q I h;rw[eval_ListComp];refine cN (use:=none) rfl hs Cp.clos Cp.kind Cp.names (thn (hi pins s σ H _ I h) fun v s1 h1=>thn h1 fun itv s2 h2=>qgw Cp hc ht h2 (fun acc s3 H3 fp I3 f3 pn s9 τ H9 R I9 q9=>wK (he _ _ _ _ pn s9 τ H9 R I9 q9) (fun _ _ q=>q) fun _ _ q=>q.elim) fun acc s3 H3 fp I3 f3 τ H5 s6 v I6 q=>?_);obtain⟨m,hm,_⟩:=id I6.loc;exact⟨m,hm,fun h' sb=>⟨.ref acc,H5,Inv.uncomp I3 f3 rfl I6 sb,rfl,q⟩⟩
noncomputable def Its(x:Str):It:=⟨fun i _=>i<x.cps.size,fun i H v H'=>H'=H/\∃c,x.cps[i]?=some c/\v=.str ⟨#[c]⟩,fun i _=>i=x.cps.size⟩
def jfi{P:vA}{w:vN}{K:uX}{y:Str}{py:Pos}(x:Str)(t:Tok)(it:Addr)(ty:String)(W:∀A:vS,A.handled=none->Walks P w A it [it] [it] x.cps.size (SignAt x) (fun i h=>h.IsStrIter it ty x t i))
  (hself:∀(A:vS)(i:Nat)(s:uC)(Q:uB->uC->Prop)(E:uB->uC->Prop),s.heap.IsStrIter it ty x t i->Q (.ref it) s->vC (vF P w) A (pyIter (.ref it)) Q E s):
  jot P w K (.Name y py) (Its x) [it] it (fun i h=>h.IsStrIter it ty x t i) where
 mem:=by simp
 obj:=fun i h st b hb=>by
  have e:b=it:=by simpa using hb
  subst e;obtain⟨o,e,c,d⟩:=st;exact⟨o,e,fun v z=>by rw[d] at z;cases z⟩
 keep:=fun i h h' ⟨o,e,r⟩ k=>⟨o,k it (by simp) o e,r⟩
 item:=by
  intro X hP hw hK hc i pins s σ H E I hf st hg;subst hP hw hK;obtain⟨f0,f1,f2,f3,f4,f5⟩:=hf it (by simp);refine(W X.A (I.ok.hd hc)).item i s _ _ hg st fun v h' tk hv st' k=>?_;have I1:Inv X pins σ H {s with heap:=h',toks:=tk}:=I.turned (t':=tk) (fun b o hb e=>k b o (fun z=>hb (by simpa using z)) e) f0 f1 f3 f4 f5;obtain⟨c,u,hx,rfl⟩:=hv;exact⟨_,rfl,vE ⟨.str ⟨#[c]⟩,H,I1,⟨_,rfl⟩,⟨rfl,c,hx,rfl⟩,st',fun b hb=>(hf b hb).1⟩⟩
 done:=by
  intro X hP hw hK hc i pins s σ H E I hf st hg;subst hP hw hK;have hg':i=x.cps.size:=hg;subst hg';obtain⟨f0,f1,f2,f3,f4,f5⟩:=hf it (by simp);exact(W X.A (I.ok.hd hc)).done s _ _ st fun h' tk k=>⟨rfl,I.turned (t':=tk) (fun b o hb e=>k b o (fun z=>hb (by simpa using z)) e) f0 f1 f3 f4 f5⟩
 self:=hself
def jtc(v:V)(H:Hp)(R:It->Hp->Prop):Prop:=∃x,v=.str x/\R (Its x) H
noncomputable def jva(tl:TE):TI:=fun σ H R=>tl σ H fun v H1=>jtc v H1 R
end
end My
namespace L2
open PySem PySem.Spec PyProof.Rows
section
variable{κ:Type}[DecidableEq κ]
noncomputable def qcp(kvs:List (κ×V))(k:κ):Option V:=(kvs.find? fun kv=>decide (kv.1=k)).map (·.2)
noncomputable def qbh(kvs:List (κ×V))(k:κ)(v:V):List (κ×V):=
 if(kvs.any fun kv=>decide (kv.1=k))=true then kvs.map (fun kv=>if kv.1=k then(kv.1,v) else kv) else kvs++[(k,v)]
def qc5{p:κ×V}{r:List (κ×V)}{k:κ}(e:p.1=k):qcp (p::r) k=some p.2:=by simp[qcp,yH,e]
def qc6{p:κ×V}{r:List (κ×V)}{k:κ}(e:¬p.1=k):qcp (p::r) k=qcp r k:=by simp[qcp,yH,e]
theorem qcw(k:κ):∀kvs:List (κ×V),(kvs.any fun kv=>decide (kv.1=k))=(qcp kvs k).isSome
 | []=>rfl
 |p::r=>by
  rw[yM];by_cases e:p.1=k
  .simp only[qc5 e,gM e,Bool.true_or,Option.isSome_some]
  .rw[qc6 e,gO e,eP];exact qcw k r
theorem jfj(k j:κ)(y:V):∀kvs:List (κ×V),qcp (kvs.map fun kv=>if kv.1=k then(kv.1,y) else kv) j=(qcp kvs j).map fun x=>if j=k then y else x
 | []=>rfl
 |p::r=>by
  have ih:=jfj k j y r;rw[zV];by_cases h:p.1=k
  .rw[gL h];by_cases e:p.1=j
   .rw[qc5 (p:=(p.1,y)) e,qc5 e,dG,gL (e.symm.trans h)]
   .rw[qc6 (p:=(p.1,y)) e,qc6 e,ih]
  .rw[gK h];by_cases e:p.1=j
   .rw[qc5 (p:=p) e,qc5 e,dG,gK (fun z=>h (e.trans z))]
   .rw[qc6 (p:=p) e,qc6 e,ih]
theorem jc8(k j:κ)(y:V):∀kvs:List (κ×V),qcp kvs k=none->qcp (kvs++[(k,y)]) j=if j=k then some y else qcp kvs j
 | [],_=>by
  by_cases e:k=j
  .rw[gL e.symm];exact qc5 (p:=(k,y)) e
  .rw[gK (fun z=>e z.symm)];exact qc6 (p:=(k,y)) e
 |p::r,hn=>by
  rw[List.cons_append];have hk:¬p.1=k:=fun z=>by rw[qc5 z] at hn;cases hn
  rw[qc6 hk] at hn;have ih:=jc8 k j y r hn;by_cases e:p.1=j
  .rw[qc5 e,qc5 e,gK (fun z=>hk (e.trans z))]
  .rw[qc6 e,qc6 e,ih]
def qf6(kvs:List (κ×V))(k j:κ)(y:V):qcp (qbh kvs k y) j=if j=k then some y else qcp kvs j:=by
 unfold qbh;by_cases a:(kvs.any fun kv=>decide (kv.1=k))=true
 .rw[gL a,jfj];rw[qcw] at a;by_cases e:j=k
  .obtain⟨x,hx⟩:=cL.mp a;rw[gL e,e,hx,dG,gL rfl]
  .rw[gK e]
   cases qcp kvs j with
   |none=>rfl
   |some x=>rw[dG,gK e]
 .rw[gK a];refine jc8 k j y kvs ?_;rw[qcw] at a
  cases q:qcp kvs k with
  |none=>rfl
  |some x=>rw[q] at a;exact(a rfl).elim
def qb0(kvs:List (κ×V))(k:κ)(v:V):(qbh kvs k v).length<=kvs.length+1:=by
 unfold qbh
 split
 .rw[zB];omega
 .rw[zT,zR,yK];omega
def jka{kvs:List (κ×V)}{k:κ}(v:V)(h:qcp kvs k=none):qbh kvs k v=kvs++[(k,v)]:=by
 unfold qbh;rw[qcw,h];exact gK ∅
def qgz.isSome_eq{o:Option V}{u:Option uB}(r:qgz o u):o.isSome=u.isSome:=by
 cases o with
 |none=>cases u with
  |none=>rfl
  |some _=>exact(show False from r).elim
 |some _=>cases u with
  |none=>exact(show False from r).elim
  |some _=>rfl
theorem qgz.getD{o:Option V}{u:Option uB}{d:V}{d':uB}(r:qgz o u)(rd:qbg d d'):qbg (o.getD d) (u.getD d'):=by
 cases o with
 |none=>cases u with
  |none=>exact rd
  |some _=>exact(show False from r).elim
 |some _=>cases u with
  |none=>exact(show False from r).elim
  |some _=>exact r
def KV.val{kvs:List (κ×V)}{vs:List (κ×uB)}(r:KV kvs vs)(k:κ):qgz (qcp kvs k) (cH vs k):=by
 unfold KV at r
 induction r with
 |nil=>exact xF
 | @cons p q ps qs h t ih=>
  obtain⟨h1,h2⟩:=h;by_cases e:p.1=k
  .have e':q.1=k:=h1.symm.trans e;have b:cH (q::qs) k=some q.2:=by simp[cH,yH,e']
   rw[qc5 e,b];exact h2
  .have e':¬q.1=k:=fun z=>e (h1.trans z);have b:cH (q::qs) k=cH qs k:=by simp[cH,yH,e']
   rw[qc6 e,b];exact ih
theorem KV.any{kvs:List (κ×V)}{vs:List (κ×uB)}(r:KV kvs vs)(k:κ):(kvs.any fun kv=>decide (kv.1=k))=vs.any fun kv=>decide (kv.1=k):=by
 unfold KV at r
 induction r with
 |nil=>rfl
 |cons h t ih=>rw[yM,yM,ih,h.1]
def KV.repl{kvs:List (κ×V)}{vs:List (κ×uB)}(r:KV kvs vs)(k:κ){y:V}{u:uB}(ry:qbg y u):
  KV (kvs.map fun kv=>if kv.1=k then(kv.1,y) else kv) (vs.map fun kv=>if kv.1=k then(kv.1,u) else kv):=by
 unfold KV at r⊢
 induction r with
 |nil=>exact .nil
 | @cons p q ps qs h t ih=>
  rw[zV,zV];refine .cons ?_ ih;obtain⟨h1,h2⟩:=h;by_cases e:p.1=k
  .rw[gL e,gL (h1.symm.trans e)];exact⟨h1,ry⟩
  .rw[gK e,gK (fun z=>e (h1.trans z))];exact⟨h1,h2⟩
def KV.put{kvs:List (κ×V)}{vs:List (κ×uB)}(r:KV kvs vs)(k:κ){y:V}{u:uB}(ry:qbg y u):KV (qbh kvs k y) (stored vs k u):=by
 unfold qbh stored;rw[r.any k];by_cases e:(vs.any fun kv=>decide (kv.1=k))=true
 .rw[gL e,gL e];exact r.repl k ry
 .rw[gK e,gK e];exact Paired.snoc r ⟨rfl,ry⟩
def KV.keys{kvs:List (κ×V)}{vs:List (κ×uB)}(r:KV kvs vs):kvs.map (·.1)=vs.map (·.1):=by
 unfold KV at r
 induction r with
 |nil=>rfl
 |cons h t ih=>rw[zV,zV,ih,h.1]
theorem KV.length{kvs:List (κ×V)}{vs:List (κ×uB)}(r:KV kvs vs):kvs.length=vs.length:=Paired.length r
end
def jgd{P:vA}{w:vN}{k:Key}{u:uB}(r:qbg (kV k) u):(qbk P w).is k u=true:=by
 cases k with
 |inl i=>obtain⟨t,e⟩:=(show ∃t,u=gC i t from r);subst e;exact jdz P w i t
 |inr x=>obtain⟨t,e⟩:=(show ∃t,u=dZ x t from r);subst e;exact jd0 P w x t
theorem jc9{P:vA}{w:vN}:∀{ks:List Key} {us:List uB},qbl (ks.map kV) us->ItemsAre (qbk P w) ks us
 | [],_,r=>by rw[fM] at r;cases r;exact .nil
 |k::ks,_,r=>by
  rw[zV] at r
  cases r with
  |cons h t=>exact .cons (jgd h) (jc9 t)
abbrev KT(H:Hp):List (List Key×V)->List (List Key×Addr×uB)->Prop:=Paired fun p q=>p.1=q.1/\H q.2.1=some (.tup (p.1.map kV))/\qbg p.2 q.2.2
def KT.val{H:Hp}{kvs:List (List Key×V)}{xs:List (List Key×Addr×uB)}(r:KT H kvs xs)(k:List Key):qgz (qcp kvs k) ((atKey xs k).map (·.2)):=by
 induction r with
 |nil=>exact xF
 | @cons p q ps qs h t ih=>
  obtain⟨h1,_,h2⟩:=h;by_cases e:p.1=k
  .have e':q.1=k:=h1.symm.trans e;have b:atKey (q::qs) k=some q.2:=by simp[atKey,yH,e']
   rw[qc5 e,b];exact h2
  .have e':¬q.1=k:=fun z=>e (h1.trans z);have b:atKey (q::qs) k=atKey qs k:=by simp[atKey,yH,e']
   rw[qc6 e,b];exact ih
def KT.repl{H:Hp}{kvs:List (List Key×V)}{xs:List (List Key×Addr×uB)}(r:KT H kvs xs)(k:List Key){y:V}{u:uB}(ry:qbg y u):
  KT H (kvs.map fun kv=>if kv.1=k then(kv.1,y) else kv) (xs.map (putAt k u)):=by
 induction r with
 |nil=>exact .nil
 | @cons p q ps qs h t ih=>
  rw[zV,zV];refine .cons ?_ ih;obtain⟨h1,h2,h3⟩:=h;unfold putAt;by_cases e:p.1=k
  .rw[gL e,gL (h1.symm.trans e)];exact⟨h1,h2,ry⟩
  .rw[gK e,gK (fun z=>e (h1.trans z))];exact⟨h1,h2,h3⟩
def KT.put{H:Hp}{kvs:List (List Key×V)}{xs:List (List Key×Addr×uB)}(r:KT H kvs xs)(k:List Key){b:Addr}{y:V}{u:uB}(hb:H b=some (.tup (k.map kV)))(ry:qbg y u):
  KT H (qbh kvs k y) (storedH xs k b u):=by
 have e:(kvs.any fun kv=>decide (kv.1=k))=(atKey xs k).isSome:=by
  rw[qcw,(r.val k).isSome_eq,aT]
 unfold qbh storedH;rw[e];by_cases q:(atKey xs k).isSome=true
 .rw[gL q,gL q];exact r.repl k ry
 .rw[gK q,gK q];exact Paired.snoc r ⟨rfl,hb,ry⟩
def KT.keeps{H H':Hp}{kvs:List (List Key×V)}{xs:List (List Key×Addr×uB)}(r:KT H kvs xs)(ht:∀b ys,H b=some (.tup ys)->H' b=some (.tup ys)):KT H' kvs xs:=
 Paired.mapP r fun _ _ z=>⟨z.1,ht _ _ z.2.1,z.2.2⟩
section
variable{P:vA}{w:vN}{H:Hp}{h:vU}{a:Addr}
def jp8{u:HO}(ok:HOk P w H h)(e:Rd H a u):qbw P w H h a u:=e.ok ok
def qet{kvs:List (Key×V)}(ok:HOk P w H h)(e:Rd H a (.dK kvs)):kvs.length<=sizeLine/\(a==xX)=false/\∃vs,KV kvs vs/\h.DictOf (qbk P w) a vs:=
 show qbw P w H h a (.dK kvs) from jp8 ok e
def jp9{kvs:List (Key×V)}(ok:HOk P w H h)(e:H a=some (.dK kvs)):kvs.length<=sizeLine/\(a==xX)=false/\∃vs,KV kvs vs/\h.DictOf (qbk P w) a vs:=qet ok (.inl e)
def jda{ks:List Key}(ok:HOk P w H h)(e:H a=some (.tup (ks.map kV))):(eA (qbk P w)).is h ks a:=by
 obtain⟨_,its,r,o,h1,h2,n,h3⟩:=(show qbw P w H h a (.tup (ks.map kV)) from ok a _ e);exact⟨o,its.toArray,n,h1,h2,h3,by simpa using jc9 r⟩
def jge{kvs:List (List Key×V)}(ok:HOk P w H h)(e:Rd H a (.dT kvs)):kvs.length<=sizeLine/\(a==xX)=false/\
  ∃xs,KT H kvs xs/\h.DictOfH (eA (qbk P w)) a xs:=by
 obtain⟨z,y,xs,r,o,es,ep,h1,h2,h3,h4,h5⟩:=(show qbw P w H h a (.dT kvs) from jp8 ok e);refine⟨z,y,xs,r,o,es,ep,h1,h2,h3,h4,fun x hx=>?_,h5⟩;have all:∀{l:List (List Key×V)} {m:List (List Key×Addr×uB)},KT H l m->∀x∈m,(eA (qbk P w)).is h x.1 x.2.1:=by
  intro l m q
  induction q with
  |nil=>intro x hx;exact nomatch hx
  | @cons p q ps qs hq t ih=>
   intro x hx;rcases zP.mp hx with e|hx
   .subst e;exact jda ok (by rw[<-hq.1];exact hq.2.1)
   .exact ih x hx
 exact all r x hx
def jtd{kvs:List (List Key×V)}(ok:HOk P w H h)(e:H a=some (.dT kvs)):kvs.length<=sizeLine/\(a==xX)=false/\
  ∃xs,KT H kvs xs/\h.DictOfH (eA (qbk P w)) a xs:=jge ok (.inl e)
end
def jgf(H:Hp)(a:Addr)(y:V)(r:Option V):Prop:=
 (∃kvs k,Rd H a (.dK kvs)/\y=kV k/\r=qcp kvs k)\/∃kvs k b,Rd H a (.dT kvs)/\y=.ref b/\H b=some (.tup (k.map kV))/\r=qcp kvs k
def jox(H:Hp)(a:Addr)(y v:V)(H':Hp):Prop:=
 (∃kvs k,H a=some (.dK kvs)/\y=kV k/\kvs.length<sizeLine/\H'=upd H a (.dK (qbh kvs k v)))\/
 ∃kvs k b,H a=some (.dT kvs)/\y=.ref b/\H b=some (.tup (k.map kV))/\kvs.length<sizeLine/\H'=upd H a (.dT (qbh kvs k v))
theorem jox.k{H:Hp}{a:Addr}{kvs:List (Key×V)}{k:Key}{v:V}(e:H a=some (.dK kvs))(hl:kvs.length<sizeLine):jox H a (kV k) v (upd H a (.dK (qbh kvs k v))):=.inl ⟨kvs,k,e,rfl,hl,rfl⟩
section
variable{X:Cx}{pins:List (Addr×Obj)}{σ:St}{H:Hp}{s:uC}{a:Addr}{y v:V}{u r:uB}{o:Option V}{A:vS}{E:uB->uC->Prop}
def Inv.big(I:Inv X pins σ H s):xX<↑s:=by
 have h:uT<↑s:=(I.mod.glob.keeps I.bk).lt;exact aU ∅ h
def jhp{Q:uB->uC->Prop}(hu:A.units+1<cLine)(I:Inv X pins σ H s)(g:jgf H a y (some v))(ry:qbg y u)(h:∀w' s',Inv X pins σ H s'->qbg v w'->Q w' s'):
  vC (vF X.prog X.w) A (getItem (.ref a) u) Q E s:=by
 rcases g with⟨kvs,k,e,ey,l⟩|⟨kvs,k,b,e,ey,eb,l⟩
 .subst ey;obtain⟨z,hd,vs,rel,dd⟩:=qet I.hok e;obtain⟨w',hw,rw'⟩:=qgz.some_of (v:=v) (o:=cH vs k) (by rw[l];exact rel.val k);exact wpAny_getItem_of (jgd ry) dd.mapOf hw (h w' _ (I.tok _) rw')
 .subst ey
  cases(show u=uV b from ry)
  obtain⟨z,hd,xs,rel,dd⟩:=jge I.hok e;obtain⟨w',hw,rw'⟩:=qgz.some_of (v:=v) (o:=(atKey xs k).map (·.2)) (by rw[l];exact rel.val k);obtain⟨p,hp,hp2⟩:=uH.mp hw;refine wpAny_getItem_heap (cC hu) (jda I.hok eb) dd hp ?_;rw[hp2];exact h w' _ (I.tok _) rw'
def jwd{Q:uB->uC->Prop}(hu:A.units+1<cLine)(I:Inv X pins σ H s)(g:jgf H a y o)(ry:qbg y u)(h:∀s',Inv X pins σ H s'->Q (.bool o.isSome) s'):
  vC (vF X.prog X.w) A (wJ .In u (.ref a)) Q E s:=by
 rcases g with⟨kvs,k,e,ey,l⟩|⟨kvs,k,b,e,ey,eb,l⟩
 .subst ey;obtain⟨z,hd,vs,rel,dd⟩:=qet I.hok e;refine wpAny_in_of (jgd ry) hd dd.mapOf ?_;rw[<-(rel.val k).isSome_eq,<-l];exact h _ (I.tok _)
 .subst ey
  cases(show u=uV b from ry)
  obtain⟨z,hd,xs,rel,dd⟩:=jge I.hok e;refine wpAny_in_heap (cC hu) (jda I.hok eb) hd dd ?_;have q:=(rel.val k).isSome_eq;rw[aT] at q;rw[<-q,<-l];exact h _ (I.tok _)
def jec{h':vU}{t':Nat}{ob:HO}(I:Inv X pins σ H s)(mu:Mut (H a))(hs:bZ a s.heap h')(he:∃q,h'.get? a=some q)(new:qbw X.prog X.w (upd H a ob) h' a ob):
  Inv X pins σ (upd H a ob) {s with heap:=h',toks:=t'}:=
 I.write (x:=a) (e:=a) mu (.inl rfl) (fun b q hb z=>(hs.2 b hb).trans z) he new
def jhq{P:vA}{w:vN}{H':Hp}{h':vU}{kvs:List (Key×V)}{vs:List (Key×uB)}(z:kvs.length<=sizeLine)(hd:(a==xX)=false)(rel:KV kvs vs)(dd:h'.DictOf (qbk P w) a vs):
  qbw P w H' h' a (.dK kvs):=⟨z,hd,vs,rel,dd⟩
def jhr{H':Hp}{Q:Unit->uC->Prop}(hu:A.units+1<cLine)(I:Inv X pins σ H s)(g:jox H a y v H')(ry:qbg y u)(rv:qbg v r)(h:∀s',Inv X pins σ H' s'->Q () s'):
  vC (vF X.prog X.w) A (setItem (.ref a) u r) Q E s:=by
 rcases g with⟨kvs,k,e,ey,l,eH⟩|⟨kvs,k,b,e,ey,eb,l,eH⟩
 .subst ey eH;obtain⟨z,hd,vs,rel,dd⟩:=jp9 I.hok e;have hz:vs.length<=sizeLine:=by rw[<-rel.length];exact z
  have hl:(qbh kvs k v).length<=sizeLine:=by have:=qb0 kvs k v;omega
  refine wpAny_setItem_pairs (hsz:=hz) (jgd ry) dd fun h' dd' hs=>h _ ?_;have he:∃q,h'.get? a=some q:=let ⟨q,_,_,hq,_⟩:=dd';⟨q,hq⟩
  exact jec I (by rw[e];exact xF) hs he (jhq hl hd (rel.put k rv) dd')
 .subst ey eH
  cases(show u=uV b from ry)
  obtain⟨z,hd,xs,rel,dd⟩:=jtd I.hok e;have hz:xs.length<=sizeLine:=by rw[<-Paired.length rel];exact z
  have hl:(qbh kvs k v).length<=sizeLine:=by have:=qb0 kvs k v;omega
  refine wpAny_setItem_heap (hsz:=hz) (cC hu) (jda I.hok eb) dd fun h' dd' hs=>h _ ?_;obtain⟨q,es,ep,hq,h2,h3,h4,_,h5⟩:=dd';refine jec I (by rw[e];exact xF) hs ⟨q,hq⟩ ⟨hl,hd,_,(rel.put k eb rv).keeps fun c ys ec=>?_,q,es,ep,hq,h2,h3,h4,h5⟩;rw[qa7 (jgp ec e (fun z=>nomatch z))];exact ec
end
section
variable{X:Cx}{pins:List (Addr×Obj)}{σ:St}{H:Hp}{s:uC}{a:Addr}{kvs:List (Key×V)}{A:vS}{E:uB->uC->Prop}
def jte{Q:uB->uC->Prop}(I:Inv X pins σ H s)(e:Rd H a (.dK kvs))(h:∀t s',Inv X pins σ H s'->Q (.int kvs.length t) s'):vC (vF X.prog X.w) A (call (.builtin "len") [.ref a]) Q E s:=by
 obtain⟨z,hd,vs,rel,dd⟩:=qet I.hok e;refine call_len_dict hd dd (by rw[<-rel.length];rw[yY] at z;omega) ?_;rw[<-rel.length];exact h _ _ (I.tok _)
end
def jvb(i:vZ):Prop:=∀ov iv,subscripted i false ov iv=operate [ov,iv] (getItem ov iv)
def jnb{prog:vA}{w:vN}{A:vS}{E:uB->uC->Prop}{s:uC}{env:Env}{value slice:vZ}{pos:Pos}{T id:String}{Q:uB->uC->Prop}
  (hl:typeLookup (.type T) "__getitem__"=pure (some (.builtin id)))(hs:jvb slice)
  (h:vC (vF prog w) A (wW value env) (fun o s₁=>vC (vF prog w) A (wW slice env) (fun i s₂=>s₂.TypeIs o T/\vC (vF prog w) A (getItem o i) Q E s₂) E s₁) E s):
  vC (vF prog w) A (wW (.Subscript value slice pos) env) Q E s:=by
 refine Subscript_ (wK h (fun o s₁ h₁=>wK h₁ (fun i s₂ h₂=>?_) fun _ _ x=>x) fun _ _ x=>x);obtain⟨hT,h₂⟩:=h₂;unfold subscriptTail;refine uK ?_;rw[getitemInPython_of_ne hT.not_modules];refine uK (wpAny_specialOf hT hl ?_);have fin:vC (vF prog w) A (subscripted slice false o i) (fun r s₃=>vC (vF prog w) A (letTemporaryGo value o r >>= fun _=>pure r) Q E s₃) E s₂:=by
  rw[hs o i];exact wpAny_operating (wK h₂ (fun r s₃ h₃=>uK (wpAny_letTemporaryGo (vE h₃))) fun _ _ x=>x)
 first
  |exact vE (uK fin)
  |exact uK (vE (uK fin))
  |exact uK fin
def jed{X:Cx}{pins:List (Addr×Obj)}{σ:St}{H:Hp}{s:uC}{a:Addr}{y:V}{o:Option V}(I:Inv X pins σ H s)(g:jgf H a y o):s.TypeIs (.ref a) "dict":=by
 rcases g with⟨kvs,k,e,_,_⟩|⟨kvs,k,b,e,_,_,_⟩
 .obtain⟨_,_,vs,_,dd⟩:=qet I.hok e;exact dd.typeIs
 .obtain⟨_,_,xs,_,dd⟩:=jge I.hok e;exact dd.typeIs
noncomputable def jqa(td ty:TE):TE:=fun σ H Q=>td σ H fun x H1=>ty σ H1 fun y H2=>∃a v,x=.ref a/\jgf H2 a y (some v)/\Q v H2
noncomputable def jvc(ty td:TE):TE:=fun σ H Q=>ty σ H fun y H1=>td σ H1 fun x H2=>∃a o,x=.ref a/\jgf H2 a y o/\Q (.bl o.isSome) H2
noncomputable def jqb(td ty tv:TE):TS:=fun D σ H=>tv σ H fun v H1=>td σ H1 fun x H2=>ty σ H2 fun y H3=>∃a H4,x=.ref a/\jox H3 a y v H4/\D.nx σ H4
section
variable{X:Cx}{o i value:vZ}{pos pos':Pos}{td ty tv:TE}
def qah(hu:X.A.units+1<cLine)(ho:PE X o td)(hi:PE X i ty)(hs:jvb i):PE X (.Subscript o i pos) (jqa td ty):=by
 intro pins s σ H Q I h;refine jnb PySem.F.slot_dict_getitem.lookup hs (thn (ho pins s σ H _ I h) fun u s1 ⟨x,H1,I1,rx,q1⟩=>thn (hi pins s1 σ H1 _ I1 q1) fun iv s2 h9=>?_);obtain⟨y,H2,I2,ry,a,v,ex,g,q2⟩:=h9;subst ex;obtain rfl:u=uV a:=rx;exact⟨jed I2 g,jhp hu I2 g ry fun w' s3 I3 rw'=>⟨v,H2,I3,rw',q2⟩⟩
def jln(hu:X.A.units+1<cLine)(hi:PE X i ty)(ho:PE X o td):PC X .In i o (jvc ty td):=by
 intro pins s σ H Q I h;refine thn (hi pins s σ H _ I h) fun iv s1 ⟨y,H1,I1,ry,q1⟩=>thn (ho pins s1 σ H1 _ I1 q1) fun u s2 h9=>?_;obtain⟨x,H2,I2,rx,a,ov,ex,g,q2⟩:=h9;subst ex;obtain rfl:u=uV a:=rx;exact jwd hu I2 g ry fun s3 I3=>⟨.bl ov.isSome,H2,I3,rfl,q2⟩
def qb2(hu:X.A.units+1<cLine)(ho:PE X o td)(hi:PE X i ty)(hv:PE X value tv)(hs:eB value (some (.Subscript o i pos')) pos.line X.env=pure false):
  PS X (.Assign [.Subscript o i pos'] value pos) (jqb td ty tv):=by
 intro pins s σ H D I h;refine wpAny_Assign_Subscript (thn (hv pins s σ H _ I h) fun r s1 ⟨v,H1,I1,rv,q1⟩=>thn (ho pins s1 σ H1 _ I1 q1) fun u s2 ⟨x,H2,I2,rx,q2⟩=>thn (hi pins s2 σ H2 _ I2 q2) fun iv s3 h9=>?_) hs;obtain⟨y,H3,I3,ry,a,H4,ex,g,q3⟩:=h9;subst ex;obtain rfl:u=uV a:=rx;exact jhr hu I3 g ry rv fun s4 I4=>⟨σ,H4,I4,q3⟩
end
def jfk{P:vA}{w:vN}{H:Hp}(h:vU)(hb:xX<h.objs.size):qbw P w H (h.push {cls:=.type "dict",data:=.dict #[]}) h.objs.size (.dK []):=
 ⟨wR _,beq_eq_false_iff_ne.mpr (xS (vL hb)),[],.nil,Heap.DictOf.new h⟩
noncomputable def jlo:TE:=fun _ H Q=>∀p,H p=none->Q (.ref p) (upd H p (.dK []))
section
variable{X:Cx}{pos:Pos}
def qb7:PE X (.Dict [] [] pos) jlo:=fun pins s σ H Q I h=>
 wpAny_Dict_empty ⟨.ref ↑s,_,I.laid (a:=↑s) (o:=.dK []) (t':=s.toks) (fun _ _ q=>uG _ q) (uF _) (jfk s.heap I.big),rfl,h _ (I.hok.fresh (uF _))⟩
end
noncomputable def jhs:List (TE×TE)->St->Hp->(List (V×V)->Hp->Prop)->Prop
 | [],_,H,Q=>Q [] H
 |(tk,tv)::r,σ,H,Q=>tk σ H fun x H1=>tv σ H1 fun y H2=>jhs r σ H2 fun ps H3=>Q ((x,y)::ps) H3
abbrev VV:List (V×V)->List (uB×uB)->Prop:=Paired fun p q=>qbg p.1 q.1/\qbg p.2 q.2
def PPs(X:Cx)(pos:Pos)(keys:List (Option vZ))(values:List vZ)(trs:List (TE×TE)):Prop:=
 ∀(pins:List (Addr×Obj))(s:uC)(σ:St)(H:Hp)(Q:List (V×V)->Hp->Prop),Inv X pins σ H s->jhs trs σ H Q->
  vC (vF X.prog X.w) X.A (evalPairs (pairTrees keys values X.env pos)) (fun vs s'=>∃ps H',Inv X pins σ H' s'/\VV ps vs/\Q ps H') X.xe s
def jnc{X:Cx}{pos:Pos}:PPs X pos [] [] []:=fun pins s σ H Q I h=>pairTrees_nil_walk ⟨[],H,I,.nil,h⟩
def jkb{X:Cx}{pos:Pos}{k v:vZ}{ks:List (Option vZ)}{vs:List vZ}{tk tv:TE}{trs:List (TE×TE)}(hk:PE X k tk)(hv:PE X v tv)(hr:PPs X pos ks vs trs):
  PPs X pos (some k::ks) (v::vs) ((tk,tv)::trs):=fun pins s σ H Q I h=>
 pairTrees_cons_walk (thn (hk pins s σ H _ I h) fun u s1 ⟨x,H1,I1,rx,q1⟩=>thn (hv pins s1 σ H1 _ I1 q1) fun w2 s2 ⟨y,H2,I2,ry,q2⟩=>
  thn (hr pins s2 σ H2 _ I2 q2) fun ws s3 ⟨ps,H3,I3,rel,q3⟩=>⟨(x,y)::ps,H3,I3,.cons ⟨rx,ry⟩ rel,q3⟩)
noncomputable def qg8(kvs more:List (Key×V)):List (Key×V):=more.foldl (fun acc kv=>qbh acc kv.1 kv.2) kvs
def KV.merge:∀{more:List (Key×V)} {rs:List (Key×uB)} {kvs:List (Key×V)} {vs:List (Key×uB)},KV more rs->KV kvs vs->KV (qg8 kvs more) (merged vs rs):=by
 intro more rs kvs vs r;unfold KV at r
 induction r generalizing kvs vs with
 |nil=>intro q;exact q
 | @cons p q ps qs h t ih=>
  intro r0;have e:KV (qbh kvs p.1 p.2) (stored vs q.1 q.2):=by
   have:=r0.put p.1 h.2;rw[<-h.1];exact this
  exact ih e
theorem qej:∀(more kvs:List (Key×V)),(qg8 kvs more).length<=kvs.length+more.length
 | [],kvs=>by show kvs.length<=kvs.length+0;omega
 |p::r,kvs=>by
  have h1:=qej r (qbh kvs p.1 p.2);have h2:=qb0 kvs p.1 p.2;show(qg8 (qbh kvs p.1 p.2) r).length<=_;rw[zR];omega
theorem qgd{P:vA}{w:vN}:∀{kvs:List (Key×V)} {ws:List (uB×uB)},VV (kvs.map fun kv=>(kV kv.1,kv.2)) ws->∃rs,Carries (qbk P w) ws rs/\KV kvs rs
 | [],_,r=>by rw[fM] at r;cases r;exact⟨[],xF,.nil⟩
 |p::kvs,_,r=>by
  rw[zV] at r
  cases r with
  | @cons a b as bs h t=>
   obtain⟨rs,c,q⟩:=qgd (P:=P) (w:=w) t;obtain⟨b1,b2⟩:=b;exact⟨(p.1,b2)::rs,⟨jgd h.1,rfl,c⟩,.cons ⟨rfl,h.2⟩ q⟩
noncomputable def jqc(trs:List (TE×TE)):TE:=fun σ H Q=>∀p,H p=none->jhs trs σ (upd H p (.dK [])) fun ps H2=>H2 p=some (.dK [])/\∃kvs:List (Key×V),ps=kvs.map (fun kv=>(kV kv.1,kv.2))/\kvs.length<=15/\Q (.ref p) (upd H2 p (.dK (qg8 [] kvs)))
def jnd{X:Cx}{pos:Pos}{keys:List (Option vZ)}{values:List vZ}{trs:List (TE×TE)}(h:PPs X pos keys values trs)(hall:keys.all (·.isSome)=true)(hl:keys.length=values.length)(h0:keys≠ [])
  (h15:keys.length<=15):PE X (.Dict keys values pos) (jqc trs):=by
 intro pins s σ H Q I q;have hn:=I.hok.fresh (uF ↑s);have I1:=I.laid (a:=↑s) (o:=.dK []) (h':=s.heap.push {cls:=.type "dict",data:=.dict #[]}) (t':=s.toks) (fun _ _ q=>uG _ q) (uF _) (jfk s.heap I.big);refine wpAny_Dict_walk (knd:=qbk X.prog X.w) hall hl h0 h15 (thn (h pins _ σ _ _ I1 (q _ hn)) fun ws s2 h9=>?_);obtain⟨ps,H2,I2,rel,e,kvs,ep,lk,q2⟩:=h9;subst ep;obtain⟨rs,c,rk⟩:=qgd (P:=X.prog) (w:=X.w) rel;obtain⟨z,hd,vs0,r0,dd⟩:=jp9 I2.hok e
 cases r0
 refine⟨rs,c,dd,fun h' dd' hs=>⟨.ref ↑s,_,?_,rfl,q2⟩⟩;have hz:(qg8 [] kvs).length<=sizeLine:=by
  have h1:=qej kvs [];rw[yK] at h1;rw[yY];omega
 have he:∃q,h'.get? ↑s=some q:=let ⟨q,_,_,hq,_⟩:=dd';⟨q,hq⟩
 exact jec I2 (by rw[e];exact xF) hs he (jhq hz hd (rk.merge .nil) dd')
structure M1(X:Cx)(o:vZ)(m:Str)(apos:Pos)(e:vZ)(cpos:Pos):Prop where
 base:bN o m X.env (wW o X.env)=wW o X.env
 few:((xI cpos (vG [e] X.env)).all (fun x=>!x.1) && (dS cpos (bQ [] X.env)).all (fun x=>x.1.isSome)
  && decide (([e]:List vZ).length+([]:List Keyword).length+(if([]:List Keyword).isEmpty then 0 else 1)<30))=true
 line:(apos.endLine==cpos.line)=true
 trees:xI cpos (vG [e] X.env)=[(false,wW e X.env)]
structure M2(X:Cx)(o:vZ)(m:Str)(apos:Pos)(e f:vZ)(cpos:Pos):Prop where
 base:bN o m X.env (wW o X.env)=wW o X.env
 few:((xI cpos (vG [e,f] X.env)).all (fun x=>!x.1) && (dS cpos (bQ [] X.env)).all (fun x=>x.1.isSome)
  && decide (([e,f]:List vZ).length+([]:List Keyword).length+(if([]:List Keyword).isEmpty then 0 else 1)<30))=true
 line:(apos.endLine==cpos.line)=true
 trees:xI cpos (vG [e,f] X.env)=[(false,wW e X.env),(false,wW f X.env)]
def IsD(H:Hp)(a:Addr):Prop:=(∃kvs,Rd H a (.dK kvs))\/∃kvs,Rd H a (.dT kvs)
def jqd{X:Cx}{pins:List (Addr×Obj)}{σ:St}{H:Hp}{s:uC}{a:Addr}(I:Inv X pins σ H s)(d:IsD H a):
  s.TypeIs (.ref a) "dict"/\(∀b,uV a=.ref b->∃ob,s.heap.get? b=some ob/\ob.dict=none)/\(a==xX)=false:=by
 rcases d with⟨kvs,e⟩|⟨kvs,e⟩
 .obtain⟨_,hd,vs,_,dd⟩:=qet I.hok e;refine⟨dd.typeIs,fun b q=>?_,hd⟩
  cases q
  obtain⟨ob,_,_,h1,h2,_⟩:=dd;exact⟨ob,h1,h2.2.1⟩
 .obtain⟨_,hd,xs,_,dd⟩:=jge I.hok e;refine⟨dd.typeIs,fun b q=>?_,hd⟩
  cases q
  obtain⟨ob,_,_,h1,h2,_⟩:=dd;exact⟨ob,h1,h2.2.1⟩
section
variable{X:Cx}{pins:List (Addr×Obj)}{σ:St}{H:Hp}{s:uC}{a:Addr}{y d:V}{u r:uB}{o:Option V}{A:vS}{E:uB->uC->Prop}
def jqe{Q:uB->uC->Prop}(hu:A.units+1<cLine)(I:Inv X pins σ H s)(g:jgf H a y o)(ry:qbg y u)(rd:qbg d r)(h:∀w' s',Inv X pins σ H s'->qbg (o.getD d) w'->Q w' s'):
  vC (vF X.prog X.w) A (call (.builtin "dict.get") [.ref a,u,r]) Q E s:=by
 rcases g with⟨kvs,k,e,ey,l⟩|⟨kvs,k,b,e,ey,eb,l⟩
 .subst ey;obtain⟨z,hd,vs,rel,dd⟩:=qet I.hok e;refine call_meetsIn dN dd.typeIs PySem.F.entry_dict_get (PySem.F.args_dict_get_3 _ _ _) (meets_dict_get_default (qbk X.prog X.w) a (jgd ry) hd r) ⟨_,dd.mapOf,h _ _ (I.tok _) ?_⟩;rw[l];exact(rel.val k).getD rd
 .subst ey
  cases(show u=uV b from ry)
  obtain⟨z,hd,xs,rel,dd⟩:=jge I.hok e;refine call_meetsIn dN dd.typeIs PySem.F.entry_dict_get (PySem.F.args_dict_get_3 _ _ _) (meetsH_dict_get_default (eA (qbk X.prog X.w)) a b hd r) ⟨cC hu,k,xs,jda I.hok eb,dd,h _ _ (I.tok _) ?_⟩;rw[l];exact(rel.val k).getD rd
end
noncomputable def jlp(td ty tx:TE):TE:=fun σ H Q=>td σ H fun x H1=>∃a,x=.ref a/\IsD H1 a/\ty σ H1 fun y H2=>tx σ H2 fun z H3=>∃o,jgf H3 a y o/\Q (o.getD z) H3
section
variable{X:Cx}{o e f:vZ}{apos cpos:Pos}{td ty tx:TE}
def qfa(hu:X.A.units+1<cLine)(ho:PE X o td)(he:PE X e ty)(hf:PE X f tx)(m:M2 X o "get" apos e f cpos):PE X (.Call (.Attribute o "get" apos) [e,f] [] cpos) (jlp td ty tx):=by
 intro pins s σ H Q I h;refine wpAny_Call_method m.base m.few m.line PySem.F.plainAttrs_dict dN PySem.F.type_dict_get (thn (ho pins s σ H _ I h) fun u s1 h9=>?_);obtain⟨x,H1,I1,rx,a,ex,d,q1⟩:=h9;subst ex;obtain rfl:u=uV a:=rx;obtain⟨t1,t2,_⟩:=jqd I1 d;refine⟨t1,t2,?_⟩;rw[m.trees];refine cZ rfl (dU (eY (thn (he pins s1 σ H1 _ I1 q1) fun iv s2 ⟨y,H2,I2,ry,q2⟩=>
  eY (thn (hf pins s2 σ H2 _ I2 q2) fun fv s3 ⟨z,H3,I3,rz,ov,g,q3⟩=>Calls.spliced_nil ?_))))
 exact jqe hu I3 g ry rz fun w' s4 I4 rw'=>⟨_,H3,I4,rw',q3⟩
end
section
variable{X:Cx}{pins:List (Addr×Obj)}{σ:St}{H:Hp}{s:uC}{a:Addr}{kvs:List (Key×V)}{A:vS}{E:uB->uC->Prop}
def jkc{Q:uB->uC->Prop}(I:Inv X pins σ H s)(e:Rd H a (.dK kvs))(h:∀p s',H p=none->Inv X pins σ (upd H p (.dK kvs)) s'->Q (.ref p) s'):vC (vF X.prog X.w) A (call (.type "dict") [.ref a]) Q E s:=by
 obtain⟨z,hd,vs,rel,dd⟩:=qet I.hok e;refine kt_call_dict hd dd (by rw[<-rel.length];exact z) fun h' dd' hs=>?_;refine h _ _ (I.hok.fresh (uF _)) (I.laid (a:=↑s) (o:=.dK kvs) (t':=s.toks) (fun b q hq=>?_) (uF _) (jhq z (beq_eq_false_iff_ne.mpr (xS (vL I.big))) rel dd'));exact(hs.2 b (vL (uP hq))).trans (uG _ hq)
end
section
variable{X:Cx}
def call_lenD:qcv X (.builtin "len") (fun xs H Q=>∃a kvs,xs=[V.ref a]/\H a=some (.dK kvs)/\Q (.int kvs.length) H):=by
 intro pins s σ H xs us Q I r h;obtain⟨a,kvs,rfl,ha,q⟩:=h;obtain⟨u,rfl,ru⟩:=jg1 r
 cases ru
 exact jte I (.inl ha) fun t s' I'=>⟨.int kvs.length,H,I',⟨t,rfl⟩,q⟩
end
section
variable{κ:Type}[DecidableEq κ]
def jkd{kvs:List (κ×V)}{k:κ}(h:qcp kvs k=none):¬k∈kvs.map (·.1):=by
 intro m;obtain⟨p,hp,e⟩:=zJ.mp m;have q:(kvs.any fun kv=>decide (kv.1=k))=true:=yF.mpr ⟨p,hp,gM e⟩;rw[qcw,h] at q;exact absurd q (by simp)
def jne{kvs:List (κ×V)}{k:κ}{v:V}(h:qcp kvs k=some v):k∈kvs.map (·.1):=by
 have q:(kvs.any fun kv=>decide (kv.1=k))=true:=by
  rw[qcw,h]
  all_goals rfl
 obtain⟨p,hp,e⟩:=yF.mp q;exact zJ.mpr ⟨p,hp,of_decide_eq_true e⟩
theorem jht:∀{l:List κ} {k:κ},l.Nodup->¬k∈l->(l++[k]).Nodup
 | [],k,_,_=>by simp
 |a::r,k,h,hk=>by
  obtain⟨h1,h2⟩:=zZ.mp h;show(a ::(r++[k])).Nodup;refine zZ.mpr ⟨fun m=>?_,jht h2 fun m=>hk (zP.mpr (eZ m))⟩;rcases zN.mp m with q|q
  .exact h1 q
  .exact hk (zP.mpr (uD (zF.mp q).symm))
def jee{kvs:List (κ×V)}{k:κ}(v:V)(hn:(kvs.map (·.1)).Nodup)(h:qcp kvs k=none):((qbh kvs k v).map (·.1)).Nodup:=by
 rw[jka v h,zI];exact jht hn (jkd h)
end
end L2
namespace My
open PySem PySem.Spec PyProof.Rows L2
theorem qdq{α:Type}{β:Type}[BEq α][LawfulBEq α]:∀{l:List (α×β)} {x:α} {v:β},l.lookup x=some v->(x,v)∈l
 |(a,b)::l,x,v,h=>by
  rw[yL] at h
  cases e:x==a with
  |true=>rw[e] at h;have e':=eq_of_beq e;have h':b=v:=uU h;subst e' h';exact zG
  |false=>rw[e] at h;exact zD _ (qdq h)
def qc8{X:Cx}{x:Str}{scope:xL}{cl:List (Str×Addr)}{caps:List Nat}{cn:List Str}(h1:closureFor scope X.env=pure cl)(h2:scope.kind=.function)(h3:scope.names.all (fun p=>p.2 !=.cell)=true)
  (h4:scope.names.all (fun p=>p.2 !=.local || scope.names.lookup p.1==some .local)=true)(h5:scope.names.lookup x=some .local)(h6:jlm (fun p=>X.env.cells.lookup p.1=some p.2) cl)
  (h7:(fQ scope X.env).names.all (fun p=>!(p.2==.cell || p.2==.free) ||(cl.lookup p.1).isSome)=true)(h8:caps.length=cn.length)
  (h9:jlm (fun p=>X.N[p.1]?=some p.2/\X.env.kindOf p.2=some .cell/\(fQ scope X.env).names.lookup p.2=some .cell/\X.env.scope.names.lookup p.2=some .cell/\∃c,cl.lookup p.2=some c) (caps.zip cn))(h10:(x::cn).Nodup):jow X x scope cl caps cn:=by
 refine⟨h1,h2,fun y hy z=>?_,fun y hy z=>?_,h5,fun y c e=>jlm.mem h6 _ (qdq e),fun y hy=>?_,h8,fun k y j e1 e2=>?_,h10⟩
 .have q:=zQ.mp h3 y hy;rw[z] at q
  cases q
 .have q:=zQ.mp h4 y hy;rw[z] at q;simpa using q
 .have m:∃k,(y,k)∈(fQ scope X.env).names/\(k=.cell\/k=.free):=by
   rcases hy with hy|hy
   .exact⟨_,qdq hy,.inl rfl⟩
   .exact⟨_,qdq hy,.inr rfl⟩
  obtain⟨k,hm,hk⟩:=m;have q:=zQ.mp h7 _ hm;have hk':(k==NameKind.cell || k==NameKind.free)=true:=by rcases hk with rfl|rfl<;>decide
  rw[hk'] at q;exact cL.mp (by simpa using q)
 .refine jlm.mem h9 (j,y) ?_;have hz:(caps.zip cn)[k]?=some (j,y):=by rw[List.getElem?_zip_eq_some];exact⟨e2,e1⟩
  exact zE hz
section
variable{X:Cx}
def jqf{l:vZ}{tl:TE}{y:Str}{py:Pos}(hl:PE X l tl):PI X (.Name y py) l (jva tl):=by
 intro pins s σ H R I h;refine thn (hl pins s σ H _ I h) fun u s1 h9=>?_;obtain⟨v,H1,I1,r,x,ev,q⟩:=h9;subst ev;obtain⟨t,rfl⟩:=r;have hn:H1 ↑s1=none:=I1.hok.fresh (uF _);have fp:∀b∈ [↑s1],jcp X pins H1 b:=fun b hb=>by
  have e:b=↑s1:=by simpa using hb
  subst e;exact I1.fpOk (uF _) hn
 cases ha:x.cps.all (·< 128)
 .exact wpAny_pyIter_wide ha ⟨_,[↑s1],fun i h=>h.IsStrIter ↑s1 "str_iterator" x t i,Its x,H1,rfl,I1.kept (t':=s1.toks) (fun _ _ e=>uG _ e),
   jfi x t _ _ (fun A hA=>Walks.strWide hA _ x t) fun A i s' Q' E' st hq=>wpAny_pyIter_striter_wide st hq,⟨_,vH _ rfl,rfl,rfl⟩,fp,q⟩
 .exact wpAny_pyIter_ascii ha ⟨_,[↑s1],fun i h=>h.IsStrIter ↑s1 "str_ascii_iterator" x t i,Its x,H1,rfl,I1.kept (t':=s1.toks) (fun _ _ e=>uG _ e),
   jfi x t _ _ (fun A hA=>Walks.strAscii hA _ x t) fun A i s' Q' E' st hq=>wpAny_pyIter_striter_ascii st hq,⟨_,vH _ rfl,rfl,rfl⟩,fp,q⟩
noncomputable def jvd(K:uX):List V->Hp->VK->Prop:=fun xs H Q=>∃(p:Addr)(bs:List Bool),xs=[.ref p]/\SqL K H p (bs.map V.bl)/\Q (.bl (bs.all id)) H
def jhu(bs:List Bool):((vK bs.length).all fun i=>(bs[i]?).getD true)=bs.all id:=by
 rw[xE,zQ,zQ];constructor
 .intro h b hb;obtain⟨i,hi,e⟩:=zU.mp hb;have q:=h i (yI.mpr hi);rw[zA hi,e] at q;exact q
 .intro h i hi;have hi':=yI.mp hi;rw[zA hi'];exact h _ (zY hi')
def qen(hc:X.calm=true):qcv X (.builtin "all") (jvd X.K):=by
 intro pins s σ H xs us Q I hv h;obtain⟨p,bs,rfl,hS,q⟩:=h;obtain⟨u,rfl,ru⟩:=hv.one
 cases ru
 obtain⟨its,rv,pl,hz⟩:=I.list hS;have hl:=pl.isList;have hlt:p<↑s:=by obtain⟨_,e,_⟩:=hl;exact uP e
 have hlen:=rv.length;rw[zB] at hlen;refine call_all_walk (aQ hl ?_);refine⟨↑s,[↑s,p],[↑s],its.toArray.size,_,_,fun i=>(bs[i]?).getD true,rfl,Walks.list (A:=X.A.in1) (I.ok.hd hc) _ p (vL hlt) its.toArray,⟨⟨_,vH _ rfl,rfl,rfl⟩,hl.push _⟩,fun i v s' Q' E' hP hQ=>?_,fun h' tk hk=>?_⟩
 .have hi:its[i]?=some v:=by simpa using hP
  have hb:i<bs.length:=by rw[hlen];exact(uL.mp hi).1
  have hx:(bs.map V.bl)[i]?=some (.bl bs[i]):=by rw[zC,zA hb];rfl
  obtain⟨u,e,r⟩:=rv.get hx;rw[hi] at e
  cases e
  cases r
  dsimp only at hQ;rw[zA hb] at hQ;exact wY hQ
 .have e:((vK its.toArray.size).all fun i=>(bs[i]?).getD true)=bs.all id:=by
   rw[zL,<-hlen];exact jhu bs
  rw[e];exact⟨.bl _,H,I.kept (t':=tk) (fun b o eb=>hk b o (fun hm=>by have z:=uP eb;rw[zF.mp hm] at z;exact wQ _ z) (uG _ eb)),rfl,q⟩
noncomputable def jqg:R2:=fun x y H Q=>∃i j,x=.str i/\y=.str j/\i.length+j.length<=sizeLine/\Q (.str (i++j)) H
def jnf:OpR X (yX .Add) jqg:=jf8
noncomputable def jve:R2:=fun x y H Q=>∃i j,x=.str i/\y=.str j/\Q (.bl (!(aK j i 0 j.length 1).isEmpty)) H
def jqh:OpR X (wJ .In) jve:=jg0
noncomputable def jqi:List V->Hp->VK->Prop:=fun xs H Q=>∃z,xs=[.str z]/\z.length<=sizeLine/\Q (.int z.length) H
def jdb:qcv X (.builtin "len") jqi:=jc2
end
section
variable{K:uX}{H:Hp}{Q:VK}{σ:L2.St}
def jwe{r:V->Option Int->Option Int->Hp->VK->Prop}{te:TE}{tl th:TO}(h:te σ H fun x H1=>tl σ H1 fun l H2=>th σ H2 fun u H3=>r x l u H3 Q):tSl r te tl th σ H Q:=h
def jqj{te:TE}{Q:Option Int->Hp->Prop}(h:te σ H fun x H1=>∃i,x=.int i/\Q (some i) H1):jpn te σ H Q:=h
def jtf{i:Int}{Q:Int->Prop}(h:Q i):∃j,V.int i=.int j/\Q j:=⟨i,rfl,h⟩
def jng{r r':R2}{ta tb tc:TE}(h:ta σ H fun x H1=>tb σ H1 fun y H2=>r x y H2 fun z H3=>∃k,z=.bl k/\(if k=true then tc σ H3 fun w' H4=>r' y w' H4 Q else Q (.bl false) H3)):jle r r' ta tb tc σ H Q:=h
def jke{p:Addr}{bs:List Bool}(hS:SqL K H p (bs.map V.bl))(h:Q (.bl (bs.all id)) H):jvd K [.ref p] H Q:=⟨p,bs,rfl,hS,h⟩
def jlq{i j:Str}(hn:i.length+j.length<=sizeLine)(h:Q (.str (i++j)) H):jqg (.str i) (.str j) H Q:=⟨i,j,rfl,rfl,hn,h⟩
def jtg{i j:Str}(h:Q (.bl (!(aK j i 0 j.length 1).isEmpty)) H):jve (.str i) (.str j) H Q:=⟨i,j,rfl,rfl,h⟩
def jqk{z:Str}(hn:z.length<=sizeLine)(h:Q (.int z.length) H):jqi [.str z] H Q:=⟨z,rfl,hn,h⟩
def jql{z:Str}{i:Int}{c:Nat}(hn:z.length<=sizeLine)(e:atI z.cps.toList i=some c)(h:Q (.str ⟨#[c]⟩) H):ju0 (.str z) (.int i) H Q:=⟨z,i,c,rfl,rfl,hn,e,h⟩
def jwf{tl:TE}{R:It->Hp->Prop}(h:tl σ H fun v H1=>jtc v H1 R):jva tl σ H R:=h
def jth{x:Str}{R:It->Hp->Prop}(h:R (Its x) H):jtc (.str x) H R:=⟨x,rfl,h⟩
def jqm{wi:TI}{caps:List Nat}{tt:CT TT}{te:CT TE}(h:wi σ H fun J H1=>∀(C:Addr)(s:uC)(H0:Hp)(fp:List Addr)(acc:Addr),H1 acc=none->jsb J caps (tt C s H0 fp) (te C s H0 fp) acc σ (upd H1 acc (.lst [])) Q):jhn wi caps tt te σ H Q:=h
def jqn{Q:Bool->Hp->Prop}(h:Q true H):jp7 σ H Q:=h
def jti{acc:Addr}{N:Hp->Prop}{y:V}{ys:List V}(ha:H acc=some (.lst ys))(hz:ys.length<sizeLine)(h:N (upd H acc (.lst (ys++[y])))):jp6 acc N y H:=⟨ys,ha,hz,h⟩
def jef{J:It}{caps:List Nat}{tt:TT}{te:TE}{acc:Addr}(n:Nat)(Pv:Nat->Hp->Prop)(h0:Pv 0 H)(hgo:∀i H,i<n->Pv i H->J.go i H)(hst:∀H,Pv n H->J.stop n H)
  (hs:∀i H v H',i<n->Pv i H->J.yld i H v H'->tt (some v::qch caps σ) H' fun b H2=>if b=true then te (some v::qch caps σ) H2 fun y H3=>jp6 acc (Pv (i+1)) y H3 else Pv (i+1) H2)
  (hd:∀H,Pv n H->Q (.ref acc) H):jsb J caps tt te acc σ H Q:=by
 refine⟨fun i m H=>m=n-i/\i<=n/\Pv i H,⟨n,rfl,wR _,h0⟩,?_⟩;rintro i m H ⟨rfl,hi,p⟩;by_cases hlt:i<n
 .exact .inr ⟨hgo i H hlt p,Pv (i+1),fun H' p'=>⟨n-(i+1),↑∅,rfl,hlt,p'⟩,fun v H' y=>hs i H v H' hlt p y⟩
 .have e:i=n:=by omega
  subst e;exact .inl ⟨hst H p,hd H p⟩
end
section
variable{X:Cx}
noncomputable def jqo:List V->Hp->VK->Prop:=fun xs H Q=>∃b:Bool,xs=[.bl b]/\Q (.int (if b then 1 else 0)) H
def jhv:qcv X (.type "int") jqo:=by
 intro pins s σ H xs us Q I r h;obtain⟨b,rfl,q⟩:=h
 cases r with
 |cons r1 r2=>
  cases r2
  cases r1
  exact call_int_bool ⟨.int _,H,I.tok _,⟨_,rfl⟩,q⟩
end
section
variable{H:Hp}{Q:VK}
def jqp{b:Bool}(h:Q (.int (if b then 1 else 0)) H):jqo [.bl b] H Q:=⟨b,rfl,h⟩
end
noncomputable def jlr:List uB->Bool
 | .ref _::r=>jlr r
 | [.type a,.type b,.type c,.type e]=>a== "ValueError" && b== "Exception" && c== "BaseException" && e== "object"
 |_=>false
noncomputable def jqq(K:uX)(C:Addr):Bool:=(PySem.W.clsIn K C).any fun cd=>jlr cd.mro
section
variable{K:uX}{C:Addr}
open PySem.W in
open PySem.W in
open PySem.W in
open PySem.W in
structure XAt(K:uX)(C:Addr):Prop where
 ga:wD K (.ref C) "__getattribute__"=some (some (.builtin "BaseException.__getattribute__"))
 gn:wD K (.ref C) "__getattr__"=some none
 mb:mroIn K C (.type "BaseException")=some true
 mo:mroIn K C (.type "object")=some true
 hd:gB K C=true
 cl:wD K (.ref C) "__class__"=some (some (.builtin "object.__class__"))
 sp:dY K (.builtin "object.__class__") "__get__"=some (some (.builtin "getset_descriptor.__get__"))
 tk:PySem.W.takesIn K (.builtin "object.__class__")=some true
 sa:wD K (.ref C) "__setattr__"=some (some (.builtin "object.__setattr__"))
 po:jqq K C=true
open PySem.W in
open PySem.W in
end
noncomputable def del(H:Hp)(a:Addr):Hp:=fun b=>if b=a then none else H b
def qem{H:Hp}{a:Addr}:del H a a=none:=by unfold del;rw[gL rfl]
def qe1{H:Hp}{a b:Addr}(h:b≠a):del H a b=H b:=by unfold del;rw[gK h]
section
variable{X:Cx}{pins:List (Addr×Obj)}{σ:L2.St}{H:Hp}{s:uC}{a:Addr}{φ:vU->Prop}
theorem Inv.del(I:Inv X pins σ H s)(e:H a=some (.ext φ)):Inv X pins σ (My.del H a) s:=by
 have ne:∀b o,H b=some o->(∀φ,o≠ .ext φ)->b≠a:=fun b o q d z=>by rw[z,e] at q;cases q;exact d _ rfl
 refine⟨I.ok,I.os,I.bare,⟨I.base.keep,I.base.slot,fun b o q n hx=>?_,I.base.there,fun b xs q=>?_,fun b o u q=>?_,fun b ps q=>?_⟩,I.loc,I.cell,?_,fun x c q=>?_,fun p hp=>?_,fun b o q=>?_,I.len⟩
 .have z:=I.base.free b o q n hx;by_cases hb:b=a
  .rw[hb];exact qem
  .rw[qe1 hb];exact z
 .have z:=I.base.tups b xs q;rw[qe1 (ne _ _ z (by intro φ y;cases y))];exact z
 .have z:=I.base.frzs b o u q;rw[qe1 (ne _ _ z (by intro φ y;cases y))];exact z
 .obtain⟨more,z⟩:=I.base.tbls b ps q;exact⟨more,by rw[qe1 (ne _ _ z (by intro φ y;cases y))];exact z⟩
 .by_cases hb:X.env.locals=a
  .rw[hb];exact qem
  .rw[qe1 hb];exact I.free
 .by_cases hb:c=a
  .rw[hb];exact qem
  .rw[qe1 hb];exact I.freeC x c q
 .obtain⟨z,n,l⟩:=I.pin p hp;refine⟨z,?_,l⟩;by_cases hb:p.1=a
  .rw[hb];exact qem
  .rw[qe1 hb];exact n
 .have hb:b≠a:=fun z=>by rw[z,qem] at q;cases q
  rw[qe1 hb] at q;exact(I.hok b o q).stay (fun _ _ _ q=>q) (fun c q=>by rw[qe1 (ne _ _ q (by intro φ y;cases y))];exact q) fun c xs q=>by rw[qe1 (ne _ _ q (by intro φ y;cases y))];exact q
end
structure jw0(K:uX)(C f:Addr):Prop where
 ob:∃(nm q:Str)(N:Addr)(bs bm:List uB)(hdct:Bool)(sn:List Str)(sub:List uB)(ab:Bool)(col:Option Bool)(dd:Option Addr)(k0 k1 k2 k3 k5:Option uB)(mN:Str->Option uB),
  K.lookup C=some (excClassObj nm q C N bs bm hdct sn sub ab col dd k0 k1 k2 k3 k5 "ValueError.__new__")/\(∀h:vU,K.In h->h.Ns N mN)/\mN "__init__"=some (.ref f)/\
  ∀h:vU,K.In h->OwnTail h [.type "ValueError",.type "Exception",.type "BaseException",.type "object"] bm
 fn:isFn K (.ref f)=true
section
variable{X:Cx}
inductive PJ(X:Cx):List vZ->List TE->Prop
 |nil:PJ X [] []
 |cons{e:vZ}{es:List vZ}{t:TE}{ts:List TE}(h:PE X e t)(r:PJ X es ts):PJ X (e::es) (t::ts)
end
structure jwg(K:uX)(T:Addr):Prop where
 ga:dY K (.ref T) "__getattribute__"=some (some (.builtin "type.__getattribute__"))
 rd:PySem.W.readsIn K T (.type "type")=true
 at_:PySem.W.findCls K (.ref T) (.type "type") "__init__"=some (.val (.builtin "ValueError.__init__"))
open PySem.MeetsSeq PySem.MeetsSeq2 PySem.MeetsSeq3 PySem.SeqRoads2
def EqW(P:vA)(w:vN)(A:vS)(s:uC)(y x:uB)(b:Bool):Prop:=∀(E:uB->uC->Prop)(Q:Bool->uC->Prop),Q b s->vC (vF P w) A (eqBool y x) Q E s
noncomputable def opN:Bool->CmpOp
 |false=> .Eq
 |true=> .NotEq
def RcW(P:vA)(w:vN)(A:vS)(s:uC)(ne:Bool)(y x:uB)(b:Bool):Prop:=∀(E:uB->uC->Prop)(Q:uB->uC->Prop),Q (.bool b) s->vC (vF P w) A (richCompare (opN ne) y x) Q E s
noncomputable def jtj:Bool->Int
 |false=>2
 |true=>3
abbrev lo(dd:Option Addr)(xs:Array uB)(n:Nat)(sl:Array (Option uB)):Obj:={cls:=.type "list",dict:=dd,data:=.seq xs n,slots:=sl}
abbrev tob(dd:Option Addr)(xs:Array uB)(n:Nat)(sl:Array (Option uB)):Obj:={cls:=.type "tuple",dict:=dd,data:=.seq xs n,slots:=sl}
section
variable{P:vA}{w:vN}{A:vS}{s:uC}{l b:Addr}{k:Bool}
def EqW.of{y x:uB}(h:SeqAt.EqAt A s y x k):EqW P w A s y x k:=fun E Q q=>h P w E Q q
def EqW.refs(hn:l≠b)(h:RcW P w A s false (.ref l) (.ref b) k):EqW P w A s (.ref l) (.ref b) k:=fun E Q q=>by
 unfold eqBool;refine xR (wpAny_ite_split (fun z=>?_) fun _=>uK (h E _ (wY q)));have z':=eq_of_beq z;injection z' with z'
 exact absurd z' hn
abbrev jtk(P:vA)(w:vN)(A:vS)(R:Result->uC->Prop):PySem.Fin->uC->Prop:=fun f s'=>match f with| .done r=>R (.ok r) s'| .again c=>c.quiet=true/\bM (vF P w) A c R s'
def jqr(ne:Bool){xs ys:Array uB}{n m:Nat}{d1 d2:Option Addr}{s1 s2:Array (Option uB)}(hz:xs.size=ys.size)(f:Nat->Bool)(r:Nat):∀(i:Nat),xs.size-i=r->∀(A:vS)(R:Result->uC->Prop)(s:uC),s.heap.get? l=some (lo d1 xs n s1)->s.heap.get? b=some (lo d2 ys m s2)->
  (∀j (h1:j<xs.size) (h2:j<ys.size),EqW P w A.in1 s xs[j] ys[j] (f j))->R (.ok (.ret (.bool (ne !=((vK xs.size).drop i).all f)))) s->
  vC (vF P w) A.in1 (aR.«list.__eq__.loop» ⟨[.ref l,.ref b,aI i,aI (jtj ne)],[]⟩) (jtk P w A R) (fun e s'=>R (.error e) s') s:=by
 induction r with
 |zero=>
  intro i hr A R s hl hb he q;obtain⟨hp,g,d,tk,os⟩:=s;have t1:xs[((i:Nat):Int).toNat]?=none:=by simp;omega
  have t2:ys[((i:Nat):Int).toNat]?=none:=by simp;omega
  have t3:(vK xs.size).drop i=[]:=by simp;omega
  rw[t3] at q
  cases ne with
  |false=>
   wp_walk using uQ hl,uQ hb
   rw[t1,t2]
   wp_walk using uQ hl,uQ hb
   show R (.ok (.ret (.bool (xs.size==ys.size)))) _;rw[hz];simpa using q
  |true=>
   wp_walk using uQ hl,uQ hb
   rw[t1,t2]
   wp_walk using uQ hl,uQ hb
   show R (.ok (.ret (.bool (xs.size !=ys.size)))) _;rw[hz];simpa using q
 |succ r ih=>
  intro i hr A R s hl hb he q;obtain⟨hp,g,d,tk,os⟩:=s;have j1:i<xs.size:=by omega
  have j2:i<ys.size:=by omega
  have t1:xs[((i:Nat):Int).toNat]?=some xs[i]:=by simp[j1]
  have t2:ys[((i:Nat):Int).toNat]?=some ys[i]:=by simp[j2]
  have t3:(vK xs.size).drop i=i ::(vK xs.size).drop (i+1):=by simp[aC,j1]
  have t4:((i:Int)+1)=((i+1:Nat):Int):=by push_cast;rfl
  rw[t3,yN] at q
  cases ne with
  |false=>
   wp_walk using uQ hl,uQ hb
   rw[t1,t2];refine uK (he i j1 j2 _ _ ?_)
   cases hf:f i with
   |true=>
    rw[hf] at q
    wp_walk
    rw[t4];refine⟨cO yS _,yR eQ ?_⟩;rw[xQ yS _];exact ih (i+1) ↑∅ A R _ hl hb he (by simpa using q)
   |false=>
    rw[hf] at q
    wp_walk using uQ hl,uQ hb
    rw[t1,t2]
    wp_walk
    simpa using q
  |true=>
   wp_walk using uQ hl,uQ hb
   rw[t1,t2];refine uK (he i j1 j2 _ _ ?_)
   cases hf:f i with
   |true=>
    rw[hf] at q
    wp_walk
    rw[t4];refine⟨cO yS _,yR eQ ?_⟩;rw[xQ yS _];exact ih (i+1) ↑∅ A R _ hl hb he (by simpa using q)
   |false=>
    rw[hf] at q
    wp_walk using uQ hl,uQ hb
    rw[t1,t2]
    wp_walk
    simpa using q
def jqs(ne:Bool){xs ys:Array uB}{n m:Nat}{d1 d2:Option Addr}{s1 s2:Array (Option uB)}(hz:xs.size=ys.size)(f:Nat->Bool){R:Result->uC->Prop}(hl:s.heap.get? l=some (lo d1 xs n s1))(hb:s.heap.get? b=some (lo d2 ys m s2))
  (he:∀j (h1:j<xs.size) (h2:j<ys.size),EqW P w A.in1 s xs[j] ys[j] (f j))(q:R (.ok (.ret (.bool (ne !=(vK xs.size).all f)))) s):
  vC (vF P w) A.in1 ((if ne=true then aR.«list.__ne__» else aR.«list.__eq__») ⟨[.ref l,.ref b],[]⟩) (jtk P w A R) (fun e s'=>R (.error e) s') s:=by
 obtain⟨hp,g,d,tk,os⟩:=s;have f3:=AutoSeq1.sub_list_list;have z0:¬(xs.size !=ys.size)=true:=by simp[hz]
 cases ne with
 |false=>
  show vC _ _ (aR.«list.__eq__» _) _ _ _
  wp_walk using uQ hl,uQ hb
  refine⟨cO yS _,yR eQ ?_⟩;rw[xQ yS _];exact jqr false hz f _ 0 rfl A R _ hl hb he (by simpa using q)
 |true=>
  show vC _ _ (aR.«list.__ne__» _) _ _ _
  wp_walk using uQ hl,uQ hb
  refine⟨cO yS _,yR eQ ?_⟩;rw[xQ yS _];exact jqr true hz f _ 0 rfl A R _ hl hb he (by simpa using q)
def jqt{T id:String}{name:Str}{B:aR}{self:uB}{rest:List uB}{E Q:uB->uC->Prop}(slot:Slot T name id)(hT:s.TypeIs self T)(entry:entryFor table id=some B)(args:argsOk id ⟨self::rest,[]⟩)
  (h:vC (vF P w) A.in1 (B ⟨self::rest,[]⟩) (jtk P w A (wants Q E)) (fun e s'=>wants Q E (.error e) s') s):vC (vF P w) A (call (.builtin id) (self::rest)) Q E s:=
 bH (codeAny_call_builtin slot.plain entry (slot.check _ _ _ _ _ _ _ _ hT args h))
def RcW.lists(ne:Bool){xs ys:Array uB}{f:Nat->Bool}(hl:s.heap.IsList l xs)(hb:s.heap.IsList b ys)(hz:xs.size=ys.size)(hu:A.units<cLine)(he:∀j (h1:j<xs.size) (h2:j<ys.size),EqW P w A.in1 s xs[j] ys[j] (f j)):
  RcW P w A s ne (.ref l) (.ref b) (ne !=(vK xs.size).all f):=fun E Q q=>by
 obtain⟨⟨c1,d1,e1,s1⟩,ho,hc,n,hd⟩:=id hl;obtain⟨⟨c2,d2,e2,s2⟩,ho2,hc2,m,hd2⟩:=id hb;simp only at hc hd hc2 hd2;subst hc hd hc2 hd2;have q':eS (ne !=(vK xs.size).all f)≠Value.notImplemented/\Q (.bool (ne !=(vK xs.size).all f)) s:=⟨(fun x=>nomatch x),q⟩
 cases ne with
 |false=>exact yV (op:=.Eq) ⟨_,ho,rfl⟩ ⟨_,ho2,rfl⟩ F.slot_list_eq (jqt F.slot_list_eq ⟨_,ho,rfl⟩ F.entry_list_eq (F.args_list_eq_2 _ _) (jqs (R:=wants (fun v s'=>v≠ .notImplemented/\Q v s') E) false hz f ho ho2 he q')) hu
 |true=>exact yV (op:=.NotEq) ⟨_,ho,rfl⟩ ⟨_,ho2,rfl⟩ F.slot_list_ne (jqt F.slot_list_ne ⟨_,ho,rfl⟩ F.entry_list_ne (F.args_list_ne_2 _ _) (jqs (R:=wants (fun v s'=>v≠ .notImplemented/\Q v s') E) true hz f ho ho2 he q')) hu
def RcW.listsN(ne:Bool){xs ys:Array uB}(hl:s.heap.IsList l xs)(hb:s.heap.IsList b ys)(hz:(xs.size !=ys.size)=true)(hu:A.units<cLine):RcW P w A s ne (.ref l) (.ref b) (ne !=false):=fun E Q q=>by
 cases ne with
 |false=>exact SeqAt.RcAt.lists_lengths hl hb hz hu P w E Q q
 |true=>exact SeqAt.RcNeAt.lists_lengths hl hb hz hu P w E Q q
def jvf(ne:Bool){xs ys:Array uB}{n m:Nat}{d1 d2:Option Addr}{s1 s2:Array (Option uB)}(f:Nat->Bool){E Q:uB->uC->Prop}(hl:s.heap.get? l=some (tob d1 xs n s1))(hb:s.heap.get? b=some (tob d2 ys m s2))
  (he:∀j (h1:j<xs.size) (h2:j<ys.size),EqW P w A.in1 s xs[j] ys[j] (f j))(q:Q (.bool (ne !=((vK (min xs.size ys.size)).all f && xs.size==ys.size))) s):
  vC (vF P w) A.in1 ((if ne=true then aR.«tuple.__ne__» else aR.«tuple.__eq__») ⟨[.ref l,.ref b],[]⟩) (fun fin s'=>∃v,fin=.done (.ret v)/\Q v s') E s:=by
 obtain⟨hp,g,d,tk,os⟩:=s;have f2:=AutoSeq1.sub_tuple_tuple;have hZ:(xs.toList.zip ys.toList).length=min xs.size ys.size:=by simp
 have turn:∀(x y:uB)(rest:List (uB×uB))(i:Nat),(x,y)::rest=(xs.toList.zip ys.toList).drop i->∃(h1:i<xs.size)(h2:i<ys.size),x=xs[i]/\y=ys[i]/\rest=(xs.toList.zip ys.toList).drop (i+1)/\(vK (min xs.size ys.size)).drop i=i ::(vK (min xs.size ys.size)).drop (i+1):=fun x y rest i hz=>by
  have hlt:i <(xs.toList.zip ys.toList).length:=by
   rcases cA i (xs.toList.zip ys.toList).length with z|z
   .exact z
   .rw[List.drop_of_length_le z] at hz;cases hz
  have hm:i<min xs.size ys.size:=hZ▸hlt;have h1:i<xs.size:=vD hm (Nat.min_le_left _ _);have h2:i<ys.size:=vD hm (Nat.min_le_right _ _);rw[aC hlt] at hz;injection hz with hxy hrest
  exact⟨h1,h2,by have:=congrArg Prod.fst hxy;simpa using this,by have:=congrArg Prod.snd hxy;simpa using this,hrest,by simp[aC,hm]⟩
 have last:∀i:Nat,[]=(xs.toList.zip ys.toList).drop i->(vK (min xs.size ys.size)).drop i=[]:=fun i hz=>by
  have hge:min xs.size ys.size<=i:=by
   rcases cA i (xs.toList.zip ys.toList).length with z|z
   .rw[aC z] at hz;cases hz
   .exact hZ▸z
  exact List.drop_of_length_le (by simpa using hge)
 cases ne with
 |false=>
  show vC _ _ (aR.«tuple.__eq__» _) _ _ _
  wp_walk using uQ hl,uQ hb,wpAny_forIn_list _ (fun rest c s'=>c.1=none/\s'=⟨hp,g,d,tk,os⟩/\∃i,rest=(xs.toList.zip ys.toList).drop i/\Q (.bool (((vK (min xs.size ys.size)).drop i).all f && xs.size==ys.size)) ⟨hp,g,d,tk,os⟩) _
  case turn=>
   rintro⟨x,y⟩ rest c s' ⟨hc,rfl,i,hz,hR⟩;obtain⟨h1,h2,rfl,rfl,hrest,hd⟩:=turn x y rest i hz;rw[hd,yN] at hR;refine uK (he i h1 h2 _ _ ?_)
   cases hf:f i with
   |true=>
    rw[hf] at hR
    wp_walk
    exact⟨rfl,rfl,i+1,hrest,by simpa using hR⟩
   |false=>
    rw[hf] at hR
    wp_walk
    exact⟨_,rfl,by simpa using hR⟩
  case fin=>
   rintro⟨c1,c2⟩ s' ⟨hc,rfl,i,hz,hR⟩;simp only at hc;subst hc;rw[last i hz] at hR
   wp_walk
   exact⟨_,rfl,by simpa[fY] using hR⟩
  case h=>exact⟨rfl,rfl,0,rfl,by simpa using q⟩
 |true=>
  show vC _ _ (aR.«tuple.__ne__» _) _ _ _
  wp_walk using uQ hl,uQ hb,wpAny_forIn_list _ (fun rest c s'=>c.1=none/\s'=⟨hp,g,d,tk,os⟩/\∃i,rest=(xs.toList.zip ys.toList).drop i/\Q (.bool (!(((vK (min xs.size ys.size)).drop i).all f && xs.size==ys.size))) ⟨hp,g,d,tk,os⟩) _
  case turn=>
   rintro⟨x,y⟩ rest c s' ⟨hc,rfl,i,hz,hR⟩;obtain⟨h1,h2,rfl,rfl,hrest,hd⟩:=turn x y rest i hz;rw[hd,yN] at hR;refine uK (he i h1 h2 _ _ ?_)
   cases hf:f i with
   |true=>
    rw[hf] at hR
    wp_walk
    exact⟨rfl,rfl,i+1,hrest,by simpa using hR⟩
   |false=>
    rw[hf] at hR
    wp_walk
    exact⟨_,rfl,by simpa using hR⟩
  case fin=>
   rintro⟨c1,c2⟩ s' ⟨hc,rfl,i,hz,hR⟩;simp only at hc;subst hc;rw[last i hz] at hR
   wp_walk
   exact⟨_,rfl,by simpa[fY,bne] using hR⟩
  case h=>exact⟨rfl,rfl,0,rfl,by simpa using q⟩
def RcW.tuples(ne:Bool){xs ys:Array uB}{f:Nat->Bool}(hl:s.heap.IsTuple l xs)(hb:s.heap.IsTuple b ys)(hu:A.units<cLine)(he:∀j (h1:j<xs.size) (h2:j<ys.size),EqW P w A.in1 s xs[j] ys[j] (f j)):
  RcW P w A s ne (.ref l) (.ref b) (ne !=((vK (min xs.size ys.size)).all f && xs.size==ys.size)):=fun E Q q=>by
 obtain⟨⟨c1,d1,e1,s1⟩,ho,hc,n,hd⟩:=id hl;obtain⟨⟨c2,d2,e2,s2⟩,ho2,hc2,m,hd2⟩:=id hb;simp only at hc hd hc2 hd2;subst hc hd hc2 hd2
 cases ne with
 |false=>exact yV (op:=.Eq) ⟨_,ho,rfl⟩ ⟨_,ho2,rfl⟩ F.slot_tuple_eq (gG F.slot_tuple_eq ⟨_,ho,rfl⟩ F.entry_tuple_eq (jvf (Q:=fun v s'=>v≠ .notImplemented/\Q v s') false f ho ho2 he ⟨(fun x=>nomatch x),q⟩) (F.args_tuple_eq_2 _ _)) hu
 |true=>exact yV (op:=.NotEq) ⟨_,ho,rfl⟩ ⟨_,ho2,rfl⟩ F.slot_tuple_ne (gG F.slot_tuple_ne ⟨_,ho,rfl⟩ F.entry_tuple_ne (jvf (Q:=fun v s'=>v≠ .notImplemented/\Q v s') true f ho ho2 he ⟨(fun x=>nomatch x),q⟩) (F.args_tuple_ne_2 _ _)) hu
end
end My
namespace My
open PySem PySem.Spec PyProof.Rows L2
variable{kvs:List (Key×V)}{v:V}{a:Addr}{H:Hp}{l:List Str}{R:It->Hp->Prop}{f g:Str->Option Int}{b z:Str}{i:Nat}{Q:VK}
inductive DEq(K:uX)(H:Hp):Nat->V->V->Bool->Prop
 |same{n:Nat}{a:Addr}:DEq K H n (.ref a) (.ref a) true
 |flat{n:Nat}{x y:V}(hx:qdb x=true)(hy:qdb y=true):DEq K H n x y (eqV x y)
 |ls{n:Nat}{a b:Addr}{xs ys:List V}{e:Nat->Bool}(ha:SqL K H a xs)(hb:SqL K H b ys)(ne:a≠b)(hl:xs.length=ys.length)
   (he:∀j (h1:j<xs.length) (h2:j<ys.length),DEq K H n xs[j] ys[j] (e j)):DEq K H (n+1) (.ref a) (.ref b) ((vK xs.length).all e)
 |lsN{n:Nat}{a b:Addr}{xs ys:List V}(ha:SqL K H a xs)(hb:SqL K H b ys)(ne:a≠b)(hl:xs.length≠ys.length):DEq K H (n+1) (.ref a) (.ref b) false
 |ts{n:Nat}{a b:Addr}{xs ys:List V}{e:Nat->Bool}(ha:SqT K H a xs)(hb:SqT K H b ys)(ne:a≠b)
   (he:∀j (h1:j<xs.length) (h2:j<ys.length),DEq K H n xs[j] ys[j] (e j)):DEq K H (n+1) (.ref a) (.ref b) ((vK (min xs.length ys.length)).all e && xs.length==ys.length)
 |dd{n:Nat}{a b:Addr}{ka kb:List (Key×V)}(ha:Rd H a (.dK ka))(hb:Rd H b (.dK kb))(ne:a≠b)(fa:∀p∈ka,qdb p.2=true)(fb:∀p∈kb,qdb p.2=true):
   DEq K H (n+1) (.ref a) (.ref b) (ka.length==kb.length && ka.all fun p=>(qcp kb p.1).elim false (eqV p.2))
def qd0{xs:List V}{us:List uB}(r:qbl xs us){j:Nat}(h1:j<xs.length)(h2:j<us.length):qbg xs[j] us[j]:=by
 obtain⟨u,e,ru⟩:=r.get (zA h1);rw[zA h2] at e
 cases e
 exact ru
def qf7{k:Key}(h:qcp kvs k=some v):(k,v)∈kvs:=by
 unfold qcp at h;obtain⟨p,hp,rfl⟩:=uH.mp h;have e:=List.find?_some hp;have e':p.1=k:=of_decide_eq_true e;subst e';exact List.mem_of_find?_eq_some hp
def jnh{A:vS}{s:uC}{kb:List (Key×V)}{vb:List (Key×uB)}(rb:KV kb vb)(fb:∀p∈kb,qdb p.2=true){ka:List (Key×V)}{va:List (Key×uB)}(ra:KV ka va)(fa:∀p∈ka,qdb p.2=true):
  PySem.W.KeqHits A s vb va (ka.all fun p=>(qcp kb p.1).elim false (eqV p.2)):=by
 induction ra with
 |nil=>exact .nil
 | @cons p q l1 l2 h t ih=>
  obtain⟨k,v⟩:=p;obtain⟨k',u⟩:=q;obtain⟨e,ru⟩:=h;dsimp only at e ru;subst e;have z:=rb.val k;rw[yN];have ih':=ih fun p hp=>fa p (zD _ hp)
  cases hv:qcp kb k with
  |none=>
   rw[hv] at z;have hn:cH vb k=none:=qgz.none_of z;exact .miss hn
  |some y=>
   rw[hv] at z
   cases hu:cH vb k with
   |none=>rw[hu] at z;exact z.elim
   |some yu=>
    rw[hu] at z;exact .hit hu (jff ru z (fa _ (zG ..)) (fb _ (qf7 hv))) ih'
section
variable{X:Cx}{pins:List (Addr×Obj)}{σ:L2.St}{H:Hp}{s:uC}
def PlainL.isList{h:vU}{its:Array uB}(p:PlainL h a its):h.IsList a its:=by
 obtain⟨o,n,e,c,d,t⟩:=p;exact⟨o,e,c,n,t⟩
def jls(I:Inv X pins σ H s){n:Nat}{x y:V}{k:Bool}(q:DEq X.K H n x y k):∀(A:vS)(u v:uB),qbg x u->qbg y v->A.units+n<cLine->
  EqW X.prog X.w A s u v k/\∀a b,x=.ref a->y=.ref b->a≠b->∀ne:Bool,RcW X.prog X.w A s ne (.ref a) (.ref b) (ne !=k):=by
 have both:∀{A:vS} {a b:Addr} {k:Bool},a≠b->(∀ne:Bool,RcW X.prog X.w A s ne (.ref a) (.ref b) (ne !=k))->
   EqW X.prog X.w A s (.ref a) (.ref b) k/\∀a' b',V.ref a=.ref a'->V.ref b=.ref b'->a'≠b'->∀ne:Bool,RcW X.prog X.w A s ne (.ref a') (.ref b') (ne !=k):=fun {A a b k} ne R=>
  ⟨EqW.refs ne (by have z:=R false;simpa using z),fun a' b' e1 e2 _=>by cases e1;cases e2;exact R⟩
 induction q with
 | @same n a=>
  intro A u v ru rv hu;obtain rfl:u=uV a:=ru;obtain rfl:v=uV a:=rv;exact⟨EqW.of (SeqAt.EqAt.same _),fun a' b' e1 e2 ne=>by cases e1;cases e2;exact absurd rfl ne⟩
 |flat hx hy=>
  intro A u v ru rv hu;exact⟨EqW.of (jff ru rv hx hy),fun a b e _ _=>by subst e;cases hx⟩
 | @ls n a b xs ys e ha hb ne hl he ih=>
  intro A u v ru rv hu;obtain rfl:u=uV a:=ru;obtain rfl:v=uV b:=rv;obtain⟨its,r1,p1,_⟩:=I.list ha;obtain⟨its2,r2,p2,_⟩:=I.list hb;have l1:=r1.length;have l2:=r2.length;refine both ne fun nb=>?_;have z:=RcW.lists (P:=X.prog) (w:=X.w) (A:=A) (s:=s) nb (f:=e) (PlainL.isList p1) (PlainL.isList p2) (by rw[zL,zL];omega) ↑∅ fun j h1 h2=>by
   have k1:j<its.length:=by simpa using h1
   have k2:j<its2.length:=by simpa using h2
   have w:=(ih j ↑∅ ↑∅ A.in1 its[j] its2[j] (qd0 r1 ↑∅ k1) (qd0 r2 ↑∅ k2) (by show A.units+1+n<cLine;omega)).1;simpa using w
  rw[zL,<-l1] at z;exact z
 | @lsN n a b xs ys ha hb ne hl=>
  intro A u v ru rv hu;obtain rfl:u=uV a:=ru;obtain rfl:v=uV b:=rv;obtain⟨its,r1,p1,_⟩:=I.list ha;obtain⟨its2,r2,p2,_⟩:=I.list hb;have l1:=r1.length;have l2:=r2.length;exact both ne fun nb=>RcW.listsN nb (PlainL.isList p1) (PlainL.isList p2) (by rw[zL,zL];simp;omega) ↑∅
 | @ts n a b xs ys e ha hb ne he ih=>
  intro A u v ru rv hu;obtain rfl:u=uV a:=ru;obtain rfl:v=uV b:=rv;obtain⟨its,r1,p1,_⟩:=I.tuple ha;obtain⟨its2,r2,p2,_⟩:=I.tuple hb;have l1:=r1.length;have l2:=r2.length;refine both ne fun nb=>?_;have z:=RcW.tuples (P:=X.prog) (w:=X.w) (A:=A) (s:=s) nb (f:=e) p1 p2 ↑∅ fun j h1 h2=>by
   have k1:j<its.length:=by simpa using h1
   have k2:j<its2.length:=by simpa using h2
   have w:=(ih j ↑∅ ↑∅ A.in1 its[j] its2[j] (qd0 r1 ↑∅ k1) (qd0 r2 ↑∅ k2) (by show A.units+1+n<cLine;omega)).1;simpa using w
  rw[zL,zL,<-l1,<-l2] at z;exact z
 | @dd n a b ka kb ha hb ne fa fb=>
  intro A u v ru rv hu;obtain rfl:u=uV a:=ru;obtain rfl:v=uV b:=rv;obtain⟨_,ga,va,ra,da⟩:=qet I.hok ha;obtain⟨_,gb,vb,rb,db⟩:=qet I.hok hb;have l1:=ra.length;have l2:=rb.length;refine both ne fun nb E Q q=>?_;have hits:=jnh (A:=A.in1) (s:=s) rb fb ra fa;rw[l1,l2] at q
  cases nb with
  |false=>exact PySem.W.keq_eq ga gb da db ↑∅ (fun _=>hits) (by simpa using q)
  |true=>exact PySem.W.keq_ne ga gb da db ↑∅ (fun _=>hits) (by simpa using q)
noncomputable def jvg(K:uX):R2:=fun x y H Q=>∃a b n k,x=.ref a/\y=.ref b/\a≠b/\n<=8/\DEq K H n (.ref a) (.ref b) k/\Q (.bl k) H
def jhw(hu:X.A.units+8<cLine):OpR X (wJ .Eq) (jvg X.K):=by
 intro pins s σ H x y v u Q I rx ry h;obtain⟨a,b,n,k,rfl,rfl,ne,hn,q,z⟩:=h
 cases rx
 cases ry
 have r:=(jls I q X.A _ _ rfl rfl ↑∅).2 a b rfl rfl ne false X.xe (EP X pins σ Q);rw[Bool.false_bne] at r;exact r ⟨.bl k,H,I,rfl,z⟩
end
section
variable{X:Cx}
noncomputable def jni(K:uX):List V->Hp->VK->Prop:=fun xs H Q=>∃p ys,xs=[.ref p]/\(SqL K H p ys\/SqT K H p ys)/\∀l,H l=none->Q (.ref l) (upd H l (.lst ys))
def jgg:qcv X (.type "list") (jni X.K):=jc3
end
section
variable{K:uX}{σ:L2.St}{H:Hp}{Q:VK}{p l b:Addr}{ys xs zs:List V}{to:TE}{t:TA}{T:String}{r:V->List V->Hp->VK->Prop}{x v:V}
def jwh(h:to σ H fun x H1=>tyV K T x H1/\t σ H1 fun xs H2=>r x xs H2 Q):tBM K T r to t σ H Q:=h
def jtl(h:to σ H fun x H1=>tyV K T x H1/\r x [] H1 Q):ju1 K T r to σ H Q:=h
def jtm{P:Prop}(h:SqL K H p ys)(q:P):tyV K "list" (.ref p) H/\P:=⟨.inl ⟨rfl,_,h⟩,q⟩
def jkf(h:H l=some (.lst xs))(hz:xs.length<sizeLine)(q:Q .non (upd H l (.lst (xs++[v])))):jhb (.ref l) [v] H Q:=⟨l,xs,v,rfl,rfl,h,hz,q⟩
def jqu(h:H l=some (.lst xs))(h':H b=some (.lst zs))(hz:xs.length+zs.length<=sizeLine)(q:∀p,H p=none->Q (.ref p) (upd H p (.lst (xs++zs)))):ju2 (.ref l) (.ref b) H Q:=⟨l,b,xs,zs,rfl,rfl,h,h',hz,q⟩
end
structure jtn(k:Nat)(A:vS):Prop where
 dp:A.depth+3*k+5<recursionLimit
 un:A.units+16*k+200<cLine
structure jwi(P:vA)(w:vN)(K:uX)(mg:Str->Option uB)(base:vU)(k:Nat)(f:Addr)(fd:uJ)(ps:List Str)(sp:Sp):Prop where
 len:∀vs H Q E,sp vs H Q E->vs.length=ps.length
 run:∀(a:Addr)(A:vS)(outer:List Env)(s:uC)(H:Hp)(args:Args)(us:List uB)(vs:List V)(Q:VK)(E:XK),jtn k A->A.handled=some (.ref a)->jj1 P w K mg base A outer s H->cY s fd args (ps.zip us)->qbl vs us->sp vs H Q E->
  bM (vF P w) A (.call (.ref f) args) (CR CX0 outer P w H s Q E) s
section
variable{X:Cx}
noncomputable def jvh(K:uX):R2:=fun x y H Q=>∃a b n k,x=.ref a/\y=.ref b/\a≠b/\n<=8/\DEq K H n (.ref a) (.ref b) k/\Q (.bl (!k)) H
def jhx(hu:X.A.units+8<cLine):OpR X (wJ .NotEq) (jvh X.K):=by
 intro pins s σ H x y v u Q I rx ry h;obtain⟨a,b,n,k,rfl,rfl,ne,hn,q,z⟩:=h
 cases rx
 cases ry
 have r:=(jls I q X.A _ _ rfl rfl ↑∅).2 a b rfl rfl ne true X.xe (EP X pins σ Q);rw[Bool.true_bne] at r;exact r ⟨.bl (!k),H,I,rfl,z⟩
end
section
variable{K:uX}{H:Hp}{Q:VK}{a b:Addr}{n:Nat}{k:Bool}
def jnj(ne:a≠b)(hn:n<=8)(q:DEq K H n (.ref a) (.ref b) k)(h:Q (.bl k) H):jvg K (.ref a) (.ref b) H Q:=⟨a,b,n,k,rfl,rfl,ne,hn,q,h⟩
def jnk(ne:a≠b)(hn:n<=8)(q:DEq K H n (.ref a) (.ref b) k)(h:Q (.bl (!k)) H):jvh K (.ref a) (.ref b) H Q:=⟨a,b,n,k,rfl,rfl,ne,hn,q,h⟩
end
def hu8{k:Nat}{A:vS}(r:ja0 k A):A.units+8<cLine:=by have:=r.un;omega
def SameBut(L:Addr)(H H':Hp):Prop:=∀b o,b≠L->H b=some o->H' b=some o
def SameBut.at{H':Hp}{L:Addr}{o:HO}(e:SameBut L H H'):SameBut L H (upd H' L o):=fun b u hb q=>by
 rw[qa7 hb];exact e b u hb q
def SameBut.of{H':Hp}{L:Addr}(s:jab H H'):SameBut L H H':=fun b u _ q=>s b u q
def jhy(H:Hp)(a:Addr):Prop:=∀o u,H a≠some (.frz o u)
section
variable{X:Cx}{pins:List (Addr×Obj)}{σ:L2.St}{H H':Hp}{s:uC}{a:Addr}{kvs:List (Key×V)}{o:Obj}
def Inv.freeze(I:Inv X pins σ H s)(e:H a=some (.dK kvs))(ho:s.heap.get? a=some o):Inv X pins σ (upd H a (.frz o (.dK kvs))) s:=by
 have ok:=I.hok a _ e;have z:=I.write (x:=a) (e:=a) (o:=.frz o (.dK kvs)) (h':=s.heap) (t':=s.toks) (by rw[e];exact xF) (.inl rfl) (fun _ _ _ q=>q) ⟨o,ho⟩ ⟨ho,ok⟩;exact z
def Inv.thaw(I:Inv X pins σ H s)(e:H a=some (.frz o (.dK kvs)))(n0:jhy X.H₀ a):Inv X pins σ (upd H a (.dK kvs)) s:=by
 have ne:∀b,H b=none->b≠a:=fun b q z=>by subst z;rw[e] at q;cases q
 have nk:∀b u,H b=some u->(∀o' u',u≠ .frz o' u')->b≠a:=fun b u q z w=>by subst w;rw[e] at q;cases q;exact z _ _ rfl
 refine⟨I.ok,I.os,I.bare,⟨I.base.keep,I.base.slot,fun b ob q n hx=>?_,I.base.there,fun b xs q=>?_,fun b ob u q=>?_,fun b ps q=>?_⟩,I.loc,I.cell,?_,fun x c q=>?_,fun p hp=>?_,fun b u q=>?_,I.len⟩
 .have z:=I.base.free b ob q n hx;rw[qa7 (ne b z)];exact z
 .have z:=I.base.tups b xs q;rw[qa7 (nk b _ z (by intro _ _ h;cases h))];exact z
 .have z:=I.base.frzs b ob u q;rw[qa7 (fun w=>by subst w;exact n0 _ _ q)];exact z
 .obtain⟨m,z⟩:=I.base.tbls b ps q;exact⟨m,by rw[qa7 (nk b _ z (by intro _ _ h;cases h))];exact z⟩
 .have z:=I.free;rw[qa7 (ne _ z)];exact z
 .have z:=I.freeC x c q;rw[qa7 (ne _ z)];exact z
 .obtain⟨p1,p2,p3⟩:=I.pin p hp;exact⟨p1,by rw[qa7 (ne _ p2)];exact p2,p3⟩
 .by_cases hb:b=a
  .subst hb;rw[qa1] at q
   cases q
   exact(I.hok b _ e).2
  .rw[qa7 hb] at q;exact(I.hok b u q).stay (fun _ _ _ r=>r) (fun c r=>by rw[qa7 (nk c _ r (by intro _ _ h;cases h))];exact r) fun c xs r=>by rw[qa7 (nk c _ r (by intro _ _ h;cases h))];exact r
def jkg(H0 H H':Hp):Prop:=H'=H\/∃a o kvs,H a=some (.frz o (.dK kvs))/\jhy H0 a/\H'=upd H a (.dK kvs)
def Inv.thawed(I:Inv X pins σ H s)(t:jkg X.H₀ H H'):Inv X pins σ H' s:=by
 rcases t with rfl|⟨a,o,kvs,e,n,rfl⟩
 .exact I
 .exact Inv.thaw I e n
end
section
variable{X:Cx}{st:Stmt}{e:vZ}{t:TS}{te:TE}
noncomputable def thE(H0:Hp)(D:jcd):jcd:={nx:=fun σ H=>∃H',jkg H0 H H'/\D.nx σ H',rt:=fun v H=>∃H',jkg H0 H H'/\D.rt v H',bk:=fun σ H=>∃H',jkg H0 H H'/\D.bk σ H',ct:=fun σ H=>∃H',jkg H0 H H'/\D.ct σ H'}
noncomputable def jvi(H0:Hp)(t:TS):TS:=fun D σ H=>t (thE H0 D) σ H
def qdx(h:PS X st t):PS X st (jvi X.H₀ t):=fun pins s σ H D I q=>thn (h pins s σ H _ I q) fun f s' hs=>by
 cases f with
 |next=>obtain⟨σ',H1,J,H2,th,q⟩:=hs;exact⟨σ',H2,Inv.thawed J th,q⟩
 |brk=>obtain⟨σ',H1,J,H2,th,q⟩:=hs;exact⟨σ',H2,Inv.thawed J th,q⟩
 |cont=>obtain⟨σ',H1,J,H2,th,q⟩:=hs;exact⟨σ',H2,Inv.thawed J th,q⟩
 |ret u=>obtain⟨v,σ',H1,J,r,H2,th,q⟩:=hs;exact⟨v,σ',H2,Inv.thawed J th,r,q⟩
noncomputable def jvj(H0:Hp)(t:TE):TE:=fun σ H Q=>t σ H fun v H1=>∃H',jkg H0 H1 H'/\Q v H'
def jlt(h:PE X e te):PE X e (jvj X.H₀ te):=fun pins s σ H Q I q=>thn (h pins s σ H _ I q) fun u s' ⟨v,H1,J,r,H2,th,q⟩=>⟨v,H2,Inv.thawed J th,r,q⟩
end
def kvget{κ:Type}{kvs:List (κ×V)}{vs:List (κ×uB)}(r:KV kvs vs):∀{i:Nat} {k:κ} {v:V},kvs[i]?=some (k,v)->∃u,vs[i]?=some (k,u)/\qbg v u:=by
 induction r with
 |nil=>intro i k v e;simp at e
 |cons h t ih=>
  intro i k v e
  cases i with
  |zero=>
   simp only[List.getElem?_cons_zero,Option.some.injEq] at e⊢;subst e;obtain⟨h1,h2⟩:=h;exact⟨_,Prod.ext h1.symm rfl,h2⟩
  |succ i=>
   simp only[aM] at e⊢;exact ih e
def jqv{k:Key}{u:uB}(h:jcq k u=true):qbg (kV k) u:=by
 rcases qbi h with⟨i,t,rfl,rfl⟩|⟨x,t,rfl,rfl⟩
 .exact⟨t,rfl⟩
 .exact⟨t,rfl⟩
noncomputable def ItD(d:Addr)(o:Obj)(kvs:List (Key×V)):It:=
 ⟨fun i H=>H d=some (.frz o (.dK kvs))/\i<kvs.length,fun i H x H'=>H'=H/\∃k v,kvs[i]?=some (k,v)/\x=kV k,fun i H=>H d=some (.frz o (.dK kvs))/\kvs.length<=i⟩
def jlu{P:vA}{w:vN}{H:Hp}{h:vU}{d:Addr}{o:Obj}{kvs:List (Key×V)}{es:Array DictEntry}{ep:Nat}(ok:HOk P w H h)(e:H d=some (.frz o (.dK kvs)))(hd:o.data=.dict es ep):
  ∃vs,KV kvs vs/\h.DictAt (qbk P w) d vs ep:=by
 obtain⟨ho,_,_,vs,rel,o',es',ep',ho',ex,hd',ks,ps,nd⟩:=ok d _ e;rw[ho] at ho'
 cases ho'
 rw[hd] at hd'
 cases hd'
 exact⟨vs,rel,o,es,ho,ex,hd,ks,ps,nd⟩
def jdc{P:vA}{w:vN}{K:uX}{tg:vZ}{o:Obj}{kvs:List (Key×V)}{es:Array DictEntry}{ep:Nat}(d it:Addr)(hd:o.data=.dict es ep):jot P w K tg (ItD d o kvs) [it] it (fun i h=>h.IsKeyIter it d i kvs.length ep) where
 mem:=by simp
 obj:=fun i h st b hb=>by
  have e:b=it:=by simpa using hb
  subst e;obtain⟨ob,e,c,dd⟩:=st;exact⟨ob,e,fun v z=>by rw[dd] at z;cases z⟩
 keep:=fun i h h' st k=>st.at fun ob e=>k it (by simp) ob e
 item:=by
  intro X hP hw hK hc i pins s σ H E I hf st hg;subst hP hw hK;obtain⟨hfz,hi⟩:=hg;obtain⟨vs,rel,dat⟩:=jlu I.hok hfz hd;obtain⟨f0,f1,f2,f3,f4,f5⟩:=hf it (by simp);have hl:=rel.length;obtain⟨u,hu,ru⟩:=kvget rel (i:=i) (k:=kvs[i].1) (v:=kvs[i].2) (by rw[zA hi]);rw[hl] at st;refine wpAny_pyNext_dict_item st dat hu fun key h' hkey st' hs'=>?_;have I1:Inv X pins σ H {s with heap:=h'}:=I.turned (t':=s.toks) (fun b ob hb e=>hs'.extBut b ob hb e) f0 f1 f3 f4 f5;obtain⟨ob,e,c,dd⟩:=id st';exact⟨key,rfl,jmp (s:={s with heap:=h'}) e c dd ∅ ⟨kV kvs[i].1,H,I1,jqv hkey,⟨rfl,kvs[i].1,kvs[i].2,zA hi,rfl⟩,by rw[hl];exact st',fun b hb=>(hf b hb).1⟩⟩
 done:=by
  intro X hP hw hK hc i pins s σ H E I hf st hg;subst hP hw hK;obtain⟨hfz,hi⟩:=hg;obtain⟨vs,rel,dat⟩:=jlu I.hok hfz hd;obtain⟨f0,f1,f2,f3,f4,f5⟩:=hf it (by simp);have hl:=rel.length;rw[hl] at st hi;exact wpAny_pyNext_dict_end (I.ok.hd hc) st dat (by simpa using hi) fun h' eb=>⟨rfl,I.turned (t':=s.toks) (fun b ob hb e=>eb b ob hb e) f0 f1 f3 f4 f5⟩
 self:=fun _ _ _ _ _ st h=>wpAny_pyIter_keyiter st h
def jto(x:V)(H:Hp)(R:It->Hp->Prop):Prop:=∃a kvs,x=.ref a/\((H a=some (.dK kvs)/\∀o,R (ItD a o kvs) (upd H a (.frz o (.dK kvs))))\/∃o,H a=some (.frz o (.dK kvs))/\R (ItD a o kvs) H)
noncomputable def jqw(td:TE):TI:=fun σ H R=>td σ H fun x H1=>jto x H1 R
def jhz{P:vA}{w:vN}{h:vU}{d:Addr}(ok:qbw P w H h d (.dK kvs)):∃o es ep vs,h.get? d=some o/\o.data=.dict es ep/\KV kvs vs/\h.DictAt (qbk P w) d vs ep/\(d==xX)=false:=by
 obtain⟨_,hs,vs,rel,o,es,ep,ho,ex,hd,ks,ps,nd⟩:=ok;exact⟨o,es,ep,vs,ho,hd,rel,⟨o,es,ho,ex,hd,ks,ps,nd⟩,hs⟩
def qck{X:Cx}{tg l:vZ}{tl:TE}(hl:PE X l tl):PI X tg l (jqw tl):=by
 intro pins s σ H R I h;refine thn (hl pins s σ H _ I h) fun v s1 h9=>?_;obtain⟨x,H1,I1,r1,q1⟩:=h9;obtain⟨a,kvs,e,q⟩:=q1;subst e
 cases r1
 have ok:qbw X.prog X.w H1 s1.heap a (.dK kvs):=by
  rcases q with⟨e,_⟩|⟨o,e,_⟩
  .exact I1.hok a _ e
  .exact(I1.hok a _ e).2
 obtain⟨o,es,ep,vs,ho,hd,rel,dat,hs⟩:=jhz ok;have hlen:=rel.length;refine wpAny_pyIter_dict hs dat ?_;have it0:(s1.heap.push {cls:=.type "dict_keyiterator",data:=.fields #[.ref a,.int 0 0,.int vs.length 0,.int ep 0]}).IsKeyIter ↑s1 a 0 kvs.length ep:=by
  rw[hlen];exact⟨_,vH _ rfl,rfl,rfl⟩
 rcases q with⟨e,q⟩|⟨o',e,q⟩
 .have I2:=Inv.freeze I1 e ho;refine⟨↑s1,[↑s1],_,_,_,rfl,I2.kept (t':=s1.toks) fun b ob e=>uG _ e,jdc (kvs:=kvs) a _ hd,it0,fun b hb=>?_,q o⟩;have e:b=↑s1:=by simpa using hb
  subst e;exact I2.fpOk (uF _) (I2.hok.fresh (uF _))
 .have eo:o'=o:=by
   have z:=(I1.hok a _ e).1;rw[ho] at z
   cases z
   rfl
  subst eo;refine⟨↑s1,[↑s1],_,_,_,rfl,I1.kept (t':=s1.toks) fun b ob e=>uG _ e,jdc (kvs:=kvs) a _ hd,it0,fun b hb=>?_,q⟩;have e:b=↑s1:=by simpa using hb
  subst e;exact I1.fpOk (uF _) (I1.hok.fresh (uF _))
section
variable{σ:L2.St}{H H':Hp}{D:jcd}{t:TS}{te tl:TE}{Q:VK}{g:TG}{tb:TS}{a:Addr}{o:Obj}{kvs:List (Key×V)}{H0:Hp}{v:V}
def jtp(h:t (thE H0 D) σ H):jvi H0 t D σ H:=h
def qdu(th:jkg H0 H H')(h:D.nx σ H'):(thE H0 D).nx σ H:=⟨H',th,h⟩
def jqx(h:te σ H fun v H1=>∃H',jkg H0 H1 H'/\Q v H'):jvj H0 te σ H Q:=h
def qf0(e:H a=some (.frz o (.dK kvs)))(n:jhy H0 a):jkg H0 H (upd H a (.dK kvs)):=.inr ⟨a,o,kvs,e,n,rfl⟩
def jwj(h:tl σ H fun x H1=>jto x H1 R):jqw tl σ H R:=h
def qf1(e:H a=some (.dK kvs))(h:∀o,R (ItD a o kvs) (upd H a (.frz o (.dK kvs)))):jto (.ref a) H R:=⟨a,kvs,rfl,.inl ⟨e,h⟩⟩
def qe0(Pv:Nat->L2.St->Hp->Prop)(h0:Pv 0 σ H)(hl:∀i σ H,i<=kvs.length->Pv i σ H->H a=some (.frz o (.dK kvs)))
  (hs:∀i k v σ H,kvs[i]?=some (k,v)->Pv i σ H->g (kV k) σ H fun σ2 H2=>tb {nx:=Pv (i+1),rt:=D.rt,bk:=D.nx,ct:=Pv (i+1)} σ2 H2)(hd:∀σ H,Pv kvs.length σ H->D.nx σ H):FOR (ItD a o kvs) g tb D σ H:=by
 refine⟨fun i m σ H=>m=kvs.length-i/\i<=kvs.length/\Pv i σ H,⟨kvs.length,rfl,wR _,h0⟩,?_⟩;rintro i m σ H ⟨rfl,hi,p⟩;have q:=hl i σ H hi p;by_cases hlt:i<kvs.length
 .refine .inr ⟨⟨q,hlt⟩,Pv (i+1),fun σ' H' p'=>⟨kvs.length-(i+1),↑∅,rfl,hlt,p'⟩,fun x H' y=>?_⟩;obtain⟨e,k,v,hk,rfl⟩:=y;subst e;exact hs i k v σ _ hk p
 .have e:i=kvs.length:=Nat.le_antisymm hi (Nat.le_of_not_lt hlt);subst e;exact .inl ⟨⟨q,uF _⟩,hd σ H p⟩
end
def jh0{P:vA}{w:vN}{h:vU}{o:HO}(x:qbw P w H h a o):∃u,h.get? a=some u:=by
 induction o with
 |lst xs=>obtain⟨_,_,_,_,e⟩:=x;exact⟨_,e⟩
 |tup xs=>obtain⟨_,_,_,ob,e,_⟩:=x;exact⟨_,e⟩
 |dK kvs=>obtain⟨_,_,_,_,o,_,_,e,_⟩:=x;exact⟨_,e⟩
 |dT kvs=>obtain⟨_,_,_,_,o,_,_,e,_⟩:=x;exact⟨_,e⟩
 |set S n=>obtain⟨o,_,_,_,e,_⟩:=x;exact⟨_,e⟩
 |ins C dx fs=>obtain⟨_,_,_,e,_⟩:=x;exact⟨_,e⟩
 |own y=>exact x
 |xd fs=>obtain⟨_,⟨_,_,_,e,_⟩,_⟩:=x;exact⟨_,e⟩
 |rng lo hi=>obtain⟨_,_,_,e⟩:=x;exact⟨_,e⟩
 |frz ob u ih=>exact⟨_,x.1⟩
 |tbl ps=>exact⟨_,x⟩
 |met f y=>exact⟨_,x⟩
 |ext φ=>exact x.2.1
def Inv.laidN{X:Cx}{pins:List (Addr×Obj)}{σ:L2.St}{H:Hp}{s:uC}{h':vU}{a:Addr}{o:HO}{t':Nat}(I:Inv X pins σ H s)(k:∀b u,s.heap.get? b=some u->h'.get? b=some u)(hg:s.heap.get? a=none)(new:qbw X.prog X.w (upd H a o) h' a o):
  H a=none/\Inv X pins σ (upd H a o) {s with heap:=h',toks:=t'}:=by
 have hn:H a=none:=by
  cases q:H a with
  |none=>rfl
  |some u=>obtain⟨v,e⟩:=jh0 (I.hok a u q);rw[hg] at e;cases e
 refine⟨hn,I.un ⟨fun b u q _ _ _=>k b u q,fun b u q _ _ _=>⟨u.slots,k b u q⟩,fun b u q n _=>by rw[qa7 (fun z=>by subst z;rw[hg] at q;cases q)];exact n,fun b u q _=>⟨u,k b u q⟩,fun b xs q=>by rw[qa7 (qa9 q hn)];exact q,
  fun b u xs q=>by rw[qa7 (qa9 q hn)];exact q,fun b ps q=>⟨#[],by rw[qa7 (qa9 q hn),q];simp⟩⟩ fun b u e=>?_⟩
 by_cases hb:b=a
 .subst hb;rw[qa1] at e;cases e;exact new
 .rw[qa7 hb] at e;exact(I.hok b u e).stay (fun c v _ q=>k c v q) (fun c q=>by rw[qa7 (qa9 q hn)];exact q) fun c xs q=>by rw[qa7 (qa9 q hn)];exact q
section
variable{X:Cx}
noncomputable def jh1:List V->Hp->VK->Prop:=fun xs H Q=>∃p kvs,xs=[.ref p]/\Rd H p (.dK kvs)/\∀q,H q=none->Q (.ref q) (upd H q (.dK kvs))
def qc0:qcv X (.type "dict") jh1:=by
 intro pins s σ H xs us Q I hv h;obtain⟨p,kvs,rfl,e,q⟩:=h;obtain⟨u,rfl,ru⟩:=hv.one
 cases ru
 exact jkc I e fun l s' hl I'=>⟨.ref l,_,I',rfl,q l hl⟩
theorem qgj:∀{ss:List Str} {us:List uB},qbl (ss.map V.str) us->fS us ss
 | [],_,r=>by cases r;exact .nil
 |x::ss,_,r=>by
  cases r with
  |cons h t=>obtain⟨k,rfl⟩:=h;exact .cons x k (qgj t)
theorem qfe:∀{us:List uB} {ss:List Str},fS us ss->qbl (ss.map V.str) us
 |_,_,.nil=> .nil
 |_,_,.cons x t h=> .cons ⟨t,rfl⟩ (qfe h)
noncomputable def jlv(K:uX):List V->Hp->VK->Prop:=fun xs H Q=>∃p ss,xs=[.ref p]/\SqL K H p (ss.map V.str)/\ss.length<64/\∀l ss',H l=none->ss'.Perm ss->sortedS ss'=true->Q (.ref l) (upd H l (.lst (ss'.map V.str)))
def qge:qcv X (.builtin "sorted") (jlv X.K):=by
 intro pins s σ H xs us Q I hv h;obtain⟨p,ss,rfl,hS,hz,q⟩:=h;obtain⟨u,rfl,ru⟩:=hv.one
 cases ru
 obtain⟨its,rv,pl,hz'⟩:=I.list hS;have hlen:=rv.length;rw[zB] at hlen;refine sorted_strs (vs:=its) (PlainL.isList pl) (qgj rv) ↑∅ fun out ss' a1 a2 a3=>?_;obtain⟨e,he⟩:=sortedAll_at s.heap its out;have hl2:=a2.length_eq;have I2:=I.laid (a:=↑s+1) (o:=.lst (ss'.map V.str)) (t':=s.toks) (fun b ob hb=>sortedAll_old hb) (bR _) ⟨by rw[zB,yY];omega,out.toList,e,qfe a1,by simpa[seqObj] using he⟩;exact⟨.ref _,_,I2,rfl,q _ ss' (I.hok.fresh (bR _)) a2 a3⟩
noncomputable def jlw:List V->Hp->VK->Prop:=fun xs H Q=>∃p kvs ss,xs=[.ref p]/\Rd H p (.dK kvs)/\kvs.map (·.1)=ss.map uE/\ss.length<64/\∀l ss',H l=none->ss'.Perm ss->sortedS ss'=true->Q (.ref l) (upd H l (.lst (ss'.map V.str)))
def jh2{ss:List Str}{us:List uB}(hl:us.length=ss.length)(h:∀(j:Nat)(u:uB),us[j]?=some u->∃x,ss[j]?=some x/\jcq (.inr x) u=true):fS us ss:=by
 induction us generalizing ss with
 |nil=>cases ss with
  |nil=>exact .nil
  |cons _ _=>simp at hl
 |cons u us ih=>cases ss with
  |nil=>simp at hl
  |cons x ss=>
   obtain⟨y,hy,hk⟩:=h 0 u rfl;simp only[List.getElem?_cons_zero,Option.some.injEq] at hy;subst hy;rcases qbi hk with⟨i,t,e,_⟩|⟨z,t,e,rfl⟩
   .cases e
   .cases e
    exact .cons x t (ih (by simpa using hl) fun j v hv=>by have:=h (j+1) v (by simpa using hv);simpa using this)
def qcb(hc:X.calm=true):qcv X (.builtin "sorted") jlw:=by
 intro pins s σ H xs us Q I hv h;obtain⟨p,kvs,ss,rfl,hR,hk,hz,q⟩:=h;obtain⟨u,rfl,ru⟩:=hv.one
 cases ru
 obtain⟨o,es,ep,vs,ho,hd,rel,dat,hs⟩:=jhz (hR.ok I.hok);have hlen:=rel.length;have hks:=rel.keys;have hl2:kvs.length=ss.length:=by have:=congrArg wG hk;simpa using this
 refine Calls.call_function_entry kind_sorted plain_sorted entry_sorted (args_sorted1 _) ?_;unfold aR.«sorted»;refine uK (m:=checkCount "sorted" 1 1 _) (vE ?_);refine uK (PySem.W.kdu_collect (A:=X.A.in1) (PySem.W.kdl_dict (knd:=qbk X.prog X.w) (kvs:=vs) (ep:=ep) hs) (I.ok.hd hc) dat (by rw[yY];omega) fun h' tk acc hkeep hacc=>?_);have hal:acc.toList.length=vs.length:=by rw[bX];exact hacc.1
 refine uK (wpAny_newList ?_ (by rw[hal,yY];omega));have hS:fS acc.toList ss:=by
  refine jh2 ↑∅ fun j v hv=>?_;obtain⟨k,x,hx,hkv⟩:=hacc.2 j v (by rw[<-bD];exact hv);have e1:(vs.map (·.1))[j]?=some k:=by rw[zC,hx];rfl
  rw[<-hks,hk,zC] at e1;obtain⟨z,hz1,rfl⟩:=uH.mp e1;exact⟨z,hz1,hkv⟩
 have hoL:(h'.push {cls:=.type "list",data:=.seq acc.toList.toArray}).get? h'.objs.size=some (seqObj "list" acc.toList.toArray 0):=vH _ rfl;refine uK (xR (gG slot_list_sort ⟨_,hoL,rfl⟩ entry_list_sort (list_sort_treeK strKind_oneLt hoL hS.keysOf (fun v₁ v₂ rest e=>keyKind_strs (by rw[<-e];exact hS)) ↑∅ fun st' a1 a2=>⟨_,rfl,?_⟩) (args_list_sort _)));obtain⟨ss',b1,b2,b3⟩:=sorted_out_str hS a1 a2;obtain⟨e,he⟩:=sortedHeap_at (out:=(arrOf st').map (·.2)) hoL;have hl3:=b2.length_eq;have hg:s.heap.get? h'.objs.size=none:=by
  cases q:s.heap.get? h'.objs.size with
  |none=>rfl
  |some ob=>exact absurd (uP (hkeep _ _ q)) (wQ _)
 obtain⟨hn,I2⟩:=Inv.laidN I (h':=sortedHeap (h'.push {cls:=.type "list",data:=.seq acc.toList.toArray}) h'.objs.size acc.toList ((arrOf st').map (·.2))) (a:=h'.objs.size) (o:=.lst (ss'.map V.str)) (t':=tk) (fun b ob hb=>by
  have hb':=hkeep b ob hb;rw[sortedHeap_old (vL (uP hb')) (by rw[size_push'];exact fT (uP hb'))];exact uG _ hb') hg ⟨by rw[zB,yY];omega,((arrOf st').map (·.2)).toList,e,qfe b1,by rw[Array.toArray_toList];exact he⟩
 exact vE ⟨_,rfl,.ref _,_,I2,rfl,q _ ss' hn b2 b3⟩
end
section
variable{K:uX}{H:Hp}{Q:VK}{p:Addr}{kvs:List (Key×V)}{ss:List Str}
def jkh(e:Rd H p (.dK kvs))(h:∀q,H q=none->Q (.ref q) (upd H q (.dK kvs))):jh1 [.ref p] H Q:=⟨p,kvs,rfl,e,h⟩
def jtq{B:Prop}(h:H p=some (.dK kvs))(q:B):tyV K "dict" (.ref p) H/\B:=⟨.inr (.inr (.inl ⟨rfl,.inl ⟨_,h⟩⟩)),q⟩
def jh3(e:SqL K H p (ss.map V.str))(hz:ss.length<64)(h:∀l ss',H l=none->ss'.Perm ss->sortedS ss'=true->Q (.ref l) (upd H l (.lst (ss'.map V.str)))):jlv K [.ref p] H Q:=⟨p,ss,rfl,e,hz,h⟩
def qdg(e:Rd H p (.dK kvs))(hk:kvs.map (·.1)=ss.map uE)(hz:ss.length<64)(h:∀l ss',H l=none->ss'.Perm ss->sortedS ss'=true->Q (.ref l) (upd H l (.lst (ss'.map V.str)))):jlw [.ref p] H Q:=⟨p,kvs,ss,rfl,e,hk,hz,h⟩
end
structure AD(kvs:List (Key×V))(f:Str->Option Int):Prop where
 nd:(kvs.map (·.1)).Nodup
 sh:∀p∈kvs,∃z i,p=(uE z,V.int i)
 get:∀z,qcp kvs (uE z)=(f z).map V.int
noncomputable def noF:Str->Option Int:=fun _=>none
noncomputable def jgh(f:Str->Option Int)(z:Str)(i:Int):Str->Option Int:=fun y=>if y=z then some i else f y
def AD.nil:AD [] noF:=⟨yJ,fun p hp=>absurd hp (by simp),fun z=>rfl⟩
def AD.cast(h:AD kvs f)(e:∀z,f z=g z):AD kvs g:=⟨h.nd,h.sh,fun z=>by rw[h.get,e]⟩
def qed{k:Key}(h:qcp kvs k≠none):(qbh kvs k v).map (·.1)=kvs.map (·.1):=by
 unfold qbh;have e:(kvs.any fun kv=>decide (kv.1=k))=true:=by rw[qcw];cases q:qcp kvs k with
  |none=>exact absurd q h
  |some _=>rfl
 rw[gL e,yP];apply List.map_congr_left;intro p _;show(if p.1=k then(p.1,v) else p).1=p.1
 split<;>rfl
def jfl{k:Key}{p:Key×V}(h:p∈qbh kvs k v):p=(k,v)\/p∈kvs:=by
 unfold qbh at h
 split at h
 .obtain⟨q,hq,e⟩:=zJ.mp h
  split at e
  .rename_i ek;subst ek;exact .inl e.symm
  .subst e;exact .inr hq
 .rcases zN.mp h with h|h
  .exact .inr h
  .exact .inl (by simpa using h)
def AD.put(h:AD kvs f)(z:Str)(i:Int):AD (qbh kvs (uE z) (.int i)) (jgh f z i):=by
 refine⟨?_,fun p hp=>?_,fun y=>?_⟩
 .cases q:qcp kvs (uE z) with
  |none=>exact jee _ h.nd q
  |some v=>rw[qed (by rw[q];simp)];exact h.nd
 .rcases jfl hp with rfl|hp
  .exact⟨z,i,rfl⟩
  .exact h.sh p hp
 .rw[qf6];unfold jgh;by_cases e:y=z
  .subst e;rw[gL rfl,gL rfl];rfl
  .rw[gK (fun q=>e (yW q)),gK e];exact h.get y
def qff(nd:(kvs.map (·.1)).Nodup){k:Key}{v:V}(h:(k,v)∈kvs):qcp kvs k=some v:=by
 induction kvs with
 |nil=>simp at h
 |cons p r ih=>
  rw[zV,zZ] at nd;rcases zP.mp h with rfl|h
  .exact qc5 rfl
  .have ne:¬p.1=k:=fun e=>nd.1 (e▸zJ.mpr ⟨(k,v),h,rfl⟩);rw[qc6 ne];exact ih nd.2 h
def AD.mem(h:AD kvs f){k:Key}{v:V}(hm:(k,v)∈kvs):∃z n,k=uE z/\v=.int n/\f z=some n:=by
 obtain⟨z,n,e⟩:=h.sh _ hm
 cases e
 have q:=qff h.nd hm;rw[h.get] at q
 cases hf:f z with
 |none=>rw[hf] at q;cases q
 |some m=>rw[hf] at q;cases q;exact⟨z,_,rfl,rfl,hf⟩
noncomputable def qc3(kvs:List (Key×V)):List Str:=kvs.filterMap fun p=>match p.1 with| .inr z=>some z| .inl _=>none
def AD.keys(h:AD kvs f):kvs.map (·.1)=(qc3 kvs).map uE:=by
 have sh:=h.sh;clear h
 induction kvs with
 |nil=>rfl
 |cons p r ih=>
  obtain⟨z,i,rfl⟩:=sh p (zG ..);show uE z::r.map (·.1)=(z::qc3 r).map uE;rw[zV,ih fun q hq=>sh q (zD _ hq)]
def AD.klen(h:AD kvs f):(qc3 kvs).length=kvs.length:=by
 have:=congrArg wG h.keys;simpa using this.symm
def AD.knd(h:AD kvs f):(qc3 kvs).Nodup:=by
 have nd:=h.nd;rw[h.keys] at nd;exact List.Pairwise.imp (fun ne e=>ne (congrArg uE e)) (aV.mp nd)
def AD.kin(h:AD kvs f)(z:Str):z∈qc3 kvs↔f z≠none:=by
 constructor
 .intro hz;have hm:(uE z:Key)∈kvs.map (·.1):=by rw[h.keys];exact zJ.mpr ⟨z,hz,rfl⟩
  obtain⟨⟨k,v⟩,hp,e⟩:=zJ.mp hm;dsimp only at e;subst e;obtain⟨z',n,e1,_,hf⟩:=h.mem hp
  cases e1
  rw[hf];simp
 .intro hf
  cases q:f z with
  |none=>exact absurd q hf
  |some n=>
   have hv:=h.get z;rw[q] at hv;have hm:=jne hv;rw[h.keys] at hm;obtain⟨y,hy,e⟩:=zJ.mp hm
   cases e
   exact hy
theorem jnl:∀{l m:List Str},l.Nodup->(∀a∈l,a∈m)->l.length<=m.length
 | [],_,_,_=>wR _
 |a::l,m,nd,h=>by
  have ha:=h a (zG ..);rw[zZ] at nd;have q:=jnl (l:=l) (m:=m.erase a) nd.2 fun b hb=>(List.mem_erase_of_ne (fun(e:b=a)=>nd.1 (by rw[<-e];exact hb))).mpr (h b (zD _ hb));rw[List.length_erase_of_mem ha] at q;have:0<m.length:=List.length_pos_of_mem ha;simp only[zR];omega
def AD.le(h:AD kvs f){ws:List Str}(hs:∀z,f z≠none->z∈ws):kvs.length<=ws.length:=by
 rw[<-h.klen];exact jnl h.knd fun z hz=>hs z ((h.kin z).mp hz)
theorem AD.at(h:AD kvs f){i:Nat}{k:Key}{v:V}(e:kvs[i]?=some (k,v)):∃z n,k=uE z/\v=.int n/\f z=some n/\(qc3 kvs)[i]?=some z:=by
 obtain⟨z,n,rfl,rfl,hf⟩:=h.mem (zE e);refine⟨z,n,rfl,rfl,hf,?_⟩;have q:(kvs.map (·.1))[i]?=some (uE z):=by rw[zC,e];rfl
 rw[h.keys,zC] at q;obtain⟨y,hy,e⟩:=uH.mp q
 cases e
 exact hy
def leS(a b:Str):Prop:=ltCps b.cps.toList a.cps.toList=false
def qdk{a:Str} :leS a b↔a.cps.toList<=b.cps.toList:=by
 unfold leS;rw[ltCps_eq,decide_eq_false_iff_not];exact List.not_lt
def jki(a:Str):leS a a:=qdk.mpr (List.le_refl _)
def jdd{a c:Str}(h:leS a b)(h':leS b c):leS a c:=qdk.mpr (List.le_trans (qdk.mp h) (qdk.mp h'))
def jkj{a:Str}(h:leS a b)(h':leS b a):a=b:=by
 have e:=List.le_antisymm (qdk.mp h) (qdk.mp h');obtain⟨⟨x⟩⟩:=a;obtain⟨⟨y⟩⟩:=b;have e':x=y:=e;subst e';rfl
theorem jde:∀{p:Str} {l:List Str},risingS p l=true->(p::l).Pairwise leS
 |p,[],_=>List.pairwise_singleton _ _
 |p,x::r,h=>by
  have h':(!ltCps x.cps.toList p.cps.toList && risingS x r)=true:=h;rw[wC,fP] at h';have q:=jde h'.2;refine fB.mpr ⟨fun y hy=>?_,q⟩;rcases zP.mp hy with rfl|hy
  .exact h'.1
  .exact jdd h'.1 (aD q hy)
def qfh:∀{l:List Str},sortedS l=true->l.Pairwise leS
 | [],_=>fO
 |x::r,h=>jde h
noncomputable def gN(f:Str->Option Int)(z:Str):Int:=(f z).getD 0
noncomputable def qgy(f g:Str->Option Int):Str->Option Int:=fun y=>match g y with|none=>f y|some b=>some (gN f y+b)
noncomputable def qdh(f:Str->Option Int):Str->Option Int:=fun y=>match f y with|none=>none|some a=>if 0<a then some a else none
def jqy(h:AD kvs f)(z:Str):(qcp kvs (uE z)).getD (.int 0)=.int (gN f z):=by
 rw[h.get];unfold gN
 cases f z<;>rfl
def qat(h:l[i]?=some z)(y:Str):y∈l.take (i+1)↔y∈l.take i\/y=z:=by
 rw[zM,h,zN];simp
def qgo(nd:l.Nodup){i:Nat}{z:Str}(h:l[i]?=some z):z∉l.take i:=fun hm=>by
 obtain⟨j,hj,e⟩:=zU.mp hm;have hj':j<i:=by rw[zS] at hj;omega
 have hjl:j<l.length:=by rw[zS] at hj;omega
 rw[fU] at e;obtain⟨hi,e2⟩:=uL.mp h;exact absurd ((gD nd).mp (e.trans e2.symm)) ↑∅
section
variable{σ:L2.St}{H H':Hp}{Q:VK}{D:jcd}{td ty tx tv:TE}{a b p:Addr}{kvs kb:List (Key×V)}{f:Str->Option Int}{z:Str}{n:Int}{v:V}{o:Obj}
def rDG(a:Addr)(y z:V)(H:Hp)(Q:VK):Prop:=∃o,jgf H a y o/\Q (o.getD z) H
def jvk(ty tx:TE)(σ:L2.St)(Q:VK)(x:V)(H:Hp):Prop:=∃a,x=.ref a/\IsD H a/\ty σ H fun y H2=>tx σ H2 fun z H3=>rDG a y z H3 Q
def jtr(h:td σ H fun x H1=>jvk ty tx σ Q x H1):jlp td ty tx σ H Q:=h
def jqz(d:Rd H a (.dK kvs))(h:ty σ H fun y H2=>tx σ H2 fun z H3=>rDG a y z H3 Q):jvk ty tx σ Q (.ref a) H:=⟨a,rfl,.inl ⟨kvs,d⟩,h⟩
def jq0(d:Rd H a (.dK kvs))(A:AD kvs f)(h:Q (.int (gN f z)) H):rDG a (.str z) (.int 0) H Q:=by
 refine⟨qcp kvs (uE z),.inl ⟨kvs,uE z,d,rfl,rfl⟩,?_⟩;rw[jqy A];exact h
def jsc(x y:V)(H:Hp)(Q:VK):Prop:=∃a v,x=.ref a/\jgf H a y (some v)/\Q v H
def jwk(h:td σ H fun x H1=>ty σ H1 fun y H2=>jsc x y H2 Q):jqa td ty σ H Q:=h
def jts(d:Rd H a (.dK kvs))(A:AD kvs f)(e:f z=some n)(h:Q (.int n) H):jsc (.ref a) (.str z) H Q:=
 ⟨a,.int n,rfl,.inl ⟨kvs,uE z,d,rfl,by rw[A.get,e];rfl⟩,h⟩
def rDP(x y v:V)(H:Hp)(D:jcd)(σ:L2.St):Prop:=∃a H4,x=.ref a/\jox H a y v H4/\D.nx σ H4
def jwl(h:tv σ H fun v H1=>td σ H1 fun x H2=>ty σ H2 fun y H3=>rDP x y v H3 D σ):jqb td ty tv D σ H:=h
def jq1(e:H a=some (.dK kvs))(hz:kvs.length<sizeLine)(h:D.nx σ (upd H a (.dK (qbh kvs (uE z) v)))):rDP (.ref a) (.str z) v H D σ:=⟨a,_,rfl,jox.k (k:=uE z) e hz,h⟩
def rDI(x y:V)(H:Hp)(Q:VK):Prop:=∃a o,x=.ref a/\jgf H a y o/\Q (.bl o.isSome) H
def jwm(h:ty σ H fun y H1=>td σ H1 fun x H2=>rDI x y H2 Q):jvc ty td σ H Q:=h
def jtt(d:Rd H a (.dK kvs))(A:AD kvs f)(h:Q (.bl (f z).isSome) H):rDI (.ref a) (.str z) H Q:=by
 refine⟨a,qcp kvs (uE z),rfl,.inl ⟨kvs,uE z,d,rfl,rfl⟩,?_⟩;rw[A.get,aT];exact h
def jq2(h:∀p,H p=none->Q (.ref p) (upd H p (.dK []))):jlo σ H Q:=h
def qce(e:H a=some (.dK kvs)):jhy H a:=fun o u z=>by rw[e] at z;cases z
def jdf(d:Rd H a (.dK kvs))(n:H p=none){u:HO}:Rd (upd H p u) a (.dK kvs):=by
 rcases d with d|⟨o,d⟩
 .exact .inl (qaa d n)
 .exact .inr ⟨o,qaa d n⟩
def jtu(d:Rd H b (.dK kb))(ea:H a=some (.dK kvs))(sb:SameBut a H H')(fz:H' a=some (.frz o (.dK kvs))):Rd H' b (.dK kb):=by
 by_cases e:b=a
 .subst e;rcases d with d|⟨o',d⟩
  .rw[ea] at d;cases d;exact .inr ⟨o,fz⟩
  .rw[ea] at d;cases d
 .rcases d with d|⟨o',d⟩
  .exact .inl (sb _ _ e d)
  .exact .inr ⟨o',sb _ _ e d⟩
def qd3(e:H a=some (.dK kvs))(sb:SameBut a H H'):jab H (upd H' a (.dK kvs)):=fun b u q=>by
 by_cases h:b=a
 .subst h;rw[qa1];rw[e] at q;exact q
 .rw[qa7 h];exact sb b u h q
def jfm(e:H a=some (.dK kvs)):SameBut a H (upd H a (.frz o (.dK kvs))):=fun b u h q=>by rw[qa7 h];exact q
def jh4{l:Addr}{u:HO}(sb:SameBut a H H')(n:H l=none):SameBut a H (upd H' l u):=fun b w h q=>by
 rw[qa7 (qa9 q n)];exact sb b w h q
def qb9{l:Addr}{u:HO}(s:jab H H')(n:H l=none):jab H (upd H' l u):=fun b w q=>by rw[qa7 (qa9 q n)];exact s b w q
end
def viol(f g:Str->Option Int)(y:Str):Prop:=f y≠none/\gN g y<gN f y
def jfn{ws:List Str}(hf:∀z,f z≠none->z∈ws)(hg:∀z,g z≠none->z∈ws)(z:Str)(h:qgy f g z≠none):z∈ws:=by
 unfold qgy at h
 cases e:g z with
 |none=>rw[e] at h;exact hf z h
 |some b=>exact hg z (by rw[e];simp)
def jfo(h:l[i]?=some z)(F G:Str->Option Int){v:Int}(hv:F z=some v)(y:Str):jgh (fun y=>if y∈l.take i then F y else G y) z v y=if y∈l.take (i+1) then F y else G y:=by
 unfold jgh;by_cases e:y=z
 .subst e;rw[gL rfl,gL ((qat h y).mpr (.inr rfl)),hv]
 .rw[gK e];by_cases e2:y∈l.take i
  .rw[gL ((qat h y).mpr (.inl e2))];exact gL e2
  .rw[gK (fun q=>((qat h y).mp q).elim e2 e)];exact gK e2
def jnm(h:l[i]?=some z)(F G:Str->Option Int)(hv:F z=G z)(y:Str):(if y∈l.take i then F y else G y)=if y∈l.take (i+1) then F y else G y:=by
 by_cases e2:y∈l.take i
 .rw[gL e2,gL ((qat h y).mpr (.inl e2))]
 .rw[gK e2];by_cases e:y=z
  .subst e;rw[gL ((qat h y).mpr (.inr rfl)),hv]
  .rw[gK (fun q=>((qat h y).mp q).elim e2 e)]
def jfp(hB:AD kvs g)(F G:Str->Option Int)(hn:∀y,g y=none->F y=G y)(y:Str):(if y∈(qc3 kvs).take kvs.length then F y else G y)=F y:=by
 rw[<-hB.klen,zH];by_cases e:y∈qc3 kvs
 .rw[gL e]
 .rw[gK e];refine(hn y ?_).symm
  cases hf:g y with
  |none=>rfl
  |some n=>exact absurd ((hB.kin y).mpr (by rw[hf];simp)) e
def jtv{i j:Bool}(h:Q (.bl (!decide (i=j))) H):rNe (.bl i) (.bl j) H Q:=⟨rfl,by
 have e:decide (V.bl i=V.bl j)=decide (i=j):=by by_cases z:i=j<;>simp[z]
 rw[e];exact h⟩
section
variable{X:Cx}
def jh5{elt iter:vZ}{x y:Str}{px py:Pos}{ifs:List vZ}{scope:xL}{cl:List (Str×Addr)}{pos spos:Pos}{caps:List Nat}{cn:List Str}{wi:TI}{tt:CT TT}{te:CT TE}{j:Nat}(Cp:jow X x scope cl caps cn)(hc:X.calm=true)
  (hN:X.N.Nodup)(hy:X.N[j]?=some y)(hly:X.env.scope.names.lookup y=some .local)
  (hi:PI X (.Name x px) iter wi)(ht:∀C s H fp,jov (cxC X (x::cn) scope cl C s H fp) ifs (tt C s H fp))(he:∀C s H fp,PE (cxC X (x::cn) scope cl C s H fp) elt (te C s H fp))
  (hsw:autoParam (eB (.ListComp elt [⟨.Name x px,iter,ifs,0⟩] scope pos) (some (.Name y py)) spos.line X.env=pure true) aR)(hs:∀x,cF iter X.env x=pure x:=by intro _;rfl):
  PS X (.Assign [.Name y py] (.ListComp elt [⟨.Name x px,iter,ifs,0⟩] scope pos) spos) (jpc (jhn wi caps tt te) (qe6 j)):=by
 intro pins s σ H D I h
 replace h:jhn wi caps tt te σ H (fun v H1=>D.nx (σ.set j (some v)) H1):=h
 rw[exec_Assign_Name_used _ _ _ _ hsw];refine uK (eO (uK ?_));show vC _ X.A (do let _<-comprehension (.ListComp elt [⟨.Name x px,iter,ifs,0⟩] scope pos) scope X.env _ (newList []) false (wW iter X.env) (some (gE (.Name y py) X.env))) _ _ s;refine uK (wK (cN (use:=some (gE (.Name y py) X.env)) (Q:=fun _ s'=>SP X pins D .next s') rfl hs Cp.clos Cp.kind Cp.names
  (thn (hi pins s σ H _ I h) fun v s1 h1=>thn h1 fun itv s2 h2=>qgw Cp hc ht h2 (fun acc s3 H3 fp I3 f3 pn s9 τ H9 R I9 q9=>wK (he _ _ _ _ pn s9 τ H9 R I9 q9) (fun _ _ q=>q) fun _ _ q=>q.elim) fun acc s3 H3 fp I3 f3 τ H5 s6 v I6 qn=>?_)) (fun _ s' hq=>vE (vE hq)) fun _ _ e=>e)
 obtain⟨m,hm,_⟩:=id I6.loc;have J0:Inv X pins σ H5 s6:=Inv.uncomp I3 f3 rfl I6 (h':=s6.heap) ⟨rfl,fun _ _=>rfl⟩;have fC:jcp X pins H5 ↑s3:=I3.fpOk (uF _) I6.free;show vC _ X.A (gE (.Name y py) X.env (.ref acc)) _ _ s6;refine fI (jcr (X:=X) (v:=.ref acc) J0 hN hy (.inl hly) rfl (fun s7 I7 h9=>?_) (.inr hly));obtain⟨a,sb,ha⟩:=h9;have nC:↑s3≠a:=by
  rcases ha with rfl|ha
  .exact fC.2.1
  .exact(fC.2.2.2.2.1 y a ha).symm
 refine⟨m,hm.sameBut sb nC,fun h' sb'=>⟨_,H5,?_,qn⟩⟩;exact I7.turned (t':=s7.toks) (fun b o hb e=>(sb'.2 b hb).trans e) fC.1 fC.2.1 fC.2.2.2.1 fC.2.2.2.2.1 fC.2.2.2.2.2
end
section
variable{X:Cx}{pins:List (Addr×Obj)}{σ:L2.St}{H:Hp}{s:uC}{h':vU}
def Inv.turnedL{t':Nat}{ch:List Addr}(I:Inv X pins σ H s)(hf:∀b∈ch,jcp X pins H b)(k:∀b o,b∉ch->s.heap.get? b=some o->h'.get? b=some o):Inv X pins σ H {s with heap:=h',toks:=t'}:=by
 have nit:∀b u,H b=some u->b∉ch:=fun b u e z=>by rw[(hf b z).1] at e;cases e
 refine I.step (g':=s.gens) (d':=s.drawn) (ch:=ch) (fun b hb=>⟨(hf b hb).2.2.2.1,(hf b hb).2.1,(hf b hb).2.2.2.2.1,(hf b hb).2.2.2.2.2⟩) (fun b o _ _ hc e _=>k b o hc e) (fun b o _ _ hc e _=>⟨o.slots,k b o hc e⟩) (fun _ _ _ _ n=>n)
  (fun b o hc e=>⟨o,k b o hc e⟩) (fun _ _ e=>e) (fun _ _ _ e=>e) (fun b ps e=>⟨#[],by rw[e];simp⟩) (fun m hm=>?_) (fun b u e=>?_) I.bare
 .obtain⟨o,es,ep,ho,r⟩:=hm;exact⟨o,es,ep,k _ o (fun z=>(hf _ z).2.1 rfl) ho,r⟩
 .refine(I.hok b u e).stay (fun c v hc q=>k c v ?_ q) (fun _ q=>q) fun _ _ q=>q;rcases hc with rfl|hc
  .exact nit _ _ e
  .exact nit _ _ hc
def Inv.turnedT{t':Nat}{ch:List Addr}{T:Addr}{ob:HO}(I:Inv X pins σ H s)(hf:∀b∈ch,jcp X pins H b)(k:∀b o,b∉ch->s.heap.get? b=some o->h'.get? b=some o)(hT:s.heap.get? T=none)(hn:H T=none)(new:qbw X.prog X.w (upd H T ob) h' T ob):
  Inv X pins σ (upd H T ob) {s with heap:=h',toks:=t'}:=by
 have nit:∀b u,H b=some u->b∉ch:=fun b u e z=>by rw[(hf b z).1] at e;cases e
 refine I.step (g':=s.gens) (d':=s.drawn) (ch:=ch) (fun b hb=>⟨(hf b hb).2.2.2.1,(hf b hb).2.1,(hf b hb).2.2.2.2.1,(hf b hb).2.2.2.2.2⟩) (fun b o _ _ hc e _=>k b o hc e) (fun b o _ _ hc e _=>⟨o.slots,k b o hc e⟩)
  (fun b o _ e n=>by rw[qa7 (fun z=>by subst z;rw[hT] at e;cases e)];exact n)
  (fun b o hc e=>⟨o,k b o hc e⟩) (fun b xs e=>by rw[qa7 (qa9 e hn)];exact e) (fun b o u e=>by rw[qa7 (qa9 e hn)];exact e) (fun b ps e=>⟨#[],by rw[qa7 (qa9 e hn),e];simp⟩) (fun m hm=>?_) (fun b u e=>?_) I.bare
 .obtain⟨o,es,ep,ho,r⟩:=hm;exact⟨o,es,ep,k _ o (fun z=>(hf _ z).2.1 rfl) ho,r⟩
 .by_cases hb:b=T
  .subst hb;rw[qa1] at e;cases e;exact new
  .rw[qa7 hb] at e;refine(I.hok b u e).stay (fun c v hc q=>k c v ?_ q) (fun c q=>by rw[qa7 (qa9 q hn)];exact q) fun c xs q=>by rw[qa7 (qa9 q hn)];exact q
   rcases hc with rfl|hc
   .exact nit _ _ e
   .exact nit _ _ hc
end
noncomputable def ItZ(K:uX)(l1 l2:Addr)(xs ys:List V):It:=
 ⟨fun i H=>SqL K H l1 xs/\SqL K H l2 ys/\i<xs.length/\i<ys.length,fun i H v H'=>∃T x y,H T=none/\xs[i]?=some x/\ys[i]?=some y/\v=.ref T/\H'=upd H T (.tup [x,y]),fun i H=>SqL K H l1 xs/\SqL K H l2 ys/\(xs.length<=i\/ys.length<=i)⟩
def ZSt(z TI TO i1 i2 l1 l2:Addr)(i:Nat)(h:vU):Prop:=IsZip h z TI TO .none/\IsPair h TI (.ref i1) (.ref i2)/\(∃a b,IsPair h TO a b)/\h.IsListIter i1 l1 i/\h.IsListIter i2 l2 i
def jkk{P:vA}{w:vN}{K:uX}{elts:List vZ}{kk:Nat}{tp:Pos}{z TI TO i1 i2 l1 l2:Addr}(D:ZipApart z TI TO i1 i2 l1 l2)(xs ys:List V):
  jot P w K (.Tuple elts kk tp) (ItZ K l1 l2 xs ys) [z,TI,TO,i1,i2] z (ZSt z TI TO i1 i2 l1 l2) where
 mem:=by simp
 obj:=fun i h st b hb=>by
  obtain⟨hz,hTI,⟨a,c,hTO⟩,⟨o1,e1,_,d1⟩,o2,e2,_,d2⟩:=st;simp only[zP,yG,or_false] at hb;rcases hb with rfl|rfl|rfl|rfl|rfl
  .exact⟨_,hz,fun v q=>by have q':Data.fields _=Data.cell v:=q;cases q'⟩
  .exact⟨_,hTI,fun v q=>by have q':Data.seq _ _=Data.cell v:=q;cases q'⟩
  .exact⟨_,hTO,fun v q=>by have q':Data.seq _ _=Data.cell v:=q;cases q'⟩
  .exact⟨o1,e1,fun v q=>by rw[d1] at q;cases q⟩
  .exact⟨o2,e2,fun v q=>by rw[d2] at q;cases q⟩
 keep:=fun i h h' st k=>by
  obtain⟨hz,hTI,⟨a,c,hTO⟩,h1,h2⟩:=st;exact⟨k z (by simp) _ hz,k TI (by simp) _ hTI,⟨a,c,k TO (by simp) _ hTO⟩,h1.at fun o e=>k i1 (by simp) o e,h2.at fun o e=>k i2 (by simp) o e⟩
 item:=by
  intro X hP hw hK hc i pins s σ H E I hf st hg;subst hP hw hK;obtain⟨hz,hTI,⟨a,c,hTO⟩,h1,h2⟩:=st;obtain⟨q1,q2,g1,g2⟩:=hg;obtain⟨us,r1,p1,_⟩:=I.list q1;obtain⟨ws,r2,p2,_⟩:=I.list q2;obtain⟨u1,hu1,ru1⟩:=r1.get (zA g1);obtain⟨u2,hu2,ru2⟩:=r2.get (zA g2);refine wpAny_pyNext_zip_item D hz hTI hTO h1 h2 (PlainL.isList p1) (PlainL.isList p2) (x:=u1) (y:=u2) (by simpa using hu1) (by simpa using hu2) fun h' b1 b2 b3 b4 b5 b6 hk=>?_;have hn:H ↑s=none:=I.hok.fresh (uF _);have lt:∀{b:Addr} {o:Obj},s.heap.get? b=some o->b≠↑s:=fun e=>vL (uP e);have nz:z≠↑s:=lt hz;have hg0:s.heap.get? ↑s=none:=bO (uF _);have I1:Inv X pins σ (upd H ↑s (.tup [xs[i],ys[i]])) {s with heap:=h'}:=Inv.turnedT (t':=s.toks) (ch:=[z,TO,i1,i2]) I
   (fun b hb=>hf b (by simp only[zP,yG,or_false] at hb⊢;rcases hb with e|e|e|e<;>simp[e]))
   (fun b o hb e=>hk b o (fun q=>hb (by simp[q])) (fun q=>hb (by simp[q])) (fun q=>hb (by simp[q])) (fun q=>hb (by simp[q])) e) hg0 hn
   ⟨by show 2<=16777216;decide,[u1,u2],.cons ru1 (.cons ru2 .nil),⟨_,b5,rfl,_,rfl⟩⟩
  refine⟨.ref ↑s,rfl,wpAny_letOwnedTupleGo_zip (s:={s with heap:=h'}) b1 fun h2' c1 hs2=>?_⟩;have hfz:=hf z (by simp);have I2:Inv X pins σ (upd H ↑s (.tup [xs[i],ys[i]])) {s with heap:=h2'}:=I1.turned (t':=s.toks) (fun b o hb e=>(hs2.2 b hb).trans e) (by rw[qa7 nz];exact hfz.1) hfz.2.1 hfz.2.2.2.1 hfz.2.2.2.2.1 hfz.2.2.2.2.2;refine⟨.ref ↑s,_,I2,rfl,⟨↑s,xs[i],ys[i],hn,zA g1,zA g2,rfl,rfl⟩,
   ⟨c1,hs2.extBut _ _ D.TIz (hk _ _ D.TIz D.TITO D.TIi1 D.TIi2 hTI),⟨_,_,hs2.extBut _ _ D.TOz b2⟩,b3.extBut hs2.extBut D.i1z,b4.extBut hs2.extBut D.i2z⟩,fun b hb=>?_⟩
  have e:b≠↑s:=by
   simp only[zP,yG,or_false] at hb;obtain⟨o1,e1,_⟩:=h1;obtain⟨o2,e2,_⟩:=h2;rcases hb with rfl|rfl|rfl|rfl|rfl
   .exact nz
   .exact lt hTI
   .exact lt hTO
   .exact lt e1
   .exact lt e2
  rw[qa7 e];exact(hf b hb).1
 done:=by
  intro X hP hw hK hc i pins s σ H E I hf st hg;subst hP hw hK;obtain⟨hz,hTI,⟨a,c,hTO⟩,h1,h2⟩:=st;obtain⟨q1,q2,g⟩:=hg;obtain⟨us,r1,p1,_⟩:=I.list q1;obtain⟨ws,r2,p2,_⟩:=I.list q2;have l1:=r1.length;have l2:=r2.length;exact wpAny_pyNext_zip_end (I.ok.hd hc) D hz hTI hTO h1 h2 (PlainL.isList p1) (PlainL.isList p2) (g.elim (fun g=> .inl (by simp;omega)) fun g=> .inr (by simp;omega)) fun h' hk=>
   ⟨rfl,Inv.turnedL (t':=s.toks) (ch:=[z,TO,i1,i2]) I (fun b hb=>hf b (by simp only[zP,yG,or_false] at hb⊢;rcases hb with e|e|e|e<;>simp[e]))
    fun b o hb e=>hk b o (fun q=>hb (by simp[q])) (fun q=>hb (by simp[q])) (fun q=>hb (by simp[q])) (fun q=>hb (by simp[q])) e⟩
 self:=fun _ _ _ _ _ st h=>wpAny_pyIter_zip st.1 h
def jtw(K:uX)(vs:List V)(H:Hp)(R:It->Hp->Prop):Prop:=∃l1 l2 xs ys,vs=[.ref l1,.ref l2]/\SqL K H l1 xs/\SqL K H l2 ys/\R (ItZ K l1 l2 xs ys) H
noncomputable def jvl(K:uX)(ta:TA):TI:=fun σ H R=>ta σ H fun vs H1=>jtw K vs H1 R
def jkl:aP "zip"=some (.type "zip"):=by decide+kernel
def jq3{X:Cx}{elts:List vZ}{kk:Nat}{tp:Pos}{a b:vZ}{ta:TA}{p pos:Pos}(hg:Gl X "zip")(hm:X.mg "zip"=none)(ha:PA X [a,b] ta)(hs:autoParam (vG [a,b] X.env=[(false,wW a X.env),(false,wW b X.env)]) aR)(hs2:autoParam (vG [b] X.env=[(false,wW b X.env)]) aR):
  PI X (.Tuple elts kk tp) (.Call (.Name "zip" p) [a,b] [] pos) (jvl X.K ta):=by
 intro pins s σ H R I h;refine Call_ (qgc I hg hm jkl (yU (thn (ha pos pins s σ H _ I h) fun us s1 h9=>?_) (by rw[hs,hs2]) (by rw[hs2];rfl)));obtain⟨vs,H1,I1,r1,q1⟩:=h9;obtain⟨l1,l2,xs,ys,rfl,g1,g2,q⟩:=q1
 cases r1 with
 |cons r rr=>
  cases rr with
  |cons r' rr=>
   cases rr
   cases r
   cases r'
   obtain⟨us,v1,p1,_⟩:=I1.list g1;obtain⟨ws,v2,p2,_⟩:=I1.list g2;have t1:=PlainL.isList p1;have t2:=PlainL.isList p2;have lt1:l1<↑s1:=by obtain⟨_,e,_⟩:=t1;exact uP e
   have lt2:l2<↑s1:=by obtain⟨_,e,_⟩:=t2;exact uP e
   refine call_zip_2 t1 t2 fun h' hz hTI hTO hi1 hi2 hsz hk=>?_;have I2:Inv X pins σ H1 {s1 with heap:=h'}:=I1.kept (t':=s1.toks) fun b o e=>hk b o e;refine wpAny_pyIter_zip (s:={s1 with heap:=h'}) hz ?_;refine⟨↑s1+4,_,_,_,H1,rfl,I2,jkk (zipApart_new lt1 lt2) xs ys,⟨hz,hTI,⟨_,_,hTO⟩,hi1,hi2⟩,fun b hb=>?_,q⟩;have le:↑s1<=b:=by
    simp only[zP,yG,or_false] at hb;rcases hb with rfl|rfl|rfl|rfl|rfl<;>omega
   exact I1.fpOk le (I1.hok.fresh le)
section
variable{K:uX}{σ:L2.St}{H:Hp}{D:jcd}{g:TG}{tb:TS}{ta:TA}{l1 l2:Addr}{xs ys:List V}
def jwn(h:ta σ H fun vs H1=>jtw K vs H1 R):jvl K ta σ H R:=h
def jtx(e1:SqL K H l1 xs)(e2:SqL K H l2 ys)(h:R (ItZ K l1 l2 xs ys) H):jtw K [.ref l1,.ref l2] H R:=⟨l1,l2,xs,ys,rfl,e1,e2,h⟩
def jty(hxy:xs.length=ys.length)(Pv:Nat->L2.St->Hp->Prop)(h0:Pv 0 σ H)(hl:∀i σ H,Pv i σ H->SqL K H l1 xs/\SqL K H l2 ys)
  (hs:∀i x y T σ H,xs[i]?=some x->ys[i]?=some y->Pv i σ H->H T=none->g (.ref T) σ (upd H T (.tup [x,y])) fun σ2 H2=>tb {nx:=Pv (i+1),rt:=D.rt,bk:=D.nx,ct:=Pv (i+1)} σ2 H2)(hd:∀σ H,Pv xs.length σ H->D.nx σ H):FOR (ItZ K l1 l2 xs ys) g tb D σ H:=by
 refine⟨fun i m σ H=>m=xs.length-i/\i<=xs.length/\Pv i σ H,⟨xs.length,rfl,wR _,h0⟩,?_⟩;rintro i m σ H ⟨rfl,hi,p⟩;obtain⟨q1,q2⟩:=hl i σ H p;by_cases hlt:i<xs.length
 .refine .inr ⟨⟨q1,q2,hlt,↑∅⟩,Pv (i+1),fun σ' H' p'=>⟨xs.length-(i+1),↑∅,rfl,hlt,p'⟩,fun v H' e=>?_⟩;obtain⟨T,x,y,hT,hx,hy,rfl,rfl⟩:=e;exact hs i x y T σ H hx hy p hT
 .have e:i=xs.length:=by omega
  subst e;exact .inl ⟨⟨q1,q2,.inl (uF _)⟩,hd σ H p⟩
end
section
variable{K:uX}{σ:L2.St}{H:Hp}{Q:VK}{D:jcd}{ta tv:TE}{t:TA}{a C dx:Addr}{fs:List (Str×V)}{f m:Str}{v y:V}{sp:Sp}{dvs:List V}{E:XK}
def kMk(C:Addr)(sp:Sp)(dvs:List V)(E:XK)(Q:VK)(vs:List V)(H:Hp):Prop:=∀x dx,H x=none->H dx=none->dx≠x->sp (.ref x ::(vs++dvs)) (upd (upd H dx (.own x)) x (.ins C dx [])) (fun v H2=>v=.non/\Q (.ref x) H2) E
def jwo(h:t σ H fun vs H1=>kMk C sp dvs E Q vs H1):jpm C sp dvs E t σ H Q:=h
def kMt(C:Addr)(m:Str)(sp:Sp)(dvs:List V)(E:XK)(t:TA)(σ:L2.St)(Q:VK)(x:V)(H:Hp):Prop:=∃a dx fs,x=.ref a/\H a=some (.ins C dx fs)/\fs.lookup m=none/\t σ H fun vs H2=>sp (x ::(vs++dvs)) H2 Q E
def jwp(h:ta σ H fun x H1=>kMt C m sp dvs E t σ Q x H1):jmx C m sp dvs E ta t σ H Q:=h
def jtz(e:H a=some (.ins C dx fs))(l:fs.lookup m=none)(h:t σ H fun vs H2=>sp (.ref a ::(vs++dvs)) H2 Q E):kMt C m sp dvs E t σ Q (.ref a) H:=⟨a,dx,fs,rfl,e,l,h⟩
def kFl(K:uX)(f:Str)(Q:VK)(x:V)(H:Hp):Prop:=∃a C dx fs v,x=.ref a/\H a=some (.ins C dx fs)/\Cls K C/\qaq K C f/\fs.lookup f=some v/\Q v H
def jwq(h:ta σ H fun x H1=>kFl K f Q x H1):juv K ta f σ H Q:=h
def jt0(e:H a=some (.ins C dx fs))(c:Cls K C)(n:qaq K C f)(l:fs.lookup f=some v)(h:Q v H):kFl K f Q (.ref a) H:=⟨a,C,dx,fs,v,rfl,e,c,n,l,h⟩
def kFs(K:uX)(f:Str)(y:V)(D:jcd)(σ:L2.St)(x:V)(H:Hp):Prop:=∃a C dx fs,x=.ref a/\H a=some (.ins C dx fs)/\Cls K C/\qaq K C f/\fs.length<1000/\D.nx σ (upd H a (.ins C dx (qdw f y fs)))
def jwr(h:tv σ H fun y H1=>ta σ H1 fun x H2=>kFs K f y D σ x H2):juw K ta tv f D σ H:=h
def qec(e:H a=some (.ins C dx fs))(c:Cls K C)(n:qaq K C f)(hz:fs.length<1000)(h:D.nx σ (upd H a (.ins C dx (qdw f y fs)))):kFs K f y D σ (.ref a) H:=⟨a,C,dx,fs,rfl,e,c,n,hz,h⟩
end
structure IsC(K:uX)(C:Addr):Prop where
 ha:wD K (.ref C) "__class__"=some (some (.builtin "object.__class__"))
 hn:dY K (.builtin "object.__class__") "__get__"=some (some (.builtin "getset_descriptor.__get__"))
 htk:PySem.W.takesIn K (.builtin "object.__class__")=some true
 hm:mroIn K C (.type "object")=some true
section
variable{X:Cx}{k:Nat}{f C:Addr}{fd:uJ}{ps:List Str}{sp:Sp}{dvs:List V}{ds:List uB}{W:L2.St->XK}{x m:Str}{p pos apos:Pos}{e o:vZ}{es:List vZ}{ta:TE}{t:TA}
noncomputable def jh6(C:Addr)(m:Str)(sp:Sp)(dvs:List V)(W:L2.St->XK)(ta:TE)(t:TA):TE:=fun σ H Q=>ta σ H fun x H1=>∃a dx fs,x=.ref a/\H1 a=some (.ins C dx fs)/\fs.lookup m=none/\t σ H1 fun vs H2=>sp (x ::(vs++dvs)) H2 Q (W σ)
def qb6{pl:Sem Bool}(he:PE X o ta)(c:Cls X.K C)(hm:jav X.K C m f)(F:jac X.prog X.w X.K X.mg X.base (CX1 X.prog X.w) k f fd ps sp)(hr:ja0 k X.A)(hb:qao X.K fd ps ds)(hd:qbl dvs ds)(hx:Xes X W)(ha:PA X (e::es) t)(hex:autoParam (X.ex=[]) aR)
  (hst:autoParam (vG (e::es) X.env=(false,wW e X.env)::vG es X.env) aR)(hpl:autoParam ((xI pos (vG es X.env)).any (·.1)=false) aR)
  (ht:autoParam (wW (.Call (.Attribute o m apos) (e::es) [] pos) X.env=(do
   let ov<-wW o X.env
   standAt apos.atName
   let (f,first)<-holding [ov] (eC ov m pl)
   callWith pos f first (xI pos (vG (e::es) X.env)) (dS pos (bQ [] X.env)))) aR):
  PE X (.Call (.Attribute o m apos) (e::es) [] pos) (jh6 C m sp dvs W ta t):=by
 intro pins s σ H Q I h;refine bC (pl:=pl) (thn (he pins s σ H _ I h) fun u s1 h9=>?_) ht;obtain⟨x,H1,I1,rx,a,dx,fs,ex,ea,l,q⟩:=h9;subst ex;obtain rfl:u=uV a:=rx;refine qds I1 ea c hm l (xJ (first:=[.ref a]) (h₀:=X.base) I.ok.mod.kin hm.kp (thn (ha pos pins s1 σ H1 _ I1 q) fun us s2 ⟨vs,H2,I2,r,q2⟩=>⟨I2.kIn,?_⟩) hst hpl);exact jd4 (us:=.ref a::us) (vs:=.ref a::vs) F hr hb hd hx hex I2 (.cons rfl r) q2
def jdg{pl:Sem Bool}(he:PE X o ta)(c:Cls X.K C)(hm:jav X.K C m f)(F:jac X.prog X.w X.K X.mg X.base (CX1 X.prog X.w) k f fd ps sp)(hr:ja0 k X.A)(hb:qao X.K fd ps ds)(hd:qbl dvs ds)(hx:Xes X W)(hex:autoParam (X.ex=[]) aR)
  (ht:autoParam (wW (.Call (.Attribute o m apos) [] [] pos) X.env=(do
   let ov<-wW o X.env
   standAt apos.atName
   let (f,first)<-holding [ov] (eC ov m pl)
   callWith pos f first (xI pos (vG [] X.env)) (dS pos (bQ [] X.env)))) aR):
  PE X (.Call (.Attribute o m apos) [] [] pos) (jh6 C m sp dvs W ta jou):=by
 intro pins s σ H Q I h;refine bC (pl:=pl) (thn (he pins s σ H _ I h) fun u s1 h9=>?_) ht;obtain⟨x,H1,I1,rx,a,dx,fs,ex,ea,l,q⟩:=h9;subst ex;obtain rfl:u=uV a:=rx;exact qds I1 ea c hm l (PySem.W.callWith_K0 (first:=[.ref a]) I1.kIn hm.kp (jd4 (us:=[.ref a]) (vs:=[.ref a]) F hr hb hd hx hex I1 (.cons rfl .nil) q))
noncomputable def jlx(C:Addr)(sp:Sp)(dvs:List V)(W:L2.St->XK)(t:TA):TE:=fun σ H Q=>t σ H fun vs H1=>∀x dx,H1 x=none->H1 dx=none->dx≠x->sp (.ref x ::(vs++dvs)) (upd (upd H1 dx (.own x)) x (.ins C dx [])) (fun v H2=>v=.non/\Q (.ref x) H2) (W σ)
def jh7{pins:List (Addr×Obj)}{σ:L2.St}{H:Hp}{s:uC}{Q:VK}{us:List uB}{vs:List V}(M:Mk X.K C f)(F:jac X.prog X.w X.K X.mg X.base (CX1 X.prog X.w) k f fd ps sp)(hr:ja0 (k+1) X.A)(hb:qao X.K fd ps ds)(hd:qbl dvs ds)
  (hx:Xes X W)(hex:X.ex=[])(I:Inv X pins σ H s)(r:qbl vs us)
  (h:∀x dx,H x=none->H dx=none->dx≠x->sp (.ref x ::(vs++dvs)) (upd (upd H dx (.own x)) x (.ins C dx [])) (fun v H2=>v=.non/\Q (.ref x) H2) (W σ)):
  vC (vF X.prog X.w) X.A (call (.ref C) us) (EP X pins σ Q) X.xe s:=by
 have hq:=h (↑s+1) ↑s (I.hok.fresh (bR _)) (I.hok.fresh (uF _)) (vL (bG _));have I2:=Inv.made (C:=C) I;have r2:qbl (V.ref (↑s+1) ::(vs++dvs)) (uV (↑s+1) ::(us++ds)):=.cons rfl (r.append hd);have hl:(uV (↑s+1)::us++ds).length=ps.length:=by
  have e:=r2.length;rw[F.len _ _ _ _ hq] at e;exact e.symm
 refine bH (jfd (f:=f) I.kIn M.makes M.init (beq_iff_eq.mp M.fn) (xP (F.run _ X.stack _ _ ⟨uV (↑s+1)::us,[]⟩ (uV (↑s+1) ::(us++ds)) _ _ (W σ) (hr.make C us [])
  (I2.env0.make C us []) (hb _ (uV (↑s+1)::us) I2.kIn hl) r2 hq) fun r s' hq'=>?_))
 cases r with
 |error e=>exact jfg hx hex I2 hq'
 |ok fl=>
  cases fl with
  |ret u=>
   obtain⟨v,H',I3,rv,ev,q3⟩:=I2.after hq';subst ev;exact⟨rv,⟨V.ref (↑s+1),H',I3,rfl,q3⟩⟩
  |next=>exact vW hq'
  |brk=>exact vW hq'
  |cont=>exact vW hq'
def qf9(M:Mk X.K C f)(F:jac X.prog X.w X.K X.mg X.base (CX1 X.prog X.w) k f fd ps sp)(hr:ja0 (k+1) X.A)(hg:Gl X x)(hm:X.mg x=some (.ref C))(hb:qao X.K fd ps ds)(hd:qbl dvs ds)(hx:Xes X W)
  (ha:PA X (e::es) t)(hex:autoParam (X.ex=[]) aR)(hdb:autoParam ((x==("__debug__":Str))=false) aD)(he:autoParam (vG (e::es) X.env=(false,wW e X.env)::vG es X.env) aR)(hpl:autoParam ((xI pos (vG es X.env)).any (·.1)=false) aR):
  PE X (.Call (.Name x p) (e::es) [] pos) (jlx C sp dvs W t):=by
 intro pins s σ H Q I h;refine xA (qe5 I hg hm ?_ hdb);refine xJ (h₀:=X.base) I.ok.mod.kin M.kp (thn (ha pos pins s σ H _ I h) fun us s1 ⟨vs,H1,I1,r,q⟩=>⟨I1.kIn,?_⟩) he hpl;exact jh7 M F hr hb hd hx hex I1 r q
end
structure FunD(K:uX)(x qual:Str)(st:Stmt)(f:Addr)(fd:uJ)(T:Addr)(items:Array uB):Prop where
 ex:∃(oc:uB)(od:Option Addr)(kV doc pm:uB)(an:Option Addr)(cdv ct:uB)(osl:Array (Option uB)),
  fd=eF x qual (qbo st) (qbv st) (qa8 st) (.ref T) kV doc pm an cdv ct/\K.lookup f=some ⟨oc,od,.func fd,osl⟩/\cV K cdv qual=true
 kp:bU K (.ref f)=true
 tup:∃(o:Obj)(n:Nat),K.lookup T=some o/\o.data=.seq items n
section
variable{K:uX}{x qual:Str}{st:Stmt}{f T:Addr}{fd:uJ}{ps:List Str}{items:Array uB}
def FunD.binds(F:FunD K x qual st f fd T items){ds:List uB} (h:∀(kV doc pm:uB)(an:Option Addr)(cdv ct:uB)(us:List uB),(us++ds).length=ps.length->
   bindArgs (eF x qual (qbo st) (qbv st) (qa8 st) (.ref T) kV doc pm an cdv ct) ⟨us,[]⟩=pure (ps.zip (us++ds))\/
   ∃g:Option (Array uB)->Sem (List (Str×uB)),bindArgs (eF x qual (qbo st) (qbv st) (qa8 st) (.ref T) kV doc pm an cdv ct) ⟨us,[]⟩=seqItems? (.ref T) >>= g/\g (some items)=pure (ps.zip (us++ds))):qao K fd ps ds:=by
 obtain⟨oc,od,kV,doc,pm,an,cdv,ct,osl,rfl,lk,hcd⟩:=F.ex;obtain⟨o,n,hT,hd⟩:=F.tup;intro s us KX hl;rcases h kV doc pm an cdv ct us hl with h|⟨g,h1,h2⟩
 .exact .of_eq h
 .exact BindsTo.of_defaults (T:=T) rfl (KX _ _ hT) hd h1 h2
end
section
variable{σ:L2.St}{H:Hp}{Q:VK}{ta:TE}{t:TA}{a C dx:Addr}{fs:List (Str×V)}{m:Str}{sp:Sp}{dvs:List V}{W:L2.St->XK}
def jvm(C:Addr)(m:Str)(sp:Sp)(dvs:List V)(W:L2.St->XK)(t:TA)(σ:L2.St)(Q:VK)(x:V)(H:Hp):Prop:=∃a dx fs,x=.ref a/\H a=some (.ins C dx fs)/\fs.lookup m=none/\t σ H fun vs H2=>sp (x ::(vs++dvs)) H2 Q (W σ)
def jt1(h:ta σ H fun x H1=>jvm C m sp dvs W t σ Q x H1):jh6 C m sp dvs W ta t σ H Q:=h
def jq4(e:H a=some (.ins C dx fs))(l:fs.lookup m=none)(h:t σ H fun vs H2=>sp (.ref a ::(vs++dvs)) H2 Q (W σ)):jvm C m sp dvs W t σ Q (.ref a) H:=⟨a,dx,fs,rfl,e,l,h⟩
def jws(C:Addr)(sp:Sp)(dvs:List V)(W:L2.St->XK)(σ:L2.St)(Q:VK)(vs:List V)(H:Hp):Prop:=∀x dx,H x=none->H dx=none->dx≠x->sp (.ref x ::(vs++dvs)) (upd (upd H dx (.own x)) x (.ins C dx [])) (fun v H2=>v=.non/\Q (.ref x) H2) (W σ)
def jt2(h:t σ H fun vs H1=>jws C sp dvs W σ Q vs H1):jlx C sp dvs W t σ H Q:=h
end
section
variable{prog:vA}{w:vN}{A:vS}{E:uB->uC->Prop}
theorem jq5{j l:Addr}{xs:List uB}(ne:l≠j):∀(todo:List uB)(i:Nat)(s:uC)(Q:List uB->uC->Prop),xs.drop i=todo->s.heap.IsListIter j l i->s.heap.IsList l xs.toArray->
  (∀h',h'.IsListIter j l (i+todo.length)->(∀b o,b≠j->s.heap.get? b=some o->h'.get? b=some o)->Q todo {s with heap:=h'})->vC (vF prog w) A (draw (.ref j) todo.length) Q E s
 | [],i,s,Q,_,st,_,q=>by
  show vC _ _ (pure []) _ _ _;exact vE (q s.heap st fun _ _ _ e=>e)
 |x::todo,i,s,Q,hd,st,hl,q=>by
  have hx:xs[i]?=some x:=by
   have z:=congrArg (fun l=>l[0]?) hd;simpa using z
  have hd2:xs.drop (i+1)=todo:=by
   have z:=congrArg (List.drop 1) hd;simpa[List.drop_drop] using z
  show vC _ _ (pyNext (.ref j) >>= _) _ _ _;refine uK (wpAny_pyNext_list_item st hl (x:=x) (by simpa using hx) fun h1 st1 sb=>?_);have kp:∀b o,b≠j->s.heap.get? b=some o->h1.get? b=some o:=fun b o hb e=>(sb.2 b hb).trans e;refine uK (xR (jq5 ne todo (i+1) _ _ hd2 st1 (hl.at fun o e=>kp _ o ne e) fun h2 st2 kp2=>vE ?_));refine q h2 ?_ fun b o hb e=>kp2 b o hb (kp b o hb e);rw[zR,show i+(todo.length+1)=i+1+todo.length by omega];exact st2
def jnn{s:uC}{env:Env}{elts:List vZ}{x1}{pos:Pos}{l:Addr}{xs:List uB}{Q:Unit->uC->Prop}(calm:A.handled=none)(hl:s.heap.IsList l xs.toArray)(hn:(xY elts env).length=xs.length)(hst:(xY elts env).findIdx? (·.1)=none)
  (q:∀h',(∀b o,s.heap.get? b=some o->h'.get? b=some o)->vC (vF prog w) A (eM ((xY elts env).map (·.2)) xs) Q E {s with heap:=h'}):vC (vF prog w) A (gE (.Tuple elts x1 pos) env (.ref l)) Q E s:=by
 have ne:l≠↑s:=by obtain⟨o,ho,_⟩:=hl;exact vL (uP ho)
 rw[assign_Tuple];refine uK (eO ?_);unfold unpack;rw[hn,hst];refine uK (xR ?_);unfold unpackItems notIterableAtAll;refine uK (uK (wpAny_specialOf hl.typeIs F.slot_list_iter.lookup (vE ?_)));simp only[fA,if_false];have hl1:(s.heap.push {cls:=.type "list_iterator",data:=.fields #[.ref l,.int 0 0]}).IsList l xs.toArray:=hl.at fun o e=>uG _ e;refine uK (xR (aQ hl (uK (xR (jq5 ne xs 0 _ _ (by simp) ⟨_,vH _ rfl,rfl,rfl⟩ hl1 fun h1 st1 kp=>?_)))));rw[gK (wQ _)];refine uK (xR (wpAny_pyNext_list_end calm st1 (hl1.at fun o e=>kp _ o ne e) (by simp) fun h2 kp2=>?_));simp only[Option.isSome_none,fA,if_false];refine vE (q h2 fun b o e=>?_);have nb:b≠↑s:=vL (uP e);exact kp2 b o nb (kp b o nb (uG _ e))
end
section
variable{X:Cx}{pos:Pos}
noncomputable def jvn(K:uX)(n:Nat)(t:TGs):TG:=fun v σ H Q=>∃a xs,v=.ref a/\SqL K H a xs/\xs.length=n/\t xs σ H Q
def qdz{es:List vZ}{k:Nat}{t:TGs}{n:Nat}(hc:X.calm=true)(h:PGs X es t)(hn:autoParam ((xY es X.env).length=n) aR)(hst:autoParam ((xY es X.env).findIdx? (·.1)=none) aR):PG X (.Tuple es k pos) (jvn X.K n t):=by
 intro pins s σ H v u Q I r hw;obtain⟨a,xs,rfl,hq,hl,hw⟩:=hw
 cases r
 obtain⟨ws,rv,pl,_⟩:=I.list hq;refine jnn (I.ok.hd hc) (PlainL.isList pl) (by rw[hn,<-hl,rv.length]) hst fun h' kp=>?_;exact h pins _ σ H xs _ Q (I.kept (t':=s.toks) kp) rv hw
end
def jq6{K:uX}{σ:L2.St}{xs:List V}{n:Nat}{t:TGs}{Q:L2.St->Hp->Prop}(s:SqL K H a xs)(hn:xs.length=n)(h:t xs σ H Q):jvn K n t (.ref a) σ H Q:=⟨a,xs,rfl,s,hn,h⟩
def kDs(p:Addr)(Q:VK)(x y:V)(H2:Hp):Prop:=H2 p=some (.dK [])/\∃kvs:List (Key×V),[(x,y)]=kvs.map (fun kv=>(kV kv.1,kv.2))/\kvs.length<=15/\Q (.ref p) (upd H2 p (.dK (qg8 [] kvs)))
def jno{σ:L2.St}{tk tv:TE}(h:∀p,H p=none->tk σ (upd H p (.dK [])) fun x H1=>tv σ H1 fun y H2=>kDs p Q x y H2):jqc [(tk,tv)] σ H Q:=fun p hp=>h p hp
def jwt{p:Addr}{y:V}(e:H p=some (.dK []))(h:Q (.ref p) (upd H p (.dK [(uE z,y)]))):kDs p Q (.str z) y H:=⟨e,[(uE z,y)],rfl,Nat.le_of_ble_eq_true rfl,h⟩
section
variable{P:vA}{w:vN}{K:uX}{mg:Str->Option uB}{base:vU}{x qual:Str}{st:Stmt}{f T:Addr}{fd:uJ}{N ps:List Str}{k:Nat}{sp:Sp}{items:Array uB}
def jsd(F:FunD K x qual st f fd T items)(S:jaa N ps (qa8 st))(len:∀vs H Q E,sp vs H Q E->vs.length=ps.length)
  (hbody:∀(cdv:uB)(A:vS)(outer:List Env)(s:uC)(H:Hp)(vs:List V)(Q:VK)(E:XK),ja0 k (A.deeper (aF qual (qa8 st) ↑s f cdv))->sp vs H Q E->
   ∃t,PSs (xw (cxOf (CX1 P w) P w K mg base N qual (qa8 st) f cdv A outer s H E) (fun _=>E)) (qbv st) t/\t {nx:=fun _ H'=>Q .non H',rt:=Q} (start N vs) H):jac P w K mg base (CX1 P w) (k+1) f fd ps sp:=by
 obtain⟨oc,od,kV,doc,pm,an,cdv,ct,osl,rfl,lk,hcd⟩:=F.ex;refine jmz lk hcd S len fun A outer s H vs Q E hr hsp=>?_;obtain⟨t,ht,q⟩:=hbody cdv A outer s H vs Q E hr hsp;exact⟨t,PSs.xes jlj ht,q⟩
def qgt{oc:uB}{od an:Option Addr}{osl:Array (Option uB)}{kV doc pm cdv ct:uB}{o:Obj}{n:Nat}(l:K.lookup f=some ⟨oc,od,.func (eF x qual (qbo st) (qbv st) (qa8 st) (.ref T) kV doc pm an cdv ct),osl⟩)
  (c:cV K cdv qual=true)(kp:bU K (.ref f)=true)(t:K.lookup T=some o)(hd:o.data=.seq items n):FunD K x qual st f (eF x qual (qbo st) (qbv st) (qa8 st) (.ref T) kV doc pm an cdv ct) T items:=
 ⟨⟨oc,od,kV,doc,pm,an,cdv,ct,osl,rfl,l,c⟩,kp,o,n,t,hd⟩
end
noncomputable def oK(hs:List (Str×Addr)):List (Key×V):=hs.map fun p=>(uE p.1,.ref p.2)
noncomputable def qdj:List (Str×Addr)->Str->Option Addr
 | [],_=>none
 |p::r,z=>if p.1=z then some p.2 else qdj r z
theorem qgg(z:Str):∀hs:List (Str×Addr),qcp (oK hs) (uE z)=(qdj hs z).map V.ref
 | []=>rfl
 |p::r=>by
  have ih:=qgg z r;unfold qcp oK at ih⊢;rw[zV,yH];by_cases h:p.1=z
  .have e:decide ((uE p.1:Key)=uE z)=true:=by rw[h];exact gM rfl
   simp only[e,qdj,gL h];rfl
  .have e:decide ((uE p.1:Key)=uE z)=false:=gO fun q=>h (yW q);simp only[e,qdj,gK h];exact ih
theorem qg9{z:Str}:∀{hs:List (Str×Addr)},qdj hs z=none↔z∉hs.map (·.1)
 | []=>by simp[qdj]
 |p::r=>by
  have ih:=qg9 (z:=z) (hs:=r);unfold qdj;by_cases q:p.1=z
  .rw[gL q];simp[q]
  .rw[gK q,ih];simp[xS q,fun e:z=p.1=>q e.symm]
theorem jfq{z:Str}{h:Addr}:∀{hs:List (Str×Addr)},(hs.map (·.1)).Nodup->(z,h)∈hs->qdj hs z=some h
 |p::r,nd,m=>by
  rw[zV,zZ] at nd;unfold qdj;rcases zP.mp m with e|e
  .rw[<-e,gL rfl]
  .have q:p.1≠z:=fun q=>nd.1 (by rw[q];exact zJ.mpr ⟨(z,h),e,rfl⟩);rw[gK q];exact jfq nd.2 e
def jnp{hs:List (Str×Addr)}{h:Addr}(n:qdj hs z=none):qbh (oK hs) (uE z) (.ref h)=oK (hs++[(z,h)]):=by
 have hn:=qg9.mp n;have e:((oK hs).any fun kv=>decide (kv.1=uE z))=false:=by
  rw[List.any_eq_false];intro kv hkv;obtain⟨p,hp,rfl⟩:=zJ.mp hkv;intro q;have q':=yW (of_decide_eq_true q);exact hn (zJ.mpr ⟨p,hp,q'⟩)
 unfold qbh;rw[gK (by rw[e];decide)];unfold oK;rw[zI];rfl
section
variable{H:Hp}{Q:VK}{a h:Addr}{hs:List (Str×Addr)}{z:Str}
def jt3(d:Rd H a (.dK (oK hs)))(q:Q (.bl (qdj hs z).isSome) H):rDI (.ref a) (.str z) H Q:=by
 refine⟨a,qcp (oK hs) (uE z),rfl,.inl ⟨_,uE z,d,rfl,rfl⟩,?_⟩;rw[qgg,aT];exact q
def jkm(d:Rd H a (.dK (oK hs)))(e:qdj hs z=some h)(q:Q (.ref h) H):jsc (.ref a) (.str z) H Q:=
 ⟨a,.ref h,rfl,.inl ⟨_,uE z,d,rfl,by rw[qgg,e];rfl⟩,q⟩
end
end My
set_option exponentiation.threshold 2000
namespace My
open PySem PySem.Spec PyProof.Rows L2
end My
set_option maxHeartbeats 3200000
namespace My
open PySem PySem.Spec PyProof.Rows L2
section
variable{P:vA}{w:vN}{A:vS}
def jq7(z:Str)(t:Tok):(strKind P w).is z (.str z t)=true:=by
 show eK z (.str z t)=true;simp[eK]
def jnq{zs:List Str}{i:Nat}{z:Str}(nd:zs.Nodup)(h:zs[i]?=some z):(zs.take i).contains z=false:=by
 rw[<-gH,dO];intro m;obtain⟨j,hj,e⟩:=zU.mp m;obtain⟨hi,e2⟩:=uL.mp h;rw[zS] at hj;rw[fU] at e;exact(aE.mp nd) j i ↑∅ hi ↑∅ (by rw[e,e2])
def jh8{zs:List Str}{i:Nat}{z:Str}(h:zs[i]?=some z)(y:Str):((zs.take i).contains y || decide (y=z))=(zs.take (i+1)).contains y:=by
 rw[zM,h,xE,Bool.or_eq_true,dO,dO,zN,decide_eq_true_iff];simp
def jh9{R:Result->uC->Prop}{it c:Addr}{fp wr:List Addr}{G:Array GenState->Array GenState->Prop}{zs:List Str}{pv:Nat->uB->Prop}{St:Nat->uC->Prop}
  (W:WalksS P w A.in1 it fp wr G zs.length pv St)(hc:c∉fp)(nd:zs.Nodup)(hv:∀i v,pv i v->∃z t,zs[i]?=some z/\v=.str z t)(hb:zs.length+1<gI):
  ∀(k i:Nat)(s:uC),zs.length-i=k->i<=zs.length->St i s->s.heap.SetOf (strKind P w) c (fun y=>(zs.take i).contains y) i->
   (∀s',Moved (c::wr) G s s'->s'.heap.SetOf (strKind P w) c (fun y=>(zs.take zs.length).contains y) zs.length->R (.ok (.ret .none)) s')->
   bM (vF P w) A (.builtin "set.update.loop" ⟨[.ref c,.ref it],[]⟩) R s:=by
 have cw:c∉wr:=fun h=>hc (W.sub _ h);have stays:∀{n:Nat} {S:Str->Bool} {s s':uC},Moved wr G s s'->s.heap.SetOf (strKind P w) c S n->s'.heap.SetOf (strKind P w) c S n:=fun hm hS=>by
  obtain⟨o,es,ep,t,ho,rest⟩:=hS;exact⟨o,es,ep,t,hm.heap c _ cw ho,rest⟩
 intro k
 induction k with
 |zero=>
  intro i s hk hi st hS hR;have e:i=zs.length:=by omega
  subst e;refine yR eJ ?_;rw[xQ aG];show vC _ _ (pyNext (.ref it) >>= _) _ _ _;refine uK (W.done s _ _ st fun s1 hm=>?_);exact vE (hR s1 (hm.mono fun b h=>zD _ h) (stays hm hS))
 |succ k ih=>
  intro i s hk hi st hS hR;have lt:i<zs.length:=by omega
  refine yR eJ ?_;rw[xQ aG];show vC _ _ (pyNext (.ref it) >>= _) _ _ _;refine uK (W.item i s _ _ lt st fun v s1 hp st1 hm=>?_);obtain⟨z,t,hz,rfl⟩:=hv i v hp;have S1:=stays hm hS;show vC _ _ (holding [dZ z t] (setAdd c (.str z t)) >>= _) _ _ _;refine uK (xR ?_);unfold setAdd;refine xR (uK ((strKind P w).pyHash (k:=z) (jq7 z t) ?_));refine wpAny_setAddHashed_of (knd:=strKind P w) (s:={s1 with toks:=s1.toks+1}) (jq7 z t) rfl S1 ↑∅ fun h2 sb S2=>?_;have S3:h2.SetOf (strKind P w) c (fun y=>(zs.take (i+1)).contains y) (i+1):=SetOf_congr S2 (jh8 hz) (by simp only[jnq nd hz];rfl);refine vE ⟨cO aG _,ih (i+1) _ ↑∅ lt (W.frame _ s1 _ _ st1 (bR _) fun b h o e=>?_) S3 fun s4 hm4 S4=>?_⟩
  .rw[sb.2 b fun q=>hc (q▸h)];exact e
  .refine hR s4 (Moved.trans W.gtrans ((hm.mono fun b h=>zD _ h).then_heap (bR _) fun b o h e=>?_) hm4) S4;rw[sb.2 b fun q=>h (q▸zG)];exact e
abbrev jly(led:Bool):Obj:={cls:=.type "set",dict:=none,data:=.set #[] 0 (.fresh 0 0 led)}
def jia{E:uB->uC->Prop}{s:uC}{l:Addr}{items:Array uB}{zs:List Str}{Q:uB->uC->Prop}(hh:A.handled=none)(hl:s.heap.IsList l items)(hi:fS items.toList zs)(nd:zs.Nodup)(hb:zs.length+1<gI)
  (h:∀(h':vU)(tk:Nat),h'.SetOf (strKind P w) ↑s (fun y=>(zs.take zs.length).contains y) zs.length->(∀b o,b<↑s->s.heap.get? b=some o->h'.get? b=some o)->Q (.ref ↑s) {s with heap:=h',toks:=tk}):
  vC (vF P w) A (call (.type "set") [.ref l]) Q E s:=by
 obtain⟨c,tl,hmro⟩:=PySem.F.called_set.mro;have hmade:=PySem.F.called_set.made;have hsub:=PySem.F.called_set.sub;refine bH (codeAny_of_tree ?_);show vC _ _ (callAny (.type "set") _) _ _ _;refine vE ⟨Code.quiet_builtin _ (by decide+kernel),yR PySem.F.entry_type_call ?_⟩;rw[Around.under_plain (weight_type_call_type "set" [.ref l] []) rfl];have h1:=PySem.F.called_set.notType;have h2:=PySem.F.called_set.canCreate;have hct:=PySem.F.typeCall_set_1 (.ref l)
 repeat any_goals first|assumption|wp_step
 refine xP (code_set_new_1 (.ref l) (E:=E) (Q₁:=fun x s1=>∃led:Bool,x=.ref ↑s/\s1={s with heap:=s.heap.push (jly led)}) fun led=>⟨led,rfl,rfl⟩) fun r s1 hr=>?_
 cases r with
 |error e=>exact hr
 |ok fl=>
  cases fl with
  |ret obj=>
   obtain⟨led,rfl,rfl⟩:=hr;have hS:(s.heap.push (jly led)).get? ↑s=some (jly led):=vH _ rfl;have hT:Shared.TypeIs {s with heap:=s.heap.push (jly led)} (.ref ↑s) "set":=⟨_,hS,rfl⟩;have hli:=PySem.F.called_set.init.lookup;have hbi:=PySem.F.called_set.init.bind (.ref ↑s)
   repeat any_goals first|assumption|wp_step
   refine xP (codeAny_call_builtin (R:=wants (fun x s2=>x=.none/\∃h' tk,s2={s with heap:=h',toks:=tk}/\h'.SetOf (strKind P w) ↑s (fun y=>(zs.take zs.length).contains y) zs.length/\(∀b o,b<↑s->s.heap.get? b=some o->h'.get? b=some o)) E) PySem.F.called_set.init.plain PySem.F.entry_set_init (check_set_init_1 hT ?_)) fun r2 s2 hr2=>?_
   .obtain⟨ol,hol,hcl,nl,hdl⟩:=hl;obtain⟨ocls,odict,odata,oslots⟩:=ol;dsimp only at hcl hdl;subst hcl hdl;have hol':=uG (jly led) hol;have q1:=PySem.F.sub_list_set;have q2:=PySem.F.sub_list_frozenset;have q3:(cW "list"==cW "dict")=false:=∅
    have hl1:(s.heap.push (jly led)).IsList l items:=⟨_,hol',rfl,nl,rfl⟩;unfold aR.«set.__init__» noKeywords Builtin.Frozenset.updateFrom;generalize hPI:pyIter=PI
    wp_walk
    subst hPI;refine aQ hl1 (uK (wpAny_runValue ?_));have lS:l<↑s:=uP hol;have h3:A.in1.in1.in1.handled=none:=by simp[hh]
    have nI:l≠(s.heap.push (jly led)).objs.size:=by
     rw[cB];exact vL (fT lS)
    have nS:↑s∉ [(s.heap.push (jly led)).objs.size,l]:=by
     rw[cB];intro z;simp only[zP,yG,or_false] at z;rcases z with z|z
     .exact absurd z (vL (bG _))
     .rw[z] at lS;exact wQ _ lS
    have ez:items.size=zs.length:=by
     have:=hi.length;simpa using this
    have W:WalksS P w A.in1.in1.in1 _ _ _ _ items.size _ _:=(Walks.list h3 _ l nI items).toS;rw[ez] at W;refine jh9 (zs:=zs) W nS nd (fun i v hv=>?_) hb (zs.length-0) 0 _ ↑∅ (wR _) ⟨⟨_,vH _ rfl,rfl,rfl⟩,hl1.push _⟩ ?_ ?_
    .obtain⟨y,t,e1,e2⟩:=hi.item i v (by rw[bD];exact hv);exact⟨y,t,e2,e1⟩
    .have hget:=uG {cls:=.type "list_iterator",data:=.fields #[.ref l,.int 0 0]} hS;exact SetOf_congr ((setObjOf_fresh (knd:=strKind P w) led).setOf hget (by unfold gI;omega)) (fun _=>rfl) rfl
    .intro s4 hm hS4;obtain⟨h4,g4,d4,tk4,os4⟩:=s4;have eg:g4=s.gens:=hm.gens;have ed:d4=s.drawn:=hm.drawn;have eo:os4=s.os:=hm.os;subst eg ed eo;refine vE ?_;refine vE ⟨rfl,h4,tk4,rfl,hS4,fun b o hb' e=>?_⟩;refine hm.heap b o (fun z=>?_) (uG _ (uG _ e));rw[cB] at z;simp only[zP,yG,or_false] at z;rcases z with z|z
     .rw[z] at hb';exact wQ _ hb'
     .rw[z] at hb';exact wQ _ (aU (bG _) hb')
   .cases r2 with
    |error e=>exact hr2
    |ok fl2=>
     cases fl2 with
     |ret r=>
      obtain⟨rfl,h',tk,rfl,hS',hk'⟩:=hr2
      repeat any_goals first|assumption|wp_step
      exact h _ _ hS' hk'
     |next=>exact hr2.elim
     |brk=>exact hr2.elim
     |cont=>exact hr2.elim
  |next=>exact hr.elim
  |brk=>exact hr.elim
  |cont=>exact hr.elim
end
noncomputable def jq8(P:vA)(w:vN)(c:Addr)(n:Nat):HO:=.ext fun h=>∃S,h.SetOf (strKind P w) c S n
noncomputable def jq9(P:vA)(w:vN)(K:uX):List V->Hp->VK->Prop:=fun xs H Q=>∃(p:Addr)(zs:List Str),xs=[.ref p]/\SqL K H p (zs.map V.str)/\zs.Nodup/\zs.length<=60/\∀c,H c=none->Q (.ref c) (upd H c (jq8 P w c zs.length))
noncomputable def jra(P:vA)(w:vN):List V->Hp->VK->Prop:=fun xs H Q=>∃c n,xs=[.ref c]/\H c=some (jq8 P w c n)/\Q (.int n) H
section
variable{X:Cx}
def jib(hc:autoParam (X.calm=true) aR):qcv X (.type "set") (jq9 X.prog X.w X.K):=by
 intro pins s σ H xs us Q I hv h;obtain⟨p,zs,rfl,hS,nd,hz,q⟩:=h;obtain⟨u,rfl,ru⟩:=hv.one
 cases ru
 obtain⟨its,rv,pl,hz'⟩:=I.list hS;refine jia (I.ok.hd hc) (PlainL.isList pl) (zs:=zs) (by simpa using qgj rv) nd (by unfold gI;omega) fun h' tk hT hk=>?_;have hg:=hT;obtain⟨o,es,ep,t,ho,_⟩:=hg;exact⟨.ref _,_,I.laid (a:=↑s) (o:=jq8 X.prog X.w ↑s zs.length) (t':=tk) (fun b ob e=>hk b ob (uP e) e) (uF _) ⟨⟨_,hT⟩,⟨o,ho⟩,fun h1 h2 ⟨S,o1,r1,r2,r3,e1,rest⟩ k=>⟨S,o1,r1,r2,r3,k _ e1,rest⟩⟩,rfl,q _ (I.hok.fresh (uF _))⟩
def jic:qcv X (.builtin "len") (jra X.prog X.w):=by
 intro pins s σ H xs us Q I hv h;obtain⟨c,n,rfl,e,q⟩:=h;obtain⟨u,rfl,ru⟩:=hv.one
 cases ru
 obtain⟨⟨S,o,es,ep,t,ho,hx,hd,_,_,hb,hf,rfl⟩,_⟩:=I.hok c _ e;refine call_len_set ho hx hd hf (by unfold gI at hb;omega) ⟨.int es.size,H,I.tok _,⟨_,rfl⟩,q⟩
end
section
variable{P:vA}{w:vN}{K:uX}{H:Hp}{Q:VK}
def jrb{p:Addr}{zs:List Str}(hS:SqL K H p (zs.map V.str))(nd:zs.Nodup)(hz:zs.length<=60)(h:∀c,H c=none->Q (.ref c) (upd H c (jq8 P w c zs.length))):jq9 P w K [.ref p] H Q:=⟨p,zs,rfl,hS,nd,hz,h⟩
def jnr{c:Addr}{n:Nat}(e:H c=some (jq8 P w c n))(h:Q (.int n) H):jra P w [.ref c] H Q:=⟨c,n,rfl,e,h⟩
end
noncomputable def jrc:List V->Hp->VK->Prop:=fun xs H Q=>∃a kvs,xs=[V.ref a]/\H a=some (.dK kvs)/\Q (.int kvs.length) H
def qgf{X:Cx}:qcv X (.builtin "len") jrc:=L2.call_lenD
def jlz{H:Hp}{Q:VK}{a:Addr}{kvs:List (Key×V)}(e:H a=some (.dK kvs))(h:Q (.int kvs.length) H):jrc [.ref a] H Q:=⟨a,kvs,rfl,e,h⟩
end My
set_option maxHeartbeats 1000000
namespace My
open PySem PySem.Spec PyProof.Rows L2
noncomputable def jrd:R2:=fun x y H Q=>∃(c:Nat)(n:Int),x=.str ⟨#[c]⟩/\y=.int n/\1<=n/\n<=100/\Q (.str ⟨(wO n.toNat c).toArray⟩) H
def jt4(c:Nat){n:Int}(h:1<=n):Txt.mul ⟨#[c]⟩ n=⟨(wO n.toNat c).toArray⟩:=by
 have key:∀(m:Nat)(a:Array Nat),(wO m #[c]).foldl (·++·) a=a++(wO m c).toArray:=by
  intro m
  induction m with
  |zero=>intro a;simp
  |succ m ih=>
   intro a;rw[List.replicate_succ,List.foldl_cons,ih,List.replicate_succ];apply Array.ext';simp
 unfold Txt.mul;rw[gK ↑∅];by_cases z:((n==1 ||(⟨#[c]⟩:Str).length==0)=true)
 .rw[gL z];have e:n=1:=by
   rw[Bool.or_eq_true] at z;rcases z with z|z
   .simpa using z
   .cases z
  subst e;rfl
 .rw[gK z,key];simp
section
variable{X:Cx}
def jns:OpR X (yX .Mult) jrd:=by
 intro pins s σ H x y v u Q I rx ry h;obtain⟨c,n,rfl,rfl,h0,h1,q⟩:=h;obtain⟨t,rfl⟩:=rx;obtain⟨k,rfl⟩:=ry;refine SB.mul ?_ fun t' k=>⟨.str ⟨(wO n.toNat c).toArray⟩,H,I.tok _,⟨t',by rw[jt4 c h0]⟩,q⟩;refine⟨by rw[gO ↑∅,gO ↑∅];rfl,fun _ _=>?_,fun _ _=>?_⟩
 .have z:(1:Int)<=(2^63-1)/n:=Int.le_ediv_of_mul_le ↑∅ ↑∅;show ¬((1:Int) >(2^63-1)/n);omega
 .refine gO (p:=(1*n.toNat > sizeLine)) ?_;rw[yY];omega
end
def jre{H:Hp}{Q:VK}{c:Nat}{n:Int}(h0:1<=n)(h1:n<=100)(h:Q (.str ⟨(wO n.toNat c).toArray⟩) H):jrd (.str ⟨#[c]⟩) (.int n) H Q:=⟨c,n,rfl,rfl,h0,h1,h⟩
noncomputable def jid(v d:Addr):HO:=.ext fun h=>h.IsValuesView v d
noncomputable def jrf:V->List V->Hp->VK->Prop:=fun x xs H Q=>∃p kvs,x=.ref p/\xs=[]/\Rd H p (.dK kvs)/\∀v,H v=none->Q (.ref v) (upd H v (jid v p))
section
variable{X:Cx}
def jnt:MtR X "dict.values" jrf:=by
 intro pins s σ H x xs v us Q I rx rv h;obtain⟨p,kvs,rfl,rfl,e,q⟩:=h
 cases rx
 have hus:=rv.zero;subst hus;obtain⟨z,hd,vs,rel,dd⟩:=qet I.hok e;refine call_meetsIn PySem.F.slot_dict_values dd.typeIs PySem.F.entry_dict_values (PySem.F.args_dict_values_1 _) (meets_dict_values (qbk X.prog X.w) p hd) ⟨⟨vs,dd⟩,?_⟩;exact⟨.ref _,_,I.laid (a:=↑s) (o:=jid ↑s p) (t':=s.toks) (fun b ob e=>uG _ e) (uF _) ⟨⟨_,vH _ rfl,rfl,rfl⟩,⟨_,vH _ rfl⟩,fun h1 h2 ⟨o,e1,r⟩ k=>⟨o,k _ e1,r⟩⟩,rfl,q _ (I.hok.fresh (uF _))⟩
end
section
variable{H:Hp}{kvs:List (Key×V)}{Q:VK}
def jrg{p:Addr}(e:Rd H p (.dK kvs))(h:∀v,H v=none->Q (.ref v) (upd H v (jid v p))):jrf (.ref p) [] H Q:=⟨p,kvs,rfl,rfl,e,h⟩
end
end My
namespace My
open PySem PySem.Spec PyProof.Rows L2 PyProof
end My
namespace My
open PySem PySem.Spec PyProof.Rows L2
section
inductive joy(K:uX)(H:Hp):V->Prop
 |non:joy K H .non
 |bl(b:Bool):joy K H (.bl b)
 |int(i:Int):joy K H (.int i)
 |lst{a:Addr}{xs:List V}(h:SqL K H a xs):joy K H (.ref a)
 |tup{a:Addr}{xs:List V}(h:SqT K H a xs):joy K H (.ref a)
 |dct{a:Addr}{kvs:List (Key×V)}(h:H a=some (.dK kvs)):joy K H (.ref a)
end
section
variable{K:uX}{H:Hp}{Q:VK}
theorem qfw{y:Str}:∀nm:List Str,inV (.str y) (nm.map V.str)=decide (y∈nm)
 | []=>rfl
 |z::r=>by
  have ih:=qfw (y:=y) r;unfold inV at ih⊢;rw[zV,yM,ih];by_cases c:z=y
  .subst c;rw[show eqV (V.str z) (V.str z)=true from beq_self_eq_true z,gM (zG ..)];rfl
  .rw[show eqV (V.str z) (V.str y)=false from beq_false_of_ne c,eP];by_cases m:y∈r
   .rw[gM m,gM (zD _ m)]
   .rw[gO m,gO fun h=>(zP.mp h).elim (fun e=>c e.symm) m]
def qel(nm:List Str):(nm.map V.str).all qdb=true:=by
 rw[yO];exact zQ.mpr fun _ _=>rfl
def jrh{p:Addr}{y:Str}{nm:List Str}(h:SqL K H p (nm.map V.str))(q:Q (.bl (decide (y∈nm))) H):rIn K false (.str y) (.ref p) H Q:=⟨p,_,rfl,.inl h,rfl,qel nm,by rw[qfw];exact q⟩
end
def XB(X:Cx)(E:XK)(e:uB)(s':uC):Prop:=∃(a:Addr)(C:uB)(d:Option Addr)(σ':L2.St)(H':Hp),e=.ref a/\Inv X [] σ' H' s'/\E C d H'/\
 ∃(T:Addr)(fl:uB)(σ1:L2.St)(H1:Hp)(s1:uC),Inv X [] σ1 H1 s1/\s1.heap.get? a=none/\s1.heap.get? T=none/\H' a=none/\H' T=none/\XTr s'.heap a C d fl T
abbrev xb(X:Cx)(E:XK):Cx:=X.wish (XB X E)
section
variable{X:Cx}{E:XK}{k:Nat}{f:Addr}{fd:uJ}{ps:List Str}{sp:Sp}{dvs:List V}{ds:List uB}{x:Str}{p pos:Pos}{e:vZ}{es:List vZ}{t:TA}
def jnu{pins:List (Addr×Obj)}{σ:L2.St}{H:Hp}{s:uC}{Q:VK}{us:List uB}{vs:List V}(F:jac X.prog X.w X.K X.mg X.base (CX1 X.prog X.w) k f fd ps sp)(hr:ja0 k X.A)(hb:qao X.K fd ps ds)(hd:qbl dvs ds)
  (I:Inv (xb X E) pins σ H s)(r:qbl vs us)(h:sp (vs++dvs) H Q E):vC (vF X.prog X.w) X.A (call (.ref f) us) (EP (xb X E) pins σ Q) (XB X E) s:=by
 have r2:qbl (vs++dvs) (us++ds):=r.append hd;have hl:(us++ds).length=ps.length:=by rw[<-r2.length];exact F.len _ _ _ _ h
 refine bH (xP (F.run X.A X.stack s H ⟨us,[]⟩ (us++ds) (vs++dvs) Q E hr I.env0 (hb s us I.kIn hl) r2 h) fun r s' hq=>?_)
 match r,hq with
 | .error e,hq=>
  obtain⟨a,C,d,H',rfl,os,bare,un,hok,la,na,⟨T,lT,nT,x⟩,w⟩:=hq;have J:Inv (xb X E) pins σ H' s':=I.call' (ch:=[]) os un hok bare (fun b z=>absurd z (by simp));exact⟨a,C,d,σ,H',rfl,J.unwish.pins_of (fun _ z=>nomatch z),w,T,.none,σ,H,s,I.unwish.pins_of (fun _ z=>nomatch z),la,lT,na,nT,x⟩
 | .ok (.ret u),hq=>exact I.after hq
 | .ok .next,hq=>exact vW hq
 | .ok .brk,hq=>exact vW hq
 | .ok .cont,hq=>exact vW hq
def jie(F:jac X.prog X.w X.K X.mg X.base (CX1 X.prog X.w) k f fd ps sp)(hr:ja0 k X.A)(hg:Gl (xb X E) x)(hm:X.mg x=some (.ref f))(hk:bU X.K (.ref f)=true)(hb:qao X.K fd ps ds)(hd:qbl dvs ds)
  (ha:PA (xb X E) (e::es) t)(hdb:autoParam ((x==("__debug__":Str))=false) aD)(he:autoParam (vG (e::es) X.env=(false,wW e X.env)::vG es X.env) aR)(hpl:autoParam ((xI pos (vG es X.env)).any (·.1)=false) aR):
  PE (xb X E) (.Call (.Name x p) (e::es) [] pos) (jhl sp dvs (fun _=>E) t):=by
 intro pins s σ H Q I h;refine xA (qe5 I hg hm ?_ hdb);refine xJ (h₀:=X.base) I.ok.mod.kin hk (thn (ha pos pins s σ H _ I h) fun us s1 ⟨vs,H1,I1,r,q⟩=>⟨I1.kIn,?_⟩) he hpl;exact jnu F hr hb hd I1 r q
end
section
variable{X:Cx}{pins:List (Addr×Obj)}{σ:L2.St}{H:Hp}{s:uC}
def jeg{N:List Str}{scope:xL}{cl:List (Str×Addr)}{C0:Addr}{fp:List Addr}(hst:X.stack=X.env::X.outer)(hf:X.env.frame=some X.env.locals)(hex:X.ex=[])(I:Inv X pins σ H s)(hfp:∀b∈fp,jcp X pins H b)(hC:C0=↑s)
  {E:XK}(hx:Xes X fun _=>E){Q:uB->uC->Prop}{acc e:uB}{s':uC}(h:XB (cxC X N scope cl C0 s H fp) E e s'):
  notedBy (vF X.prog X.w) X.A (aS scope cl C0 X.env) (fun e s'=>fR (vF X.prog X.w) X.A X.xe none Q acc C0 (.error e) s') e s':=by
 obtain⟨a,C,d,σ',H',rfl,J,w,T,fl,σ1,H1,s1,J1,la,lT,na,nT,x⟩:=h;have O:Inv X pins σ H' s':=Inv.uncomp I hfp hC J ⟨rfl,fun _ _=>rfl⟩;have O1:Inv X pins σ H1 s1:=Inv.uncomp I hfp hC J1 ⟨rfl,fun _ _=>rfl⟩;have pn:∀b,s1.heap.get? b=none->∀p∈X.pn++pins,p.1≠b:=fun b lb p hp z=>by
  have w:=(O1.pin p hp).1;rw[z,lb] at w
  cases w
 obtain⟨m,⟨oC,es,ep,hoC,hdC,hsk,hnf⟩,_⟩:=id J.loc;have hoC:s'.heap.get? C0=some oC:=hoC;obtain⟨m1,⟨oC1,_,_,hoC1,_⟩,_⟩:=id J1.loc;have hoC1:s1.heap.get? C0=some oC1:=hoC1;have nC:∀b,s1.heap.get? b=none->C0≠b:=fun b lb z=>by rw[z,lb] at hoC1;cases hoC1
 have fC:jcp X pins H' C0:=I.fpOk (by rw[hC];exact uF _) J.free;obtain⟨g0,g1,g2,g3,g4,g5⟩:=id fC;have P:Inv X (pins++[(C0,oC)]) σ H' s':=O.pins_of fun p hp=>by
  rcases zN.mp hp with z|z
  .exact O.pin p (zK _ z)
  .rw[zF.mp z];exact⟨hoC,g0,g1,g2,fun v z=>by rw[hdC] at z;cases z⟩
 have pn2:∀b,s1.heap.get? b=none->∀p∈X.pn++(pins++[(C0,oC)]),p.1≠b:=fun b lb p hp=>by
  rw[<-cI] at hp;rcases zN.mp hp with z|z
  .exact pn b lb p z
  .rw[zF.mp z];exact nC b lb
 obtain⟨oe,vs,oT,ts,he,hc,hdd,hd,h1,hTe,hT,hdT,h3⟩:=id x;have xin:XIn X (pins++[(C0,oC)]) H' s'.heap a C d:=⟨⟨jc5 O1 hex la,na,pn2 a la,⟨oe,vs,he,hd⟩⟩,.inr ⟨T,⟨jc5 O1 hex lT,nT,pn2 T lT,⟨oT,ts,hT,hdT⟩⟩,fl,x⟩⟩;show vC _ _ (noteFrame (.ref a) X.env) _ _ s';refine jhk P P.ok.frames hst hf xin fun s2 I2 x2=>?_;have hC2:s2.heap.get? C0=some oC:=(I2.pin (C0,oC) (zK _ (zK _ (zF.mpr rfl)))).1;refine⟨m,⟨oC,es,ep,hC2,hdC,hsk,hnf⟩,fun h' sb cenv _=>?_⟩;obtain⟨r2,T2,rT2,oe2,vs2,oT2,ts2,he2,hc2,hdd2,hd2,h12,hTe2,hT2,hdT2,h32⟩:=x2;have ne1:a≠C0:=(nC a la).symm;have ne2:T2≠C0:=fun z=>rT2.pin (C0,oC) (zK _ (zK _ (zF.mpr rfl))) z.symm;have I3:Inv X pins σ H' {s2 with heap:=h'}:=I2.unpinned.turned (t':=s2.toks) (fun b o hb e=>(sb.2 b hb).trans e) g0 g1 g3 g4 g5;have he3:h'.get? a=some oe2:=(sb.2 a ne1).trans he2;have hT3:h'.get? T2=some oT2:=(sb.2 T2 ne2).trans hT2;have lessP:∀{b:Addr},(∀p∈X.pn++(pins++[(C0,oC)]),p.1≠b)->∀p∈X.pn++pins,p.1≠b:=fun {b} hh p hp=>hh p (by
  rcases zN.mp hp with z|z
  .exact zO _ z
  .exact zK _ (zO _ z))
 have xh:qf3 X pins H' h' a C d (aI X.env.locals):=⟨⟨r2.nw,r2.un,lessP r2.pin,⟨oe2,vs2,he3,hd2⟩⟩,T2,⟨rT2.nw,rT2.un,lessP rT2.pin,⟨oT2,ts2,hT3,hdT2⟩⟩,oe2,vs2,oT2,ts2,he3,hc2,hdd2,hd2,h12,hTe2,hT3,hdT2,h32⟩;unfold PySem.passOn;refine uK (cG he3 hd2 h12 ?_);have fin:vC (vF X.prog X.w) X.A (do gF (.ref a) cenv.frame;throw (.ref a):Sem uB) (fun _ _=>False) X.xe {s2 with heap:=h'}:=
  uK (qgu cenv.frame I3 xh fun s4 I4 x4=>wpAny_throw (hx pins σ H' s4 a C d I4 x4.xin w))
 first
  |(rw[gK (show ¬((uV T2==wN)=true) from by simp)];exact fin)
  |(rw[gK (show ¬((uV T2==wN)=true) from by simp)];exact uK (vE fin))
  |(refine uK ?_;rw[gK (show ¬((uV T2==wN)=true) from by simp)];exact vE fin)
end
section
variable{X:Cx}
def jkn{E:XK}{elt iter:vZ}{x:Str}{px:Pos}{ifs:List vZ}{scope:xL}{cl:List (Str×Addr)}{pos:Pos}{caps:List Nat}{cn:List Str}{wi:TI}{tt:CT TT}{te:CT TE}(hst:X.stack=X.env::X.outer)(hf:X.env.frame=some X.env.locals)(hex:X.ex=[])(hx:Xes X fun _=>E)(Cp:jow X x scope cl caps cn)(hc:X.calm=true)
  (hi:PI X (.Name x px) iter wi)(ht:∀C s H fp,jov (cxC X (x::cn) scope cl C s H fp) ifs (tt C s H fp))(he:∀C s H fp,PE (xb (cxC X (x::cn) scope cl C s H fp) E) elt (te C s H fp))
  (hs:∀x,cF iter X.env x=pure x:=by intro _;rfl):
  PE X (.ListComp elt [⟨.Name x px,iter,ifs,0⟩] scope pos) (jhn wi caps tt te):=by
 intro pins s σ H Q I h;rw[eval_ListComp];refine cN (use:=none) rfl hs Cp.clos Cp.kind Cp.names (thn (hi pins s σ H _ I h) fun v s1 h1=>thn h1 fun itv s2 h2=>qgw Cp hc ht h2 (fun acc s3 H3 fp I3 f3 pn s9 τ H9 R I9 q9=>wK (he _ _ _ _ pn s9 τ H9 R (I9.wish _) q9) (fun _ _ ⟨w,H10,Iw,r⟩=>⟨w,H10,Iw.unwish,r⟩) fun e' s' q=>jeg hst hf hex I3 f3 rfl hx q) fun acc s3 H3 fp I3 f3 τ H5 s6 v I6 q=>?_);obtain⟨m,hm,_⟩:=id I6.loc;exact⟨m,hm,fun h' sb=>⟨.ref acc,H5,Inv.uncomp I3 f3 rfl I6 sb,rfl,q⟩⟩
end
end My
namespace My
open PySem PySem.Spec PyProof.Rows L2 PyProof PySem.Builtin.Str
end My
namespace My
open PySem PySem.Spec PyProof.Rows L2 PyProof PySem.Builtin.Str PySem.StrLaws
noncomputable def hits(l:List Nat)(c:Nat)(is:List Nat):List Nat:=is.filter fun i=>decide (l[i]?=some c)
end My
namespace My
open PySem PySem.Spec PyProof.Rows L2 PyProof PySem.Builtin.Str PySem.NumText
noncomputable def dg(m:Nat):List Nat:=(Nat.toDigits 10 m).map Char.toNat
end My
namespace My
open PySem PySem.Spec PyProof.Rows L2 PyProof PySem.Builtin.Str
end My
namespace My
open PySem PySem.Spec PyProof.Rows L2 PySem.Builtin
end My
namespace My
open PySem PySem.Spec PyProof.Rows L2
end My
namespace My
open PySem PySem.Spec PyProof.Rows L2 PyProof PySem.SeqAt
noncomputable def jri(z:Str):uB->Bool
 | .str a _=>a==z
 |_=>false
theorem jeh(z:Str):∀{us:List uB} {ss:List Str},fS us ss->∀(j:Nat)(h1:j<us.length)(h2:j<ss.length),jri z us[j]=(ss[j]==z)
 |_,_,.nil,j,h1,_=>absurd h1 (dH j)
 |_,_,.cons x t h,0,_,_=>rfl
 |_,_,.cons x t h,j+1,h1,h2=>jeh z h j (dA h1) (dA h2)
theorem jif{A:vS}{s:uC}(z:Str)(t:Tok):∀{us:List uB} {ss:List Str},fS us ss->∀y∈us,EqAt A s y (.str z t) (jri z y)
 |_,_,.nil,y,h=>by simp at h
 |_,_,.cons x u r,y,h=>by
  rcases zP.mp h with rfl|h
  .exact EqAt.str_str x u z t
  .exact jif z t r y h
theorem jl0{z:Str}:∀{ss:List Str} {j:Nat} (h:j<ss.length),j<ss.idxOf z->ss[j]≠z
 | [],j,h,_=>absurd h (dH j)
 |x::ss,0,_,hj=>fun e=>by
  have e:x=z:=e;rw[List.idxOf_cons,e] at hj;simp at hj
 |x::ss,j+1,h,hj=>by
  rw[List.idxOf_cons] at hj
  cases c:(x==z) with
  |true=>rw[c] at hj;simp at hj
  |false=>
   rw[c] at hj;exact jl0 (dA h) (by simpa using hj)
section
variable{X:Cx}
noncomputable def jrj(K:uX):V->List V->Hp->VK->Prop:=fun x xs H Q=>∃(l:Addr)(ss:List Str)(z:Str),x=.ref l/\xs=[.str z]/\SqL K H l (ss.map V.str)/\z∈ss/\Q (.int ((ss.idxOf z:Nat):Int)) H
def jei:MtR X "list.index" (jrj X.K):=by
 intro pins s σ H x xs v us Q I rx rv h;obtain⟨l,ss,z,rfl,rfl,hS,hz,q⟩:=h
 cases rx
 obtain⟨u,rfl,ru⟩:=rv.one;obtain⟨t,rfl⟩:=ru;obtain⟨its,r1,pl,hz'⟩:=I.list hS;have sa:=qgj r1;have hlen:=r1.length;rw[zB] at hlen;obtain⟨⟨cls,dd,data,sl⟩,ho,hc,n,hd⟩:=id pl.isList;simp only at hc hd;subst hc hd;have hj:ss.idxOf z<ss.length:=List.idxOf_lt_length_iff.mpr hz;have hz2:ss.length<=16777216:=by rw[zB] at hz';exact hz'
 refine call_meets aN ⟨_,ho,rfl⟩ PySem.F.entry_list_index (PySem.F.args_list_index_2 _ _)
  (list_indexAt l its.toArray n dd sl (.str z t) (jri z) (ss.idxOf z) (by simp;omega) ↑∅ ?_ ?_) ⟨ho,fun y hy=>jif z t sa y (by simpa using hy),.int ((ss.idxOf z:Nat):Int),H,I.tok _,⟨_,rfl⟩,q⟩
 .show jri z its[ss.idxOf z]=true;rw[jeh z sa _ ↑∅ hj];simpa using List.getElem_idxOf hj
 .intro j hjs hlt;show jri z its[j]=false;rw[jeh z sa j (by simpa using hjs) ↑∅];exact beq_false_of_ne (jl0 _ hlt)
end
section
variable{K:uX}{H:Hp}{Q:VK}
def jig{l:Addr}{ss:List Str}{j:Nat}(h:SqL K H l (ss.map V.str))(nd:ss.Nodup)(hj:j<ss.length)(q:Q (.int (j:Int)) H):jrj K (.ref l) [.str ss[j]] H Q:=⟨l,ss,ss[j],rfl,rfl,h,zY hj,by
 have e:ss.idxOf ss[j]=j:=List.Nodup.idxOf_getElem nd j hj;rw[e];exact q⟩
end
end My
namespace My
open PySem PySem.Spec PyProof.Rows L2
end My
namespace My
open PySem PySem.Spec PyProof.Rows L2 PyProof PySem.SeqAt
end My
namespace My
open PySem PySem.Spec PyProof.Rows L2
section
variable{K:uX}{H:Hp}{p:Addr}{n:Int}{xs:List V}
def jko{n:Nat}{a b:Addr}(ha:SqL K H a xs)(hb:SqL K H b [])(ne:a≠b):DEq K H (n+1) (.ref a) (.ref b) (decide (xs=[])):=by
 cases xs with
 |nil=>
  have z:=DEq.ls (n:=n) (e:=fun _=>true) ha hb ne rfl (fun j h1 h2=>absurd h1 (dH j));exact z
 |cons p r=>exact DEq.lsN ha hb ne (by simp)
end
noncomputable def jvo(K:uX):List V->Hp->VK->Prop:=fun xs H Q=>∃(p:Addr)(bs:List Bool),xs=[.ref p]/\SqL K H p (bs.map V.bl)/\Q (.bl (bs.any id)) H
def jih(bs:List Bool):((vK bs.length).any fun i=>(bs[i]?).getD true)=bs.any id:=by
 rw[xE,yF,yF];constructor
 .rintro⟨i,hi,h⟩;have hi':=yI.mp hi;rw[zA hi'] at h;exact⟨_,zY hi',h⟩
 .rintro⟨b,hb,h⟩;obtain⟨i,hi,e⟩:=zU.mp hb;exact⟨i,yI.mpr hi,by rw[zA hi,e];exact h⟩
section
variable{X:Cx}
def jii(hc:X.calm=true):qcv X (.builtin "any") (jvo X.K):=by
 intro pins s σ H xs us Q I hv h;obtain⟨p,bs,rfl,hS,q⟩:=h;obtain⟨u,rfl,ru⟩:=hv.one
 cases ru
 obtain⟨its,rv,pl,hz⟩:=I.list hS;have hl:=pl.isList;have hlt:p<↑s:=by obtain⟨_,e,_⟩:=hl;exact uP e
 have hlen:=rv.length;rw[zB] at hlen;refine call_any_walk (aQ hl ?_);refine⟨↑s,[↑s,p],[↑s],its.toArray.size,_,_,fun i=>(bs[i]?).getD true,rfl,Walks.list (A:=X.A.in1) (I.ok.hd hc) _ p (vL hlt) its.toArray,⟨⟨_,vH _ rfl,rfl,rfl⟩,hl.push _⟩,fun i v s' Q' E' hP hQ=>?_,fun h' tk hk=>?_⟩
 .have hi:its[i]?=some v:=by simpa using hP
  have hb:i<bs.length:=by rw[hlen];exact(uL.mp hi).1
  have hx:(bs.map V.bl)[i]?=some (.bl bs[i]):=by rw[zC,zA hb];rfl
  obtain⟨u,e,r⟩:=rv.get hx;rw[hi] at e
  cases e
  cases r
  dsimp only at hQ;rw[zA hb] at hQ;exact wY hQ
 .have e:((vK its.toArray.size).any fun i=>(bs[i]?).getD true)=bs.any id:=by
   rw[zL,<-hlen];exact jih bs
  rw[e];exact⟨.bl _,H,I.kept (t':=tk) (fun b o eb=>hk b o (fun hm=>by have z:=uP eb;rw[zF.mp hm] at z;exact wQ _ z) (uG _ eb)),rfl,q⟩
end
section
variable{K:uX}{H:Hp}{p:Addr}{Q:VK}
def jt5{bs:List Bool}(e:SqL K H p (bs.map V.bl))(h:Q (.bl (bs.any id)) H):jvo K [.ref p] H Q:=⟨p,bs,rfl,e,h⟩
end
inductive PEq(K:uX)(H:Hp):Nat->V->V->Bool->Prop
 |same{n:Nat}{a:Addr}:PEq K H n (.ref a) (.ref a) true
 |flat{n:Nat}{x y:V}(hx:qdb x=true)(hy:qdb y=true):PEq K H n x y (eqV x y)
 |ls{n:Nat}{a b:Addr}{xs ys:List V}{e:Nat->Bool}(ha:SqL K H a xs)(hb:SqL K H b ys)(ne:a≠b)(hl:xs.length=ys.length)
   (he:∀j (h1:j<xs.length) (h2:j<ys.length),PEq K H n xs[j] ys[j] (e j)):PEq K H (n+1) (.ref a) (.ref b) ((vK xs.length).all e)
 |lsN{n:Nat}{a b:Addr}{xs ys:List V}(ha:SqL K H a xs)(hb:SqL K H b ys)(ne:a≠b)(hl:xs.length≠ys.length):PEq K H (n+1) (.ref a) (.ref b) false
 |ts{n:Nat}{a b:Addr}{xs ys:List V}{e:Nat->Bool}(ha:SqT K H a xs)(hb:SqT K H b ys)(ne:a≠b)
   (he:∀j (h1:j<xs.length) (h2:j<ys.length),PEq K H n xs[j] ys[j] (e j)):PEq K H (n+1) (.ref a) (.ref b) ((vK (min xs.length ys.length)).all e && xs.length==ys.length)
section
variable{X:Cx}{pins:List (Addr×Obj)}{σ:L2.St}{H:Hp}{s:uC}
def jl1(I:Inv X pins σ H s){n:Nat}{x y:V}{k:Bool}(q:PEq X.K H n x y k):∀(A:vS)(u v:uB),qbg x u->qbg y v->A.units+n<cLine->SeqAt.EqAt A s u v k:=by
 induction q with
 | @same n a=>
  intro A u v ru rv hu;obtain rfl:u=uV a:=ru;obtain rfl:v=uV a:=rv;exact SeqAt.EqAt.same _
 |flat hx hy=>
  intro A u v ru rv hu;exact jff ru rv hx hy
 | @ls n a b xs ys e ha hb ne hl he ih=>
  intro A u v ru rv hu;obtain rfl:u=uV a:=ru;obtain rfl:v=uV b:=rv;obtain⟨its,r1,p1,_⟩:=I.list ha;obtain⟨its2,r2,p2,_⟩:=I.list hb;have l1:=r1.length;have l2:=r2.length;have z:=SeqAt.RcAt.lists (A:=A) (s:=s) (e:=e) (PlainL.isList p1) (PlainL.isList p2) (by rw[zL,zL];omega) ↑∅ fun j h1 h2=>by
   have k1:j<its.length:=by simpa using h1
   have k2:j<its2.length:=by simpa using h2
   have w:=ih j ↑∅ ↑∅ A.in1 its[j] its2[j] (qd0 r1 ↑∅ k1) (qd0 r2 ↑∅ k2) (by show A.units+1+n<cLine;omega);simpa using w
  rw[zL,<-l1] at z;exact fD ne z
 | @lsN n a b xs ys ha hb ne hl=>
  intro A u v ru rv hu;obtain rfl:u=uV a:=ru;obtain rfl:v=uV b:=rv;obtain⟨its,r1,p1,_⟩:=I.list ha;obtain⟨its2,r2,p2,_⟩:=I.list hb;have l1:=r1.length;have l2:=r2.length;exact fD ne (SeqAt.RcAt.lists_lengths (PlainL.isList p1) (PlainL.isList p2) (by rw[zL,zL];simp;omega) ↑∅)
 | @ts n a b xs ys e ha hb ne he ih=>
  intro A u v ru rv hu;obtain rfl:u=uV a:=ru;obtain rfl:v=uV b:=rv;obtain⟨its,r1,p1,_⟩:=I.tuple ha;obtain⟨its2,r2,p2,_⟩:=I.tuple hb;have l1:=r1.length;have l2:=r2.length;have z:=SeqAt.RcAt.tuples (A:=A) (s:=s) (e:=e) p1 p2 ↑∅ fun j h1 h2=>by
   have k1:j<its.length:=by simpa using h1
   have k2:j<its2.length:=by simpa using h2
   have w:=ih j ↑∅ ↑∅ A.in1 its[j] its2[j] (qd0 r1 ↑∅ k1) (qd0 r2 ↑∅ k2) (by show A.units+1+n<cLine;omega);simpa using w
  rw[zL,zL,<-l1,<-l2] at z;exact fD ne z
def jnv{xs:List V}{us:List uB}(r:qbl xs us){u:uB}(hu:u∈us):∃x∈xs,qbg x u:=by
 obtain⟨j,hj,e⟩:=zU.mp hu;have hl:=r.length;exact⟨xs[j]'↑∅,zY _,by rw[<-e];exact qd0 r ↑∅ hj⟩
end
end My
namespace My
open PySem PySem.Spec PyProof.Rows L2 PyProof PySem.SeqAt
end My
namespace My
open PySem PySem.Spec PyProof.Rows L2 PySem.W
structure SO(n:Nat)(lt:Nat->Nat->Bool):Prop where
 tr:∀i j k,i<n->j<n->k<n->lt i j=true->lt j k=true->lt i k=true
 to:∀i j,i<n->j<n->i≠j->lt i j=false->lt j i=true
abbrev gt0(p:Array Nat)(i:Nat):Nat:=p.getD i 0
structure Pm(n:Nat)(p:Array Nat):Prop where
 pm:p.Perm (List.toArray (vK n))
def Dn(lt:Nat->Nat->Bool)(p:Array Nat)(m:Nat):Prop:=∀i j,i<j->j<m->lt (gt0 p j) (gt0 p i)=true
end My
namespace My
open PySem PySem.Spec PyProof.Rows L2
end My
namespace My
open PySem PySem.Spec PyProof.Rows L2 PySem.W
def jnw{kvs:List (Key×V)}{vs:List (Key×uB)}(rel:KV kvs vs):qbl (kvs.map (·.2)) (vs.map (·.2)):=by
 induction rel with
 |nil=>exact .nil
 |cons r _ ih=>exact .cons r.2 ih
section
variable{X:Cx}
noncomputable def jl2:List V->Hp->VK->Prop:=fun xs H Q=>∃(v p:Addr)(kvs:List (Key×V)),xs=[.ref v]/\H v=some (jid v p)/\Rd H p (.dK kvs)/\∀l,H l=none->Q (.ref l) (upd H l (.lst (kvs.map (·.2))))
def jgi(hc:X.calm=true):qcv X (.type "list") jl2:=by
 intro pins s σ H xs us Q I hv h;obtain⟨v,p,kvs,rfl,ev,hR,q⟩:=h;obtain⟨u,rfl,ru⟩:=hv.one
 cases ru
 have ok:=hR.ok I.hok;have hz:kvs.length<=sizeLine:=ok.1;obtain⟨o,es,ep,vs,ho,hd,rel,dat,hs⟩:=jhz ok;obtain⟨hv1,_⟩:=I.hok v _ ev;have hlen:=rel.length;refine kdl_call (kdl_values (knd:=qbk X.prog X.w) (r:=v) (d:=p) (kvs:=vs) (ep:=ep)) (I.ok.hd hc) ⟨hv1,dat⟩ ↑∅ fun h' tk acc c hk hD hacc=>?_;have e1:=kdl_vals_eq (kvs:=vs) acc.toList (by rw[bX];exact hacc.1) fun j u hu=>hacc.2 j u (by rw[<-bD];exact hu);have rv:qbl (kvs.map (·.2)) acc.toList:=by
  rw[e1];exact jnw rel
 have hg:s.heap.get? ↑s=none:=bO (uF _);obtain⟨hn,I2⟩:=Inv.laidN I (h':=h') (a:=↑s) (o:=.lst (kvs.map (·.2))) (t':=tk) hk hg ⟨by rw[zB];exact hz,acc.toList,c,rv,by rw[Array.toArray_toList];exact hD⟩;exact⟨.ref _,_,I2,rfl,q _ hn⟩
end
def jnx{H:Hp}{Q:VK}{v p:Addr}{kvs:List (Key×V)}(ev:H v=some (jid v p))(h:Rd H p (.dK kvs))(q:∀l,H l=none->Q (.ref l) (upd H l (.lst (kvs.map (·.2))))):jl2 [.ref v] H Q:=⟨v,p,kvs,rfl,ev,h,q⟩
noncomputable def jsg:uB->V
 | .none=> .non
 | .bool b=> .bl b
 | .int i _=> .int i
 | .str x _=> .str x
 | .bytes b _=> .byt b
 | .float b _=> .flt b
 | .ref a=> .ref a
 | .type n=> .ty n
 |_=> .non
def jl3{x:V}{u:uB}(h:L2.qbg x u):jsg u=x:=by
 cases x with
 |non=>have h:u=_:=h;subst h;rfl
 |bl b=>have h:u=_:=h;subst h;rfl
 |int i=>obtain⟨t,rfl⟩:=h;rfl
 |str i=>obtain⟨t,rfl⟩:=h;rfl
 |byt i=>obtain⟨t,rfl⟩:=h;rfl
 |flt i=>obtain⟨t,rfl⟩:=h;rfl
 |ref a=>have h:u=_:=h;subst h;rfl
 |ty n=>have h:u=_:=h;subst h;rfl
def jkp{x y:V}{u:uB}(h:L2.qbg x u)(h':L2.qbg y u):x=y:=(jl3 h).symm.trans (jl3 h')
section
variable{X:Cx}
noncomputable def jwu(K:uX):R2:=fun x y H Q=>∃(p:Addr)(xs:List V)(e:V->Bool),y=.ref p/\SqL K H p xs/\(∀v∈xs,∃n,n<=7/\PEq K H n v x (e v))/\Q (.bl (xs.any e)) H
def jrk(hu:X.A.units+8<cLine):OpR X (wJ .In) (jwu X.K):=by
 intro pins s σ H x y v u Q I rx ry h;obtain⟨p,xs,e,rfl,hq,he,q⟩:=h
 cases ry
 obtain⟨its,r,pl,hz⟩:=I.list hq
 classical
 have key:∀(z:uB)(a:V),a∈xs->L2.qbg a z->decide (∃b∈xs,L2.qbg b z/\e b=true)=e a:=fun z a ha ra=>by
  cases c:e a with
  |true=>exact gM ⟨a,ha,ra,c⟩
  |false=>
   refine gO ?_;rintro⟨b,_,rb,eb⟩;rw[jkp rb ra,c] at eb
   cases eb
 have ea:its.toArray.any (fun z=>decide (∃b∈xs,L2.qbg b z/\e b=true))=xs.any e:=by
  rw[List.any_toArray,xE,yF,yF];constructor
  .rintro⟨z,hz,hd⟩;obtain⟨b,hb,_,eb⟩:=of_decide_eq_true hd;exact⟨b,hb,eb⟩
  .rintro⟨b,hb,eb⟩;obtain⟨j,hj,rfl⟩:=zU.mp hb;have hl:=r.length;exact⟨its[j]'↑∅,zY _,gM ⟨_,hb,qd0 r hj ↑∅,eb⟩⟩
 refine SeqAt.in_listAt (fun z=>decide (∃b∈xs,L2.qbg b z/\e b=true)) pl.isList (fun z hz=>?_) ⟨.bl _,H,I,rfl,by rw[ea];exact q⟩;have hz:z∈its:=by simpa using hz
 obtain⟨a,ha,ra⟩:=jnv r hz;obtain⟨n,hn,pe⟩:=he a ha;have w:=jl1 I pe X.A.in1 z v ra rx (by show X.A.units+1+n<cLine;omega);rw[key z a ha ra];exact w
end
structure Rw2 where
 a:Addr
 n:Str
 r:List V
noncomputable def lt2(a b:Rw2):Bool:=decide (a.n.cps.toList<b.n.cps.toList)
end My
namespace My
open PySem PySem.Spec PyProof.Rows L2
variable{b c:Addr}{P:vA}{w:vN}{H:Hp}
@[irreducible] def PSsx(X:Cx)(l:List Stmt)(t:TS):Prop:=PSs X l t
@[irreducible] def PEx(X:Cx)(e:vZ)(t:TE):Prop:=PE X e t
@[irreducible] def PAx(X:Cx)(es:List vZ)(t:TA):Prop:=PA X es t
section
variable{X:Cx}
def jfr{pos:Pos}{i:Nat}{x:Str}{e:vZ}{te:TE}{pos':Pos}{rest:List Stmt}{u:TS}(hN:X.N.Nodup)(hi:X.N[i]?=some x)(hx:L2.Loc X.env.scope x)(he:PEx X e te)(h2:PSs X rest u)
  (hs:autoParam (eB e (some (Expr.Name x pos')) pos.line X.env=pure false) aR)(hf:X.fn x=true\/aL x X.env.scope.names=some NameKind.local:=by first|exact .inl rfl|exact .inr rfl|assumption):
  PSsx X (.Assign [.Name x pos'] e pos::rest) (jsh (jpc te (qe6 i)) u):=by
 unfold PEx at he;unfold PSsx;exact qa2 (qae hN hi hx he hs hf) h2
def jij:PAx X [] jou:=by unfold PAx;exact qa3
def qci{e:vZ}{es:List vZ}{te:TE}{t:TA}(h:PE X e te)(hr:PAx X es t)(hs:autoParam (vG (e::es) X.env=(false,wW e X.env)::vG es X.env) aR):PAx X (e::es) (jmw te t):=by
 unfold PAx at*;exact qa0 h hr hs
def jik{es:List vZ}{t:TA}{b:vZ}{tb:TE}{p p':Pos}(hl:PAx X es t)(hb:PE X b tb)(hsl:jha b):PEx X (.Subscript (.List es p) b p') (tOp (jpo X.K) (jsj t) tb):=by
 unfold PAx at hl;unfold PEx;exact qam qax (qc2 hl) hb hsl
end
def jt6(p:Addr)(H:Hp):Prop:=∀b,H b=none\/(∃o xs,H b=some (.frz o (.lst xs)))\/(b=p/\H b=some (.tbl #[]))
def jil{P:vA}{w:vN}{K:uX}{mg mb:Str->Option uB}{CX:CXT}{k:Nat}{fa a p c:Addr}{fd:uJ}{x:Str}{sp:Sp}{s₁:uC}{vs:List uB}{ns:List Int}
  (KX:K.In s₁.heap)(hns:s₁.heap.Ns uT mg)(hb:s₁.heap.Ns eU mb)(hbb:∀x:Str,x≠"__name__"->mb x=aP x)(hlim:s₁.heap.NoLimit)(hg:s₁.gens= #[])
  (ha:s₁.heap.get? a=some {cls:=.type "list",data:=.seq vs.toArray})(hi:IntsAre vs ns)(hl:ns.length<=sizeLine)(hr:ja0 k fN)
  (hT:s₁.heap.TableAt c p #[])(hKp:K.lookup p=none)
  (F:∀base:vU,K.In base->base.Ns uT mg->(∀b o,s₁.heap.get? b=some o->b≠a->b≠p->base.get? b=some o)->jac P w K mg base CX k fa fd [x] sp)(hbind:∀(s:uC)(u:uB),cY s fd ⟨[u],[]⟩ [(x,u)])
  (hsp:∀H:Hp,H p=some (.tbl #[])->SqL K H a (ns.map V.int)->sp [.ref a] H (fun v _=>v=.bl true) fun _ _ _=>False)
  (hCX:∀H e s',CX [] H s₁ (fun _ _ _=>False) e s'->False):
  bM (vF P w) fN (.call (.ref fa) ⟨[.ref a],[]⟩) (fun r s'=>r=.ok (.ret (.bool true))/\OldK s₁.heap s'.heap/\s'.os=s₁.os/\cE s'.gens) s₁:=by
 have rv:=jc4 hi;have lenV:=hi.length;have hTo:s₁.heap.get? p=some {cls:=.none,data:=.fields #[]}:=hT.2;have npa:p≠a:=fun z=>by subst z;rw[ha] at hTo;cases hTo
 have core:∀H:Hp,jt6 p H->H p=some (.tbl #[])->SqL K H a (ns.map V.int)->HOk P w H s₁.heap->(∀b,H b≠none->b=a\/b=p)->(H a≠none->K.lookup a=none)->
   bM (vF P w) fN (.call (.ref fa) ⟨[.ref a],[]⟩) (fun r s'=>r=.ok (.ret (.bool true))/\OldK s₁.heap s'.heap/\s'.os=s₁.os/\cE s'.gens) s₁:=by
  intro H hO hp hS hok hA hK;have base_of:∀{b:Addr} {o:Obj},s₁.heap.get? b=some o->H b=none->(jjv s₁.heap H).get? b=some o:=fun e n=>jjw e n;have noA:∀{b:Addr} {o:Obj} {es:Array DictEntry} {ep:Nat},s₁.heap.get? b=some o->o.data=.dict es ep->H b=none:=fun {b o es ep} e d=>by
   cases q:H b with
   |none=>rfl
   |some u=>
    rcases hA b (by rw[q];simp) with e'|e'
    .subst e';rw[ha] at e;cases e;have d':Data.seq vs.toArray _=Data.dict es ep:=d
     cases d'
    .subst e';rw[hTo] at e;cases e;have d':Data.fields #[]=Data.dict es ep:=d
     cases d'
  have nsK:∀{b:Addr} {m:Str->Option uB},s₁.heap.Ns b m->(jjv s₁.heap H).Ns b m:=fun {b m} ⟨o,es,ep,e,d,r⟩=>⟨o,es,ep,base_of e (noA e d),d,r⟩;have hKb:K.In (jjv s₁.heap H):=fun b o e=>base_of (KX b o e) (by
   cases q:H b with
   |none=>rfl
   |some u=>
    rcases hA b (by rw[q];simp) with e'|e'
    .subst e';rw[hK (by rw[q];simp)] at e;cases e
    .subst e';rw[hKp] at e;cases e)
  have hM:Mod K mg (jjv s₁.heap H):=⟨hKb,nsK hns,⟨mb,nsK hb,hbb⟩,let ⟨mc,h1,h2⟩:=hlim;⟨mc,nsK h1,h2⟩⟩;have e0:jj1 P w K mg (jjv s₁.heap H) fN [] s₁ H:=⟨rfl,hM,fun b o e=>jmn e,Nat.le_of_eq (jgq _ _),trivial,fun b hb=>absurd (show b∈([]:List Addr) from hb) (by simp),hok,.of_eq hg⟩;have hbase:∀b o,s₁.heap.get? b=some o->b≠a->b≠p->(jjv s₁.heap H).get? b=some o:=fun b o e n1 n2=>base_of e (by
   cases q:H b with
   |none=>rfl
   |some u=>exact absurd (hA b (by rw[q];simp)) (by simp[n1,n2]))
  refine xP ((F _ hKb (nsK hns) hbase).run fN [] s₁ H ⟨[.ref a],[]⟩ [.ref a] [.ref a] _ _ hr e0 (hbind s₁ (.ref a)) (.cons rfl .nil) (hsp H hp hS)) fun r s' h=>?_
  cases r with
  |error e=>exact(hCX H e s' h).elim
  |ok fl=>
   cases fl with
   |next=>exact vW h
   |brk=>exact vW h
   |cont=>exact vW h
   |ret u=>
    obtain⟨v,H',os,bare,un,hok',r',q⟩:=h;have q':v=.bl true:=q;subst q';obtain rfl:u=eS true:=r';have main:∀b o,s₁.heap.get? b=some o->b≠p->s'.heap.get? b=some o:=fun b o e np=>by
     cases q:H b with
     |none=>exact un.keep b o e q (by intro z;exact absurd (show b∈([]:List Addr) from z) (by simp)) (by simp)
     |some u=>
      rcases hO b with z|⟨ob,xs,z⟩|⟨z,_⟩
      .rw[q] at z;cases z
      .have z2:=un.frzs b ob _ z;obtain⟨e1,_⟩:=hok b _ z;obtain⟨e2,_⟩:=hok' b _ z2;rw[e] at e1;cases e1;exact e2
      .exact absurd z np
    obtain⟨more,hp'⟩:=un.tbls p #[] hp;have ep':s'.heap.get? p=some {cls:=.none,data:=.fields (#[]++more)}:=hok' p _ hp';refine⟨rfl,⟨fun b o e=>?_,fun b o e=>?_⟩,os,bare⟩
    .by_cases hb:b=p
     .subst hb;rw[hTo] at e
      cases e
      exact .inr (.inl ⟨hT.isCodeTable,rfl,#[],more,rfl,ep'⟩)
     .exact .inl (main b o e hb)
    .by_cases hb:b=p
     .subst hb;exact⟨_,ep'⟩
     .exact⟨o,main b o e hb⟩
 have okP:∀H:Hp,qbw P w H s₁.heap p (.tbl #[]):=fun H=>hTo
 cases hk:K.lookup a with
 |some o=>
  have e:=KX a o hk;rw[ha] at e
  cases e
  refine core (fun b=>if b=p then some (.tbl #[]) else none) (fun b=>?_) (gL rfl) (.inr ⟨_,vs.toArray,_,hk,rfl,rfl,rfl,by rw[zL,lenV];exact hl,by simpa using rv⟩) (fun b u z=>?_) (fun b z=>?_) fun z=>absurd (gK npa.symm) z
  .by_cases hb:b=p
   .exact .inr (.inr ⟨hb,gL hb⟩)
   .exact .inl (gK hb)
  .by_cases hb:b=p
   .have z':=(gL hb).symm.trans z
    cases z'
    subst hb;exact okP _
   .have z':=(gK hb).symm.trans z
    cases z'
  .by_cases hb:b=p
   .exact .inr hb
   .exact absurd (gK hb) z
 |none=>
  refine core (fun b=>if b=p then some (.tbl #[]) else if b=a then some (.frz {cls:=.type "list",data:=.seq vs.toArray} (.lst (ns.map V.int))) else none) (fun b=>?_) (gL rfl) (.inl (.inr ⟨{cls:=.type "list",data:=.seq vs.toArray},?_⟩)) (fun b u z=>?_) (fun b z=>?_) fun _=>hk
  .by_cases hb:b=p
   .exact .inr (.inr ⟨hb,gL hb⟩)
   .by_cases hb2:b=a
    .exact .inr (.inl ⟨_,_,(gK hb).trans (gL hb2)⟩)
    .exact .inl ((gK hb).trans (gK hb2))
  .exact(gK npa.symm).trans (gL rfl)
  .by_cases hb:b=p
   .have z':=(gL hb).symm.trans z
    cases z'
    subst hb;exact okP _
   .by_cases hb2:b=a
    .have z':=((gK hb).trans (gL hb2)).symm.trans z
     cases z'
     subst hb2;exact⟨ha,by rw[zB];exact hl,vs,_,rv,ha⟩
    .have z':=((gK hb).trans (gK hb2)).symm.trans z
     cases z'
  .by_cases hb:b=p
   .exact .inr hb
   .by_cases hb2:b=a
    .exact .inl hb2
    .exact absurd ((gK hb).trans (gK hb2)) z
def jse(mg:Str->Option uB)(h:vU):Prop:=∃bm o,mg "__builtins__"=some (.ref bm)/\bm≠eU/\bm≠uT/\h.get? bm=some o/\o.cls=.type "module"/\o.dict=some eU/\o.data=.plain
def jkq{l:PySem.W.OpenLaw}{n k:Nat}{q:vA}{loose:List Str}{XP:(Str->Option uB)->vU->Prop}{YP:vN->vU->Prop}{d dy:DefRec}{K:Params->uX}{CX:vN->CXT}{sp:vN->Addr->Addr->Sp}{x y:Str}
  (hn:l.most=some n)(hn2:n<=sizeLine)(hdf:d.params.defaults=[])(hr:ja0 k fN)
  (hY:∀(w:vN)(h:vU),YP w h->(K w.params).In h)
  (hrec:(PyProof.Rows.recsOf q).find? (fun e=>e.name==y)=some dy)(tab:∀w:vN,∃c p,tabIn (K w.params) y=some (c,p)/\(K w.params).lookup p=none)
  (F:∀(w:vN)(mg:Str->Option uB)(fa:Addr)(h:vU)(c p:Addr),(K w.params).In h->h.Ns uT mg->mg d.name=some (.ref fa)->tabIn (K w.params) y=some (c,p)->
   ∃fd:uJ,(∀(s:uC)(u:uB),cY s fd ⟨[u],[]⟩ [(x,u)])/\
    ∀base:vU,(K w.params).In base->base.Ns uT mg->dW base c p->jse mg base->jac l.prog w (K w.params) mg base (CX w) k fa fd [x] (sp w c p))
  (hsp:∀(w:vN)(c p:Addr)(H:Hp)(a:Addr)(ns:List Int),ns.length<=n->H p=some (.tbl #[])->SqL (K w.params) H a (ns.map V.int)->sp w c p [.ref a] H (fun v _=>v=.bl true) fun _ _ _=>False)
  (hCX:∀(w:vN)(H:Hp)(s:uC)(e:uB)(s':uC),CX w [] H s (fun _ _ _=>False) e s'->False):
  PySem.W.WalkO q loose XP YP l.row.toRowW d [] (fun f vs=>PySem.call f vs):=by
 refine Att.attach_call hn hdf fun w s₀ s₁ mg mb fa o pm cd doc a vs ns G Y ho hd hcd hmg hobj hints hlen hg=>?_;have KX:=hY w _ Y;obtain⟨c,p,ht,hKp⟩:=tab w;obtain⟨hc,hp⟩:=PySem.W.tab_of G.T KX hrec ht;obtain⟨fd,hb,hF⟩:=F w mg fa _ c p KX G.T.g hmg ht;refine jil KX G.T.g G.T.b G.T.builtins G.T.nolimit hg hobj hints (uY hlen hn2) hr (hc.tab hp) hKp (fun base kb nb keep=>hF base kb nb ?_ ?_) hb (fun H hH hS=>hsp w c p H a ns hlen hH hS) fun H e s'=>hCX w H s₁ e s'
 .obtain⟨oc,vc,file,tf,flags,tg,inF,text,tt,e1,e2,e3,r⟩:=hc;refine⟨oc,vc,file,tf,flags,tg,inF,text,tt,keep c oc e1 (fun z=>?_) r.2.2.2.2.2.2,e2,e3,r⟩;subst z;rw[hobj] at e1
  cases e1
  exact absurd (show cW "list"=cW "code" from e2) (by intro h;injection h with h;revert h;decide)
 .obtain⟨bm,ob,b1,b2,b3,b4,b5,b6⟩:=G.T.bmain;refine⟨bm,ob,b1,b2,fun z=>?_,keep bm ob b3 (fun z=>?_) (fun z=>?_),b4,b5,b6⟩
  .obtain⟨o,es,ep,e,hd,_⟩:=G.T.g;rw[z,e] at b3;cases b3;rw[hd] at b6;cases b6
  .rw[z,hobj] at b3;cases b3;cases b6
  .rw[z,hp] at b3;cases b3;cases b4
noncomputable def FnO(g:Addr)(name qual:Str)(params:xN)(body:List Stmt)(scope:xL)(x:Str)(cl cd:Addr):HO:=
 .ext fun h=>∃doc pm ctv,h.get? g=some (fnMade name qual params body scope [(x,cl)] doc pm cd ctv)
noncomputable def joz(cd:Addr)(qual:Str):HO:=.ext fun h=>h.CodeRec (.ref cd) qual
noncomputable def qf5(cl:Addr)(v:V):HO:=.ext fun h=>∃u,qbg v u/\h.IsCell cl (some u)
def FnO.ok{P:vA}{w:vN}{H:Hp}{h:vU}{g cl cd:Addr}{name qual x:Str}{params:xN}{body:List Stmt}{scope:xL}{doc pm ctv:uB}
  (e:h.get? g=some (fnMade name qual params body scope [(x,cl)] doc pm cd ctv)):qbw P w H h g (FnO g name qual params body scope x cl cd):=
 ⟨⟨doc,pm,ctv,e⟩,⟨_,e⟩,fun h1 h2 ⟨d,m,c,e1⟩ k=>⟨d,m,c,k _ e1⟩⟩
def joz.ok{h:vU}{cd:Addr}{qual:Str}(e:h.CodeRec (.ref cd) qual):qbw P w H h cd (joz cd qual):=by
 refine⟨e,?_,fun h1 h2 q k=>?_⟩
 .obtain⟨c,o,vs,t,e1,e2,_⟩:=e
  cases e1
  exact⟨o,e2⟩
 .obtain⟨c,o,vs,t,e1,e2,r⟩:=q
  cases e1
  exact⟨cd,o,vs,t,rfl,k _ e2,r⟩
def qf5.ok{h:vU}{cl:Addr}{v:V}{u:uB}(r:qbg v u)(e:h.IsCell cl (some u)):qbw P w H h cl (qf5 cl v):=by
 refine⟨⟨u,r,e⟩,?_,fun h1 h2 ⟨u',r',o,e1,d⟩ k=>⟨u',r',o,k _ e1,d⟩⟩;obtain⟨o,e1,_⟩:=e;exact⟨o,e1⟩
noncomputable def made(H:Hp)(p g cd cl:Addr)(more:Array uB)(v:V)(name qual:Str)(params:xN)(body:List Stmt)(scope:xL)(x:Str):Hp:=
 upd (upd (upd (upd H p (.tbl more)) cl (qf5 cl v)) cd (joz cd qual)) g (FnO g name qual params body scope x cl cd)
def jej(p:Addr)(name qual:Str)(params:xN)(body:List Stmt)(scope:xL)(x:Str):Sp:=fun vs H Q _=>
 ∃v,vs=[v]/\H p=some (.tbl #[])/\∀(more:Array uB)(g cd cl:Addr),H g=none->H cd=none->H cl=none->cd≠cl->g≠cl->g≠cd->Q (.ref g) (made H p g cd cl more v name qual params body scope x)
section
variable{P:vA}{w:vN}{H:Hp}{h h':vU}{p g cd cl:Addr}{more:Array uB}{v:V}{u:uB}{name qual x:Str}{params:xN}{body:List Stmt}{scope:xL}{doc pm ctv:uB}{fs:List Addr}
def qdp(h1:b≠p)(h2:b≠cl)(h3:b≠cd)(h4:b≠g):made H p g cd cl more v name qual params body scope x b=H b:=by
 unfold made;rw[qa7 h4,qa7 h3,qa7 h2,qa7 h1]
def jkr(ok:HOk P w H h)(hp:H p=some (.tbl #[]))(hg:h.objs.size<=g)(hd:h.objs.size<=cd)(hl:h.objs.size<=cl)(k:∀b o,b≠p->h.get? b=some o->h'.get? b=some o)
  (n1:cd≠cl)(n2:g≠cl)(n3:g≠cd)
  (ep:h'.get? p=some {cls:=.none,data:=.fields more})(eg:h'.get? g=some (fnMade name qual params body scope [(x,cl)] doc pm cd ctv))(ed:h'.CodeRec (.ref cd) qual)(r:qbg v u)(el:h'.IsCell cl (some u)):
  HOk P w (made H p g cd cl more v name qual params body scope x) h':=fun b o e=>by
 have ng:=ok.fresh hg;have nd:=ok.fresh hd;have nl:=ok.fresh hl;by_cases b4:b=g
 .subst b4;unfold made at e;rw[qa1] at e;cases e;exact FnO.ok eg
 by_cases b3:b=cd
 .subst b3;unfold made at e;rw[qa7 b4,qa1] at e;cases e;exact joz.ok ed
 by_cases b2:b=cl
 .subst b2;unfold made at e;rw[qa7 b4,qa7 b3,qa1] at e;cases e;exact qf5.ok r el
 by_cases b1:b=p
 .subst b1;unfold made at e;rw[qa7 b4,qa7 b3,qa7 b2,qa1] at e;cases e;exact ep
 rw[qdp b1 b2 b3 b4] at e;have old:∀c z,H c=some z->c≠p->made H p g cd cl more v name qual params body scope x c=some z:=fun c z q np=>by
  rw[qdp np (qa9 q nl) (qa9 q nd) (qa9 q ng)];exact q
 refine(ok b o e).stay (fun c z hc q=>k c z ?_ q) (fun c q=>old c _ q ?_) fun c xs q=>old c _ q ?_
 .rcases hc with rfl|hc
  .exact b1
  .rintro rfl;rw[hp] at hc;cases hc
 .rintro rfl;rw[hp] at q;cases q
 .rintro rfl;rw[hp] at q;cases q
def jny(ok:HOk P w H h)(hp:H p=some (.tbl #[]))(hg:h.objs.size<=g)(hd:h.objs.size<=cd)(hl:h.objs.size<=cl)(k:∀b o,b≠p->h.get? b=some o->h'.get? b=some o)(ep:∃o,h'.get? p=some o):
  Un fs [] H (made H p g cd cl more v name qual params body scope x) h h':=by
 have ng:=ok.fresh hg;have nd:=ok.fresh hd;have nl:=ok.fresh hl;have lt:∀{b:Addr} {o:Obj} {c:Addr},h.get? b=some o->h.objs.size<=c->b≠c:=fun e q=>vL (vD (uP e) q);have np:∀{b:Addr},H b=none->b≠p:=fun e z=>by subst z;rw[hp] at e;cases e
 have old:∀c z,H c=some z->c≠p->made H p g cd cl more v name qual params body scope x c=some z:=fun c z q np=>by
  rw[qdp np (qa9 q nl) (qa9 q nd) (qa9 q ng)];exact q
 refine⟨fun b o e n _ _=>k b o (np n) e,fun b o e n _ _=>⟨o.slots,k b o (np n) e⟩,fun b o e n _=>?_,fun b o e _=>?_,fun b xs e=>old b _ e ?_,fun b o z e=>old b _ e ?_,fun b ps e=>?_⟩
 .rw[qdp (np n) (lt e hl) (lt e hd) (lt e hg)];exact n
 .by_cases hb:b=p
  .subst hb;exact ep
  .exact⟨o,k b o hb e⟩
 .rintro rfl;rw[hp] at e;cases e
 .rintro rfl;rw[hp] at e;cases e
 .by_cases hb:b=p
  .subst hb;rw[hp] at e;cases e;refine⟨more,?_⟩;unfold made;rw[qa7 (qa9 hp ng),qa7 (qa9 hp nd),qa7 (qa9 hp nl),qa1,Array.empty_append]
  .exact⟨#[],by rw[Array.append_empty];exact old b _ e hb⟩
end
def jks{CX:CXT}{P:vA}{w:vN}{K:uX}{mg:Str->Option uB}{base:vU}{k:Nat}{f c p:Addr}{name qual qual' x y:Str}{params params':xN}{body':List Stmt}{scope scope':xL}{dV kV doc pm ct oc:uB}{an od:Option Addr}
  {osl:Array (Option uB)}{pos p1 p2:Pos}
  (lk:K.lookup f=some ⟨oc,od,.func (eF name qual params [.FunctionDef y params' body' [] none [] scope' none y pos,.Return (some (.Name y p1)) p2] scope dV kV doc pm an (.ref c) ct),osl⟩)(hcd:cV K (.ref c) qual=true)
  (C:dW base c p)(hbm:jse mg base)
  (hk:scope.kind=.function)(hco:scope.isCoroutine=false)(hge:scope.isGenerator=false)(hx:scope.names.lookup x=some .cell)(hy:scope.names.lookup y=some .local)(hcs:∀n,eD n scope.names []=[(x,n)])(hyd:(y==("__debug__":Str))=false)
  (hcl:∀L,closureFor scope' (aF qual scope L f (.ref c))=pure [(x,L+1)])(hd0:params'.defaults=[])(hk0:params'.kw_defaults=[])(ha:∀L,annTrees params' none (aF qual scope L f (.ref c))=[])
  (hqn:∀L,qualnameIn (aF qual scope L f (.ref c)) y y=qual'):
  jac P w K mg base CX (k+1) f (eF name qual params [.FunctionDef y params' body' [] none [] scope' none y pos,.Return (some (.Name y p1)) p2] scope dV kV doc pm an (.ref c) ct) [x] (jej p y qual' params' body' scope' x):=by
 refine⟨fun vs H Q E ⟨v,e,_⟩=>by rw[e];rfl,fun A outer s H args us vs Q E hr e0 hb r hsp=>?_⟩;obtain⟨v,rfl,hp,hq⟩:=hsp;obtain⟨u,rfl,rv⟩:∃u,us=[u]/\qbg v u:=by
  cases r with
  |cons r1 r2=>cases r2;exact⟨_,rfl,r1⟩
 have bk:∀b o,base.get? b=some o->s.heap.get? b=some o:=fun b o e=>(e0.bs b o e).1;have KX:K.In s.heap:=e0.mod.kin.keeps bk;have lim:s.heap.NoLimit:=e0.mod.nolimit.keeps bk;have hP:s.heap.get? p=some (PySem.W.tabObj #[]):=e0.hok p _ hp;refine codeAny_call_function hr.depth (KX _ _ lk) rfl hco hge rfl (PySem.W.codeRec_of KX hcd) (hb _ _ _ _ ?_);refine wpAny_newFunctionEnv_cells hk (fun z hz=>?_) fun env he s1 X=>?_
 .have:z=(x,u):=by simpa using hz
  subst this;exact .inr ⟨hx,by rw[hcs];simp⟩
 subst he;refine⟨lim.keeps X.toInCall.keep,codeAny_func ?_⟩;obtain⟨hh,tk0,rfl⟩:=X.toInCall.same;have keep:∀b o,s.heap.get? b=some o->hh.get? b=some o:=X.toInCall.keep;have nsL:=X.toInCall.ns;have szL:↑s<hh.objs.size:=nsL.lt;have hcell:hh.IsCell (↑s+1) (some u):=by
  have q:=X.cell x (↑s+1) (by show(eD (↑s+1) scope.names []).lookup x=_;rw[hcs];simp);have e:fK (aF qual scope ↑s f (.ref c)).kindOf ([x].zip [u]) (fun _=>none) x=some u:=by
   show fK _ [(x,u)] _ x=_;unfold fK;rw[gK (by show ¬scope.names.lookup x=_;rw[hx];decide)];exact gL rfl
  exact e▸q
 have gS:hh.Ns uT mg:=(e0.mod.glob.keeps bk).keeps keep;have hPh:hh.get? p=some (PySem.W.tabObj #[]):=keep _ _ hP;have hgP:uT≠p:=fun z=>by
  obtain⟨o,es,ep,e,hd,_⟩:=gS;rw[z,hPh] at e;cases e;cases hd
 have hbuilt:hh.BuiltinsAt mg p:=by
  obtain⟨bm,o,b1,b2,b3,b4,r⟩:=hbm;refine⟨bm,o,b1,b2,b3,fun z=>?_,keep _ _ (bk _ _ b4),r⟩;have:=(e0.bs _ _ b4).2;rw[z,hp] at this;cases this
 refine cQ (PySem.W.nestDef_K hd0 hk0 (ha _) ?_);refine PySem.W.makeFunction_K (mg:=mg) (c:=c) (P:=p) (ps:=#[]) (hcl _) rfl gS rfl ((C.keeps bk).keeps keep) hPh (by trivial) (by rfl) hgP hbuilt fun c' ctv doc' h' tk hxt hge' hlt hrec htb=>?_;have szc:hh.objs.size<=c':=hge';have ltp:p<↑s:=uP hP;have ltc:↑s+1<hh.objs.size:=by
  obtain⟨o,e,d⟩:=hcell;exact uP e
 have l1:↑s+1<c':=vD ltc szc;have l2:↑s+1<h'.objs.size:=aU l1 hlt;have l3:↑s<c':=Nat.lt_of_succ_lt l1;have l4:↑s<h'.objs.size:=Nat.lt_of_succ_lt l2;have nL:↑s≠p:=xC ltp;have ncl:↑s+1≠p:=xC (fT ltp);have nsH:h'.Ns ↑s _:=nsL.extBut hxt nL;have hqn':=hqn ↑s;generalize hQ:qualnameIn (newEnv _ _ _ _ _ _ _ _ _) y y=qq at hrec⊢;obtain rfl:qual'=qq:=hqn'.symm.trans hQ;refine wpAny_storeName_local hy (nsH.push _) (fun h2 ns2 sb=>?_) (by
  have hk':scope.kind=.function:=hk;show((scope.kind==.class) ||(scope.kind==.module && _))=false;rw[hk'];rfl)
 refine cQ (wpAny_Return_some (wpAny_Name (wpAny_loadName_local hk hy ns2 (gL rfl) ?_) hyd));have sb':bZ ↑s (h'.push (fnMade y qual' params' body' scope' [(x,↑s+1)] doc' ((mg "__name__").getD .none) c' ctv)) h2:=sb;have kp:∀b o,b≠p->s.heap.get? b=some o->h2.get? b=some o:=fun b o hb e=>by
  rw[sb'.2 b (vL (uP e))];exact uG _ (hxt b o hb (keep b o e))
 have kq:∀b o,b≠↑s->h'.get? b=some o->h2.get? b=some o:=fun b o hb e=>by
  rw[sb'.2 b hb];exact uG _ e
 have hcl':h'.IsCell (↑s+1) (some u):=by
  obtain⟨o,e,d⟩:=hcell;exact⟨o,hxt _ _ ncl e,d⟩
 have e1:h2.get? p=some (PySem.W.tabObj (#[]++#[aI pos.line,aI pos.col,.ref c'])):=kq p _ (xS nL) htb;have e2:h2.get? h'.objs.size=some (fnMade y qual' params' body' scope' [(x,↑s+1)] doc' ((mg "__name__").getD .none) c' ctv):=by
  rw[sb'.2 _ (xC l4)];exact vH _ rfl
 have e3:h2.CodeRec (.ref c') qual':=by
  obtain⟨cc,o,vs,t,q1,q2,q3⟩:=hrec
  cases q1
  exact⟨c',o,vs,t,rfl,kq _ _ (xC l3) q2,q3⟩
 have e4:h2.IsCell (↑s+1) (some u):=by
  obtain⟨o,e,d⟩:=hcl';exact⟨o,kq _ _ (Nat.succ_ne_self _) e,d⟩
 have z1:=xG l4;have z2:=xG l3;have z3:=bR ↑s;exact⟨.ref h'.objs.size,made H p h'.objs.size c' (↑s+1) _ v y qual' params' body' scope' x,rfl,e0.bare,jny e0.hok hp z1 z2 z3 kp ⟨_,e1⟩,
  jkr e0.hok hp z1 z2 z3 kp (xC l1) (xC l2) (xC hlt) e1 e2 e3 rv e4,rfl,hq _ _ _ _ (e0.hok.fresh z1) (e0.hok.fresh z2) (e0.hok.fresh z3) (xC l1) (xC l2) (xC hlt)⟩
def Fun.maker{CX:CXT}{P:vA}{w:vN}{K:uX}{mg:Str->Option uB}{base:vU}{k:Nat}{f c p:Addr}{fd:uJ}{nm qual qual' x y:Str}{st:Stmt}{params':xN}{body':List Stmt}{scope':xL}{pos p1 p2:Pos}
  (F:Fun K nm qual st f fd)(hm:mg nm=some (.ref f))(kin:K.In base)(hns:base.Ns uT mg)(ht:tabIn K nm=some (c,p))(C:dW base c p)(hbm:jse mg base)
  (hb:qbv st=[.FunctionDef y params' body' [] none [] scope' none y pos,.Return (some (.Name y p1)) p2])
  (hk:(qa8 st).kind=.function)(hco:(qa8 st).isCoroutine=false)(hge:(qa8 st).isGenerator=false)(hx:(qa8 st).names.lookup x=some .cell)(hy:(qa8 st).names.lookup y=some .local)(hcs:∀n,eD n (qa8 st).names []=[(x,n)])(hyd:(y==("__debug__":Str))=false)
  (hcl:∀L cd,closureFor scope' (aF qual (qa8 st) L f cd)=pure [(x,L+1)])(hd0:params'.defaults=[])(hk0:params'.kw_defaults=[])(ha:∀L cd,annTrees params' none (aF qual (qa8 st) L f cd)=[])
  (hqn:∀L cd,qualnameIn (aF qual (qa8 st) L f cd) y y=qual'):
  jac P w K mg base CX (k+1) f fd [x] (jej p y qual' params' body' scope' x):=by
 obtain⟨oc,od,kV,doc,pm,an,cdv,ct,osl,rfl,lk,hcd⟩:=F.ex;have hc:cdv=.ref c:=by
  unfold tabIn at ht
  split at ht
  .rename_i f' hf;have e1:=vP kin hns hf;rw[hm] at e1
   cases e1
   split at ht
   .rename_i hfo;rw[lk] at hfo
    cases hfo
    split at ht
    .rename_i c2 hc2;have hc2':cdv=.ref c2:=hc2
     split at ht
     .split at ht
      .cases ht;exact hc2'
      .cases ht
     .cases ht
    .cases ht
   .cases ht
  .cases ht
 subst hc;rw[hb] at lk⊢;exact jks lk hcd C hbm hk hco hge hx hy hcs hyd (fun L=>hcl L _) hd0 hk0 (fun L=>ha L _) (fun L=>hqn L _)
noncomputable def less(H:Hp)(c:Addr):Hp:=fun b=>if b=c then none else H b
def qei:less H c c=none:=gL rfl
def qda(h:b≠c):less H c b=H b:=gK h
def qd6(h:H b=none):less H c b=none:=by
 by_cases hb:b=c
 .exact gL hb
 .rw[qda hb];exact h
def jim{o:HO}(h:H c=some o):upd (less H c) c o=H:=by
 funext b
 by_cases hb:b=c
 .subst hb;rw[qa1,h]
 .rw[qa7 hb,qda hb]
noncomputable def cxM(CX:CXT)(P:vA)(w:vN)(K:uX)(mg:Str->Option uB)(base:vU)(N:List Str)(qual:Str)(scope:xL)(g:Addr)(cd:uB)(cl:List (Str×Addr))(A:vS)(outer:List Env)(s:uC)(H0 H:Hp)(E:XK):Cx where
 prog:=P
 w:=w
 K:=K
 mg:=mg
 base:=base
 A:=A.deeper (envX qual scope ↑s g cd cl)
 N:=N
 s₀:=s
 H₀:=H0
 env:=envX qual scope ↑s g cd cl
 outer:=outer
 stack:=envX qual scope ↑s g cd cl::outer
 ex:=[]
 calm:=true
 fn:=fun _=>false
 pn:=[]
 xe:=fun e s'=>vC (vF P w) (A.deeper (envX qual scope ↑s g cd cl)) (leaving (envX qual scope ↑s g cd cl) e) (fun _ s''=>CX outer H s E e s'') (fun e' s''=>CX outer H s E e' s'') s'
def jkt{h:vU}{φ:vU->Prop}(ok:HOk P w H h)(hc:H c=some (.ext φ)):HOk P w (less H c) h:=fun b o e=>by
 have hb:b≠c:=fun z=>by subst z;rw[qei] at e;cases e
 rw[qda hb] at e;refine(ok b o e).stay (fun _ _ _ q=>q) (fun d q=>?_) fun d xs q=>?_
 .rw[qda fun z=>by subst z;rw[hc] at q;cases q];exact q
 .rw[qda fun z=>by subst z;rw[hc] at q;cases q];exact q
structure jin(name qual:Str)(params:xN)(body:List Stmt)(scope:xL)(z x:Str):Prop where
 kind:scope.kind=.function
 co:scope.isCoroutine=false
 gen:scope.isGenerator=false
 nocell:∀y∈scope.names,y.2≠ .cell
 par:scope.names.lookup z=some .local
 free:scope.names.lookup x=some .free
 only:∀y,scope.names.lookup y=some .free->y=x
 bind:∀(cl cd:Addr)(ct doc pm:uB)(s:uC)(u:uB),cY s (PySem.W.fnX name qual params body scope [(x,cl)] .none .none doc pm none (.ref cd) ct) ⟨[u],[]⟩ [(z,u)]
def jku{CX:CXT}{P:vA}{w:vN}{K:uX}{mg:Str->Option uB}{base:vU}{k:Nat}{g cl cd:Addr}{name qual x z:Str}{params:xN}{body:List Stmt}{scope:xL}{vx vz:V}{uz:uB}{A:vS}{outer:List Env}{s:uC}{H:Hp}{Q:VK}{E:XK}
  (M:jin name qual params body scope z x)(hr:ja0 (k+1) A)(e0:jj1 P w K mg base A outer s H)(hg:H g=some (FnO g name qual params body scope x cl cd))(hd:H cd=some (joz cd qual))(hc:H cl=some (qf5 cl vx))(rz:qbg vz uz)
  (hbody:ja0 k (A.deeper (envX qual scope ↑s g (.ref cd) [(x,cl)]))->∃t,PSs (cxM CX P w K mg base [z,x] qual scope g (.ref cd) [(x,cl)] A outer s (less H cl) H E) body t/\
   t {nx:=fun _ H'=>Q .non (upd H' cl (qf5 cl vx)),rt:=fun v H'=>Q v (upd H' cl (qf5 cl vx))} [some vz,some vx] (less H cl)):
  bM (vF P w) A (.call (.ref g) ⟨[uz],[]⟩) (CR CX outer P w H s Q E) s:=by
 obtain⟨⟨doc,pm,ctv,eg⟩,_⟩:=e0.hok g _ hg;obtain⟨ec,_⟩:=e0.hok cd _ hd;obtain⟨⟨ux,rx,ecell⟩,_⟩:=e0.hok cl _ hc;have ec':s.heap.CodeRec (.ref cd) qual:=ec;have lim:s.heap.NoLimit:=e0.mod.nolimit.keeps fun b o e=>(e0.bs b o e).1;refine codeAny_call_def (fd:=PySem.W.fnX name qual params body scope [(x,cl)] .none .none doc pm none (.ref cd) ctv) (body:=body) (binds:=[(z,uz)]) hr.depth eg rfl lim ec' rfl (M.bind cl cd ctv doc pm s uz) M.nocell
  (fun y hy=>?_) (fun h₁ hns hk1=>?_) M.co M.gen M.kind
 .have:y=(z,uz):=by simpa using hy
  subst this;exact M.par
 obtain⟨t,ht,hq⟩:=hbody (hr.deeper _);have lk:∀y c,([(x,cl)]:List (Str×Addr)).lookup y=some c->y=x/\c=cl:=fun y c e=>by
  rw[yL] at e
  cases hb:y==x with
  |true=>rw[hb] at e;cases e;exact⟨eq_of_beq hb,rfl⟩
  |false=>rw[hb] at e;cases e
 have lx:([(x,cl)]:List (Str×Addr)).lookup x=some cl:=by rw[yL,beq_self_eq_true]
 have noA:∀b:Addr,b∉([]:List Addr):=fun b z=>absurd z (by simp);have nfr:cl∉frs outer:=fun q=>by rw[e0.frf cl q] at hc;cases hc
 have I:Inv (cxM CX P w K mg base [z,x] qual scope g (.ref cd) [(x,cl)] A outer s (less H cl) H E) [] [some vz,some vx] (less H cl) {s with heap:=h₁,toks:=s.toks+1}:=by
  refine⟨⟨e0.mod,M.kind,rfl,rfl,uF _,fun y y' c q1 q2=>?_,fun y hy=>?_,fun y c q=>(vB q).elim,fun _=>hr.hd,Around.frames_deeper e0.frames,.inr ⟨rfl,rfl⟩,fun b q=>absurd q (noA b),fun b o e=>⟨(e0.bs b o e).1,qd6 (e0.bs b o e).2⟩,e0.bsz,
   fun b _ _=>noA b,fun b q=>absurd q (noA b),e0.funs,fun b q=>qd6 (e0.frf b q)⟩,rfl,e0.bare,Un.kept hk1,⟨_,hns,fun i y v q1 q2 q3=>?_⟩,fun y c q=>?_,qd6 (e0.hok.fresh (uF _)),fun y c q=>?_,fun p hp=>absurd (show p∈([]:List (Addr×Obj)) from hp) (by simp),
   (jkt e0.hok hc).kept hk1,rfl⟩
  .rw[(lk y c q1).1,(lk y' c q2).1]
  .have hy:scope.names.lookup y=some .cell\/scope.names.lookup y=some .free:=hy;rcases hy with hy|hy
   .exact absurd rfl (M.nocell _ (xT hy))
   .rw[M.only y hy];exact⟨cl,lx⟩
  .match i,q1,q2 with
   |0,q1,q2=>
    cases q1
    cases q2
    exact⟨uz,rz,.inl ⟨M.par,by show([(z,uz)]:List (Str×uB)).lookup z=_;rw[yL,beq_self_eq_true]⟩⟩
   |1,q1,q2=>
    cases q1
    cases q2
    exact⟨ux,rx,.inr ⟨.inr M.free,cl,lx,ecell.keeps hk1⟩⟩
   |i+2,q1,q2=>cases q2
  .rw[(lk y c q).2];exact⟨_,ecell.keeps hk1⟩
  .rw[(lk y c q).2];exact qei
 have fin:∀{σ':L2.St} {H':Hp} {v:V} {u:uB} {s':uC},Inv (cxM CX P w K mg base [z,x] qual scope g (.ref cd) [(x,cl)] A outer s (less H cl) H E) [] σ' H' s'->qbg v u->Q v (upd H' cl (qf5 cl vx))->CE outer P w H s Q u s':=fun {σ' H' v u s'} J rv q=>by
  obtain⟨oc,eoc,dc⟩:=ecell;have B:Un (frs outer) [] (less H cl) H' s.heap s'.heap:=J.base;have nc:H' cl=none:=B.free cl oc eoc qei (noA _);have kc:s'.heap.get? cl=some oc:=B.keep cl oc eoc qei nfr (noA _);have nb:∀{b:Addr},H b=none->b≠cl:=fun e z=>by subst z;rw[hc] at e;cases e
  refine⟨v,upd H' cl (qf5 cl vx),J.os,J.bare,⟨fun b o e n h1 h2=>B.keep b o e (qd6 n) h1 h2,fun b o e n h1 h2=>B.slot b o e (qd6 n) h1 h2,fun b o e n h1=>?_,B.there,fun b xs e=>?_,fun b o u e=>?_,fun b ps e=>?_⟩,fun b o e=>?_,rv,q⟩
  .rw[qa7 (nb n)];exact B.free b o e (qd6 n) h1
  .have hb:b≠cl:=fun z=>by subst z;rw[hc] at e;cases e
   rw[qa7 hb];exact B.tups b xs (by rw[qda hb];exact e)
  .have hb:b≠cl:=fun z=>by subst z;rw[hc] at e;cases e
   rw[qa7 hb];exact B.frzs b o u (by rw[qda hb];exact e)
  .have hb:b≠cl:=fun z=>by subst z;rw[hc] at e;cases e
   obtain⟨more,em⟩:=B.tbls b ps (by rw[qda hb];exact e);exact⟨more,by rw[qa7 hb];exact em⟩
  .by_cases hb:b=cl
   .subst hb;rw[qa1] at e;cases e;exact qf5.ok rx ⟨oc,kc,dc⟩
   .rw[qa7 hb] at e;refine(J.hok b o e).stay (fun _ _ _ q=>q) (fun d q=>?_) fun d xs q=>?_
    .rw[qa7 (qa9 q nc)];exact q
    .rw[qa7 (qa9 q nc)];exact q
 refine wK (ht [] _ _ _ _ I hq) (fun fl s' hs=>?_) fun e s' hs=>hs
 cases fl with
 |ret u=>
  obtain⟨v,σ',H',J,rv,q⟩:=hs;exact fin J rv q
 |next=>
  obtain⟨σ',H',J,q⟩:=hs;exact fin (v:=V.non) (u:=wN) J rfl q
 |brk=>
  obtain⟨_,_,_,q⟩:=hs;exact vW q
 |cont=>
  obtain⟨_,_,_,q⟩:=hs;exact vW q
def Wg(name qual:Str)(params:xN)(body:List Stmt)(scope:xL)(x:Str)(H:Hp)(g t:Addr):Prop:=
 ∃cl cd,H g=some (FnO g name qual params body scope x cl cd)/\H cd=some (joz cd qual)/\H cl=some (qf5 cl (.ref t))
def jio{a:Addr}{y:V}{r:Option V}{φ:vU->Prop}(g:jgf H a y r)(hc:H c=some (.ext φ)):jgf (less H c) a y r:=by
 have old:∀{b:Addr} {o:HO},H b=some o->(∀ψ,o≠ .ext ψ)->less H c b=some o:=fun {b o} e n=>by
  rw[qda fun z=>by subst z;rw[hc] at e;exact n φ (uU e).symm];exact e
 rcases g with⟨kvs,k,e,r1,r2⟩|⟨kvs,k,b,e,r1,e2,r2⟩
 .refine .inl ⟨kvs,k,?_,r1,r2⟩;rcases e with e|⟨o,e⟩
  .exact .inl (old e fun ψ z=>by cases z)
  .exact .inr ⟨o,old e fun ψ z=>by cases z⟩
 .refine .inr ⟨kvs,k,b,?_,r1,old e2 (fun ψ z=>by cases z),r2⟩;rcases e with e|⟨o,e⟩
  .exact .inl (old e fun ψ z=>by cases z)
  .exact .inr ⟨o,old e fun ψ z=>by cases z⟩
def FnO.at{h:vU}{g cl cd:Addr}{name qual x:Str}{params:xN}{body:List Stmt}{scope:xL}(ok:HOk P w H h)(e:H g=some (FnO g name qual params body scope x cl cd)):PySem.W.FnAt g h:=by
 obtain⟨⟨doc,pm,ctv,eg⟩,_⟩:=ok g _ e;exact⟨_,_,_,_,eg⟩
abbrev jip(x z:Str)(p1 p2 p3 p4:Pos):List Stmt:=[.Return (some (.Subscript (.Name x p1) (.Name z p2) p3)) p4]
noncomputable def tWg(W:Hp->Addr->Addr->Prop)(i:Nat)(ta:TA):TE:=fun σ H Q=>∃g t,σ[i]?=some (some (.ref g))/\W H g t/\ta σ H fun vs H1=>∃vz z,vs=[vz]/\W H1 g t/\jgf H1 t vz (some z)/\Q z H1
def jt7{X:Cx}{k i:Nat}{y name qual x z:Str}{params:xN}{scope:xL}{p pos p1 p2 p3 p4:Pos}{e:vZ}{ta:TA}(M:jin name qual params (jip x z p1 p2 p3 p4) scope z x)(hr:ja0 (k+1) X.A)(hN:X.N[i]?=some y)(hv:Vis X.env.scope y)(ha:PA X [e] ta)
  (d1:autoParam ((x==("__debug__":Str))=false) aD)(d2:autoParam ((x==("__classdict__":Str))=false) aD)(d3:autoParam ((z==("__debug__":Str))=false) aD)(d4:autoParam ((z==("__classdict__":Str))=false) aD)
  (d5:autoParam ((y==("__debug__":Str))=false) aD) (d6:autoParam ((y==("__classdict__":Str))=false) aD) (he:autoParam (vG [e] X.env=(false,wW e X.env)::vG [] X.env) aR) (hpl:autoParam ((xI pos (vG [] X.env)).any (·.1)=false) aR):
  PE X (.Call (.Name y p) [e] [] pos) (tWg (Wg name qual params (jip x z p1 p2 p3 p4) scope x) i ta):=by
 intro pins s σ H Q I h;obtain⟨g,t,eg,W0,h⟩:=h;refine xA (thn (je9 hN hv d5 d6 pins s σ H (fun v H'=>v=.ref g/\H'=H) I ⟨.ref g,eg,rfl,rfl⟩) fun f s1 h9=>?_);obtain⟨v,H1,I1,r1,q1,q2⟩:=h9;subst q1;subst q2;obtain rfl:f=uV g:=r1;obtain⟨cl0,cd0,w1,_,_⟩:=W0;refine PySem.W.callWith_F (first:=[]) (FnO.at I1.hok w1) (thn (ha pos pins s1 σ H1 _ I1 h) fun us s2 ⟨vs,H2,I2,r,vz,zz,ev,⟨cl,cd,w2,w3,w4⟩,dg,q⟩=>⟨FnO.at I2.hok w2,?_⟩) he hpl;subst ev;obtain⟨u,rfl,rv⟩:∃u,us=[u]/\qbg vz u:=by
  cases r with
  |cons r1 r2=>cases r2;exact⟨_,rfl,r1⟩
 have run:=jku (CX:=fun _ _ _ _ _ _=>False) (E:=fun _ _ _=>False) (Q:=Q) M hr I2.env0 w2 w3 w4 rv fun hr'=>
  ⟨_,qa6 (qaf (qah (qap hr') (je9 (i:=1) rfl (.inr (.inr M.free)) d1 d2) (je9 (i:=0) rfl (.inl M.par) d3 d4) nofun)),_,rfl,_,rfl,t,zz,rfl,jio dg w4,by
   show Q zz (upd (less H2 cl) cl (qf5 cl (.ref t)));rw[jim w4];exact q⟩
 refine bH (xP run fun r s' hq=>?_)
 cases r with
 |error e=>exact vW hq
 |ok fl=>
  cases fl with
  |ret u=>exact I2.after hq
  |next=>exact vW hq
  |brk=>exact vW hq
  |cont=>exact vW hq
end My
set_option exponentiation.threshold 5000
namespace My
open PySem PySem.Spec PyProof.Rows L2
def Hug(i:Int):Prop:=i.natAbs<2^4000
def Hug.bits{k:Int}(h:Hug k):Builtin.Int.intBits k<=2^20:=uY (PyProof.Rows.intBits_le (k:=4000) h) ∅
def Hug.small{k:Int}(h:k.natAbs<2^600):Hug k:=vD h (xD ∅ ∅)
def Hug.le{k:Int}{n:Nat}(h:k.natAbs<=n)(z:n<2^4000):Hug k:=uO h z
def jwv(i j:Int):Prop:=Hug i/\Hug j
def qd8{X:Cx}:OpR X (yX .Mult) (rI jwv fun i j=> .int (i*j)):=opI fun _ _ _ _ _ _ _ hc q=>mul_int q (IntMulOk.of_bits hc.1.bits hc.2.bits)
section
variable{X:Cx}{pins:List (Addr×Obj)}{σ:L2.St}{H:Hp}{s:uC}
def jrl(I:Inv X pins σ H s){n:Nat}{A:vS}(hu:A.units+n<cLine){kb:List (Key×V)}{vb:List (Key×uB)}(rb:KV kb vb){ka:List (Key×V)}{va:List (Key×uB)}(ra:KV ka va)(he:∀p∈ka,∃v,qcp kb p.1=some v/\PEq X.K H n p.2 v true):PySem.W.KeqHits A s vb va true:=by
 induction ra with
 |nil=>exact .nil
 | @cons p q l1 l2 h t ih=>
  obtain⟨k,v⟩:=p;obtain⟨k',u⟩:=q;obtain⟨e,ru⟩:=h;dsimp only at e ru;subst e;have z:=rb.val k;obtain⟨y,hv,pe⟩:=he _ (zG ..);have ih':=ih fun p hp=>he p (zD _ hp);dsimp only at hv pe;rw[hv] at z
  cases hu2:cH vb k with
  |none=>rw[hu2] at z;exact z.elim
  |some yu=>
   rw[hu2] at z;exact .hit (e:=true) (b:=true) hu2 (jl1 I pe A u yu ru z hu) ih'
noncomputable def jvp(K:uX):R2:=fun x y H Q=>∃a b ka kb,x=.ref a/\y=.ref b/\Rd H a (.dK ka)/\Rd H b (.dK kb)/\ka.length=kb.length/\(∀p∈ka,∃v,qcp kb p.1=some v/\PEq K H 3 p.2 v true)/\Q (.bl false) H
def jrm(hu:X.A.units+8<cLine):OpR X (wJ .NotEq) (jvp X.K):=by
 intro pins s σ H x y v u Q I rx ry h;obtain⟨a,b,ka,kb,rfl,rfl,ha,hb,hl,he,z⟩:=h
 cases rx
 cases ry
 obtain⟨_,ga,va,ra,da⟩:=qet I.hok ha;obtain⟨_,gb,vb,rb,db⟩:=qet I.hok hb;have l1:=ra.length;have l2:=rb.length;have hits:=jrl I (A:=X.A.in1) (by show X.A.units+1+3<cLine;omega) rb ra he;refine PySem.W.keq_ne (r:=true) ga gb da db ↑∅ (fun _=>hits) ?_;have e:(va.length==vb.length && true)=true:=by rw[<-l1,<-l2,hl];simp
 rw[e];exact⟨.bl false,H,I,rfl,z⟩
def jt8(i j:Int):Prop:=j≠0/\Hug j
def Hug.noPy{x y:Int}(h:Hug y):Builtin.divisionGoesByPylong x y=false:=by
 refine PyProof.noPylong_of_log2 ?_;by_cases h0:y.natAbs=0
 .rw[h0];decide+kernel
 .have h30:y.natAbs.log2<4000:=(Nat.log2_lt h0).mpr h;omega
def jfs:OpR X (yX .FloorDiv) (rI jt8 fun i j=> .int (i.fdiv j)):=opI fun _ _ _ _ _ _ _ hc q=>floordiv_int hc.1 q (.inl hc.2.noPy)
end
end My
namespace Our
open PySem L2 My
variable{S:Ts}{z y:Str}{e:He}{x q r:Rat}{H H' Hx:Hp}{Q:VK}{a l b ls d0:Addr}{f:Str->Option Int}{ws W L ss nm:List Str}{i n N:Nat}{p:List uB->Prop}{g lf lv s:Str->Rat}{el:Nat->Nat}{D:Dl}{φ:Str->Option Rat}{sc:Int}{es:List Nat}
abbrev sr(a:Addr):Option V:=some (.ref a)
def qfl{X:Cx}{st:Stmt} :PS X st (fun _ _ _=>False):=fun _ _ _ _ _ _ q=>q.elim
noncomputable def top(i:Nat):uI:=PySem.Challenge.pw_quotatree_k58_whole_no_other_shares.main.body.getD i (.Pass ⟨0,0,0,0⟩)
noncomputable def qcu:uI->Nat->uI
 | .ClassDef _ _ _ body _ _ _ _ _ _ _,j=>body.getD j (.Pass ⟨0,0,0,0⟩)
 |s,_=>s
abbrev jbl:uI:=top 15
abbrev jb6:uI:=top 16
abbrev jao:uI:=top 17
abbrev jbb:uI:=top 19
abbrev ja2:uI:=top 20
abbrev jaw:uI:=top 21
abbrev jbc:uI:=top 22
abbrev jek:uI:=top 23
abbrev jcg:uI:=top 24
abbrev jbm:uI:=top 25
abbrev jb7:uI:=top 27
abbrev jbn:uI:=top 28
abbrev jiq:uI:=top 29
abbrev jel:uI:=top 30
abbrev jem:uI:=top 31
abbrev jb8:uI:=top 32
abbrev jen:uI:=top 33
abbrev ja3:uI:=top 35
abbrev jbo:uI:=top 36
abbrev jbp:uI:=top 37
abbrev jbd:uI:=top 39
abbrev jce:uI:=top 41
abbrev jbq:uI:=top 42
abbrev jbr:uI:=top 43
abbrev jaz:uI:=top 44
abbrev jbe:uI:=top 51
abbrev ja4:uI:=top 52
abbrev ja5:uI:=top 53
abbrev jal:uI:=top 54
abbrev jb9:uI:=top 57
abbrev jeo:uI:=top 58
abbrev jir:uI:=top 59
abbrev jep:uI:=top 60
abbrev jis:uI:=top 61
abbrev jit:uI:=top 62
abbrev jca:uI:=top 63
abbrev jiu:uI:=top 64
abbrev jiv:uI:=top 65
abbrev jch:uI:=top 66
abbrev jbs:uI:=top 67
abbrev jiw:uI:=top 68
abbrev ja6:uI:=top 69
abbrev jeq:uI:=top 70
abbrev jbf:uI:=top 71
abbrev ja1:uI:=top 72
abbrev jbt:uI:=top 73
abbrev jix:uI:=top 74
abbrev jci:uI:=top 75
abbrev jcj:uI:=top 76
abbrev jiy:uI:=top 77
abbrev jnz:uI:=top 78
abbrev jck:uI:=top 79
abbrev jbu:uI:=top 80
abbrev jcb:uI:=top 81
abbrev jer:uI:=top 82
abbrev jn0:uI:=top 83
abbrev ja7:uI:=qcu (top 50) 0
abbrev jai:uI:=qcu (top 55) 0
abbrev jag:uI:=qcu (top 55) 1
abbrev jbz:uI:=qcu (top 55) 2
abbrev jb0:uI:=qcu (top 55) 3
abbrev jbv:uI:=qcu (top 55) 4
abbrev jah:uI:=qcu (top 55) 5
abbrev jap:uI:=qcu (top 55) 6
abbrev jaq:uI:=qcu (top 55) 7
abbrev jam:uI:=qcu (top 55) 10
abbrev jbg:uI:=qcu (top 55) 11
abbrev jbh:uI:=qcu (top 55) 12
abbrev jax:uI:=qcu (top 55) 13
abbrev jad:uI:=qcu (top 55) 14
abbrev jaj:uI:=qcu (top 55) 16
abbrev jay:uI:=qcu (top 38) 0
abbrev jar:uI:=qcu (top 38) 1
abbrev jas:uI:=qcu (top 38) 2
abbrev jan:uI:=qcu (top 38) 3
abbrev jae:uI:=qcu (top 38) 4
abbrev jbi:uI:=qcu (top 40) 0
abbrev jaf:uI:=qcu (top 40) 1
abbrev jat:uI:=qcu (top 40) 2
set_option genSizeOf false in
set_option genInjectivity false in
structure Ad where
 w7o:Addr
 w6t:uJ
 w99:Addr
 w7m:uJ
 w3a:Addr
 w2u:uJ
 w6e:Addr
 w5h:uJ
 w4y:Addr
 w48:uJ
 w3v:Addr
 w3e:uJ
 w6k:Addr
 w4v:uJ
 wcu:Addr
 wbp:uJ
 wbk:Addr
 wa0:uJ
 w7b:Addr
 w6i:uJ
 w9c:Addr
 w7s:uJ
 w7v:Addr
 w6c:uJ
 wfl:Addr
 wdy:uJ
 wdm:Addr
 wb7:uJ
 wcp:Addr
 wb2:uJ
 w9a:Addr
 w7g:uJ
 wdo:Addr
 wb5:uJ
 w56:Addr
 w4i:uJ
 w7e:Addr
 w6m:uJ
 w84:Addr
 w6r:uJ
 w6u:Addr
 w54:uJ
 wfm:Addr
 waw:uJ
 wj2:Addr
 w5d:uB
 w7c:Addr
 w63:uJ
 w7u:Addr
 w61:uJ
 w97:Addr
 w5o:uJ
 wfx:Addr
 w27:uB
 w6s:Addr
 w4t:uJ
 w5k:Addr
 w4o:uJ
 w5a:Addr
 w4n:uJ
 w2z:Addr
 w2k:uJ
 w96:Addr
 w7n:uJ
 we5:Addr
 waz:uJ
 wfg:Addr
 wcv:uJ
 wcr:Addr
 wbg:uJ
 wfn:Addr
 wdp:uJ
 wg0:Addr
 wdi:uJ
 w9f:Addr
 w7k:uJ
 wfe:Addr
 we4:uJ
 wg7:Addr
 wdu:uJ
 wbm:Addr
 w9q:uJ
 w7r:Addr
 w66:uJ
 wg3:Addr
 wdv:uJ
 w75:Addr
 w5p:uJ
 wdq:Addr
 wbb:uJ
 w62:Addr
 w5g:uJ
 w4b:Addr
 w3s:uJ
 w7q:Addr
 w65:uJ
 wfp:Addr
 wdd:uJ
 wbl:Addr
 w9e:uJ
 wbn:Addr
 wa3:uJ
 wfk:Addr
 wd0:uJ
 wih:Addr
 wgb:uJ
 wb0:Addr
 w9p:uJ
 w7f:Addr
 w64:uJ
 w90:Addr
 w7t:uJ
 wd3:Addr
 wb9:uJ
 wcw:Addr
 wc8:uJ
 w4u:Addr
 w47:uJ
 w6q:Addr
 w3p:uJ
 wdn:Addr
 w19:uB
 w5b:Addr
 w35:uJ
 wce:Addr
 w0q:uB
 w89:Addr
 w6z:uJ
 w8g:Addr
 w72:uJ
 w7z:Addr
 w6o:uJ
 w2c:Addr
 w21:uJ
 w3h:Addr
 w2x:uJ
 w3b:Addr
 w2w:uJ
 w30:Addr
 w2l:uJ
 w6l:Addr
 w52:uJ
 w6g:Addr
 w5l:uJ
 w1l:Addr
 w0u:uJ
 w1c:Addr
 w0y:uJ
 w2h:Addr
 w2a:uJ
 w3t:Addr
 w3c:uJ
 w39:Addr
 w2y:uJ
 w3f:Addr
 w2t:uJ
 w2v:Addr
 w2j:uJ
 w1q:Addr
 w1m:uJ
 w6p:Addr
 w4x:uJ
 w20:Addr
 w1p:uJ
 w3i:Addr
 w2s:uJ
 w06:Addr
 w01:Addr
 w00:Addr
 w02:Addr
 w46:Addr
 w8x:Addr
 wb1:Addr
 w0k:Addr
 w4a:Addr
 w8y:Addr
 w5r:Addr
 w5m:Addr
 w7a:Addr
 w6x:Addr
 w3w:uB
 w1k:uB
 w26:uB
 w1o:uB
 w1i:uB
 w0j:uB
structure Tx(K:uX)(mg:Str->Option uB)(d:Ad):Prop where
 wau:Fun K "is_whole" "is_whole" jbl d.w7o d.w6t
 weo:mg "is_whole"=some (.ref d.w7o)
 wf8:qao K d.w6t ["thing"] []
 w9g:Fun K "is_name" "is_name" jb6 d.w99 d.w7m
 wcd:mg "is_name"=some (.ref d.w99)
 wc3:qao K d.w7m ["thing"] []
 w3k:Fun K "is_whole_from" "is_whole_from" jao d.w3a d.w2u
 w5j:mg "is_whole_from"=some (.ref d.w3a)
 w5e:qao K d.w2u ["thing","least","most"] []
 w9l:Fun K "is_amount" "is_amount" jbb d.w6e d.w5h
 wda:mg "is_amount"=some (.ref d.w6e)
 wdf:qao K d.w5h ["thing"] []
 w59:Fun K "amounts_of" "amounts_of" ja2 d.w4y d.w48
 w8b:mg "amounts_of"=some (.ref d.w4y)
 w8h:qao K d.w48 ["handed","wares"] []
 w5z:Fun K "above_nought" "above_nought" jaw d.w3v d.w3e
 wa7:mg "above_nought"=some (.ref d.w3v)
 wa5:qao K d.w3e ["amounts"] []
 w6j:Fun K "amount_of" "amount_of" jbc d.w6k d.w4v
 w9b:mg "amount_of"=some (.ref d.w6k)
 w92:qao K d.w4v ["amounts","ware"] []
 wdh:Fun K "added" "added" jek d.wcu d.wbp
 wgf:mg "added"=some (.ref d.wcu)
 wfo:qao K d.wbp ["one","other"] []
 web:Fun K "beyond" "beyond" jcg d.wbk d.wa0
 wgy:mg "beyond"=some (.ref d.wbk)
 wgs:qao K d.wa0 ["one","other"] []
 wap:Fun K "total_of" "total_of" jbm d.w7b d.w6i
 wey:mg "total_of"=some (.ref d.w7b)
 wem:qao K d.w6i ["many"] []
 wby:Fun K "divisor" "divisor" jb7 d.w9c d.w7s
 wfz:mg "divisor"=some (.ref d.w9c)
 wg2:qao K d.w7s ["one","other"] []
 w37:Fun K "fraction" "fraction" jbn d.w7v d.w6c
 w42:mg "fraction"=some (.ref d.w7v)
 w41:qao K d.w6c ["top","bottom"] []
 whk:Fun K "plus" "plus" jiq d.wfl d.wdy
 wj1:mg "plus"=some (.ref d.wfl)
 wiz:qao K d.wdy ["one","other"] []
 wfu:Fun K "minus" "minus" jel d.wdm d.wb7
 wi9:mg "minus"=some (.ref d.wdm)
 wim:qao K d.wb7 ["one","other"] []
 wcy:Fun K "times" "times" jem d.wcp d.wb2
 wfd:mg "times"=some (.ref d.wcp)
 wfw:qao K d.wb2 ["one","other"] []
 w9y:Fun K "divided" "divided" jb8 d.w9a d.w7g
 wc1:mg "divided"=some (.ref d.w9a)
 wck:qao K d.w7g ["one","other"] []
 w68:Fun K "below" "below" jen d.wdo d.wb5
 w85:mg "below"=some (.ref d.wdo)
 w7w:qao K d.wb5 ["one","other"] []
 w58:Fun K "weights_of" "weights_of" ja3 d.w56 d.w4i
 w8j:mg "weights_of"=some (.ref d.w56)
 w8d:qao K d.w4i ["tree","wants","weigh"] []
 waq:Fun K "loads_of" "loads_of" jbo d.w7e d.w6m
 wf5:mg "loads_of"=some (.ref d.w7e)
 wf2:qao K d.w6m ["tree","weights","waiting"] []
 wam:Fun K "least_of" "least_of" jbp d.w84 d.w6r
 wf3:mg "least_of"=some (.ref d.w84)
 wet:qao K d.w6r ["many"] []
 w94:Fun K "rounds_by" "rounds_by" jbd d.w6u d.w54
 we0:mg "rounds_by"=some (.ref d.w6u)
 wdl:qao K d.w54 ["tree","rooms","wants","weights"] []
 whi:My.FunD K "even" "even" jce d.wfm d.waw d.wj2 (List.toArray [d.w5d])
 wit:mg "even"=some (.ref d.wfm)
 wiw:qao K d.waw ["tree","rooms","wants","weigh"] []
 wjd:qao K d.waw ["tree","rooms","wants","weigh"] [d.w5d]
 wj8:qbl [.non] [d.w5d]
 war:Fun K "is_share" "is_share" jbq d.w7c d.w63
 wf1:mg "is_share"=some (.ref d.w7c)
 wez:qao K d.w63 ["share","want"] []
 waj:Fun K "is_paper" "is_paper" jbr d.w7u d.w61
 wev:mg "is_paper"=some (.ref d.w7u)
 wf4:qao K d.w61 ["sums","row","want"] []
 w9k:My.FunD K "is_even" "is_even" jaz d.w97 d.w5o d.wfx (List.toArray [d.w27])
 wbu:mg "is_even"=some (.ref d.w97)
 wbx:qao K d.w5o ["tree","rooms","wants","dealt","weigh"] []
 wiq:qao K d.w5o ["tree","rooms","wants","dealt","weigh"] [d.w27]
 wir:qbl [.non] [d.w27]
 w9r:Fun K "are_wares" "are_wares" jbe d.w6s d.w4t
 wd1:mg "are_wares"=some (.ref d.w6s)
 wcx:qao K d.w4t ["thing"] []
 w53:Fun K "check_name" "check_name" ja4 d.w5k d.w4o
 w86:mg "check_name"=some (.ref d.w5k)
 w88:qao K d.w4o ["thing"] []
 w57:Fun K "read_house" "read_house" ja5 d.w5a d.w4n
 w8f:mg "read_house"=some (.ref d.w5a)
 w8i:qao K d.w4n ["wares","elder","promise","cap","weight"] []
 w1t:Fun K "check_promises" "check_promises" jal d.w2z d.w2k
 w31:mg "check_promises"=some (.ref d.w2z)
 w32:qao K d.w2k ["name","promises","cap"] []
 w2q:Fun K "_law_cell_at" "_law_cell_at" jb9 d.w96 d.w7n
 w3g:mg "_law_cell_at"=some (.ref d.w96)
 w3j:qao K d.w7n ["_law_script","_law_k"] []
 wav:Fun K "_law_mixed" "_law_mixed" jeo d.we5 d.waz
 wdg:mg "_law_mixed"=some (.ref d.we5)
 we2:qao K d.waz ["_law_cell","_law_k"] []
 wfc:Fun K "_law_name" "_law_name" jir d.wfg d.wcv
 whn:mg "_law_name"=some (.ref d.wfg)
 whq:qao K d.wcv ["_law_cell","_law_k"] []
 wdc:Fun K "_law_whole" "_law_whole" jep d.wcr d.wbg
 wfv:mg "_law_whole"=some (.ref d.wcr)
 wfi:qao K d.wbg ["_law_found"] []
 wha:Fun K "_law_want" "_law_want" jis d.wfn d.wdp
 wiv:mg "_law_want"=some (.ref d.wfn)
 wj4:qao K d.wdp ["_law_number","_law_scale"] []
 whs:Fun K "_law_room" "_law_room" jit d.wg0 d.wdi
 wiy:mg "_law_room"=some (.ref d.wg0)
 wj0:qao K d.wdi ["_law_number","_law_scale"] []
 wcm:Fun K "_law_sharing" "_law_sharing" jca d.w9f d.w7k
 wgo:mg "_law_sharing"=some (.ref d.w9f)
 wft:qao K d.w7k ["_law_script","_law_count"] []
 wge:Fun K "_law_tree" "_law_tree" jiu d.wfe d.we4
 whf:mg "_law_tree"=some (.ref d.wfe)
 whp:qao K d.we4 ["_law_script","_law_sharing_here"] []
 wej:Fun K "_law_line" "_law_line" jiv d.wg7 d.wdu
 wfj:mg "_law_line"=some (.ref d.wg7)
 wgd:qao K d.wdu ["_law_elders","_law_k"] []
 w8z:Fun K "_law_inside" "_law_inside" jch d.wbm d.w9q
 wax:mg "_law_inside"=some (.ref d.wbm)
 wb8:qao K d.w9q ["_law_sharing_here","_law_at"] []
 w5s:Fun K "_law_together" "_law_together" jbs d.w7r d.w66
 w7y:mg "_law_together"=some (.ref d.w7r)
 w7p:qao K d.w66 ["_law_shares","_law_some"] []
 w9u:Fun K "_law_less" "_law_less" jiw d.wg3 d.wdv
 wan:mg "_law_less"=some (.ref d.wg3)
 wag:qao K d.wdv ["_law_one","_law_other"] []
 wca:Fun K "_law_weigher" "_law_weigher" ja6 d.w75 d.w5p
 wbs:mg "_law_weigher"=some (.ref d.w75)
 wgj:qao K d.w5p ["_law_table"] []
 wg5:Fun K "_law_asked" "_law_asked" jeq d.wdq d.wbb
 wib:mg "_law_asked"=some (.ref d.wdq)
 wi4:qao K d.wbb ["_law_script","_law_sharing_here"] []
 w6v:Fun K "_law_divisor" "_law_divisor" jbf d.w62 d.w5g
 w98:mg "_law_divisor"=some (.ref d.w62)
 w93:qao K d.w5g ["_law_one","_law_other"] []
 w70:Fun K "_law_is_fraction" "_law_is_fraction" ja1 d.w4b d.w3s
 wb3:mg "_law_is_fraction"=some (.ref d.w4b)
 wba:qao K d.w3s ["_law_found"] []
 wao:Fun K "_law_is_dealt" "_law_is_dealt" jbt d.w7q d.w65
 wf0:mg "_law_is_dealt"=some (.ref d.w7q)
 wen:qao K d.w65 ["_law_found","_law_wants"] []
 wgl:Fun K "_law_ends" "_law_ends" jix d.wfp d.wdd
 whg:mg "_law_ends"=some (.ref d.wfp)
 whb:qao K d.wdd ["_law_sharing_here","_law_shares","_law_name_here","_law_at"] []
 wb4:Fun K "_law_let_by" "_law_let_by" jci d.wbl d.w9e
 we9:mg "_law_let_by"=some (.ref d.wbl)
 wed:qao K d.w9e ["_law_sharing_here","_law_dealt"] []
 w5t:Fun K "_law_lowest" "_law_lowest" jcj d.wbn d.wa3
 w6y:mg "_law_lowest"=some (.ref d.wbn)
 w6w:qao K d.wa3 ["_law_top","_law_bottom"] []
 wff:Fun K "_law_part" "_law_part" jiy d.wfk d.wd0
 whe:mg "_law_part"=some (.ref d.wfk)
 wht:qao K d.wd0 ["_law_share","_law_number"] []
 wgw:Fun K "_law_sum" "_law_sum" jnz d.wih d.wgb
 wi8:mg "_law_sum"=some (.ref d.wih)
 whv:qao K d.wgb ["_law_one","_law_other","_law_sign"] []
 weh:Fun K "_law_filled" "_law_filled" jck d.wb0 d.w9p
 wgt:mg "_law_filled"=some (.ref d.wb0)
 wh0:qao K d.w9p ["_law_sharing_here","_law_shares","_law_one"] []
 wai:Fun K "_law_levelled" "_law_levelled" jbu d.w7f d.w64
 wel:mg "_law_levelled"=some (.ref d.w7f)
 weq:qao K d.w64 ["_law_sharing_here","_law_shares","_law_one"] []
 wc4:Fun K "_law_changed" "_law_changed" jcb d.w90 d.w7t
 wga:mg "_law_changed"=some (.ref d.w90)
 wg4:qao K d.w7t ["_law_sharing_here","_law_shares","_law_cell"] []
 wg1:Fun K "_law_paper" "_law_paper" jer d.wd3 d.wb9
 wia:mg "_law_paper"=some (.ref d.wd3)
 whx:qao K d.wb9 ["_law_sharing_here","_law_shares","_law_name_here","_law_old","_law_number"] []
 wj9:Fun K "law" "law" jn0 d.wcw d.wc8
 wje:mg "law"=some (.ref d.wcw)
 wbr:Fun K "__init__" "House.__init__" ja7 d.w4u d.w47
 wc2:qao K d.w47 ["self","elder","promise","cap","weight"] []
 wdk:My.FunD K "__init__" "Tree.__init__" jai d.w6q d.w3p d.wdn (List.toArray [d.w19])
 wd7:qao K d.w3p ["self","wares","name","promise","cap","weight"] []
 whl:qao K d.w3p ["self","wares","name","promise","cap","weight"] [d.w19]
 whh:qbl [.int 1] [d.w19]
 wbv:My.FunD K "found" "Tree.found" jag d.w5b d.w35 d.wce (List.toArray [d.w0q])
 wcc:qao K d.w35 ["self","name","elder","promise","cap","weight"] []
 wh5:qao K d.w35 ["self","name","elder","promise","cap","weight"] [d.w0q]
 wgq:qbl [.int 1] [d.w0q]
 whm:Fun K "wares" "Tree.wares" jbz d.w89 d.w6z
 whu:qao K d.w6z ["self"] []
 whd:Fun K "names" "Tree.names" jb0 d.w8g d.w72
 whr:qao K d.w72 ["self"] []
 wf7:Fun K "has" "Tree.has" jbv d.w7z d.w6o
 wal:qao K d.w6o ["self","thing"] []
 w71:Fun K "check_house" "Tree.check_house" jah d.w2c d.w21
 w29:qao K d.w21 ["self","thing"] []
 w95:Fun K "house_of" "Tree.house_of" jap d.w3h d.w2x
 w50:qao K d.w2x ["self","name"] []
 w9i:Fun K "elder_of" "Tree.elder_of" jaq d.w3b d.w2w
 w5c:qao K d.w2w ["self","name"] []
 w8l:Fun K "weight_of" "Tree.weight_of" jam d.w30 d.w2l
 w8t:qao K d.w2l ["self","name"] []
 we1:Fun K "kids" "Tree.kids" jbg d.w6l d.w52
 wds:qao K d.w52 ["self","name"] []
 wcq:Fun K "line" "Tree.line" jbh d.w6g d.w5l
 w2i:qao K d.w5l ["self","name"] []
 waf:Fun K "beneath" "Tree.beneath" jax d.w1l d.w0u
 w60:qao K d.w0u ["self","name"] []
 w4d:Fun K "promised_beneath" "Tree.promised_beneath" jad d.w1c d.w0y
 w4g:qao K d.w0y ["self","name"] []
 w7h:Fun K "check_more" "Tree.check_more" jaj d.w2h d.w2a
 w80:qao K d.w2a ["self","names","more"] []
 wac:Fun K "__init__" "Dealing.__init__" jay d.w3t d.w3c
 wa8:qao K d.w3c ["self","tree","rooms","wants","weights"] []
 wa4:Fun K "fills" "Dealing.fills" jar d.w39 d.w2y
 w9h:qao K d.w2y ["self"] []
 w9x:Fun K "ready" "Dealing.ready" jas d.w3f d.w2t
 w9w:qao K d.w2t ["self","level","fills"] []
 w8m:Fun K "settle" "Dealing.settle" jan d.w2v d.w2j
 w8o:qao K d.w2j ["self","level","names"] []
 w5x:Fun K "next_round" "Dealing.next_round" jae d.w1q d.w1m
 w5u:qao K d.w1m ["self"] []
 we8:Fun K "__init__" "Sums.__init__" jbi d.w6p d.w4x
 w91:qao K d.w4x ["self","tree","rooms","shares","weights"] []
 w6n:Fun K "within_rooms" "Sums.within_rooms" jaf d.w20 d.w1p
 w69:qao K d.w1p ["self"] []
 w9t:Fun K "stops_of" "Sums.stops_of" jat d.w3i d.w2s
 w4w:qao K d.w2s ["self","name"] []
 wie:mg "House"=some (.ref d.w06)
 wj3:mg "Tree"=some (.ref d.w01)
 wgi:mg "Dealing"=some (.ref d.w00)
 whj:mg "Sums"=some (.ref d.w02)
 wij:mg "TreeError"=some (.ref d.w46)
 wj5:mg "NoName"=some (.ref d.w8x)
 wja:mg "Taken"=some (.ref d.wb1)
 wfr:mg "NoHouse"=some (.ref d.w0k)
 wik:mg "NoPromise"=some (.ref d.w4a)
 wj6:mg "NoWare"=some (.ref d.w8y)
 wip:mg "NoAmount"=some (.ref d.w5r)
 wio:mg "NoNumber"=some (.ref d.w5m)
 wix:mg "TooMany"=some (.ref d.w7a)
 wiu:mg "TooDeep"=some (.ref d.w6x)
 wfb:mg "LETTERS"=some d.w3w
 w51:qbg (.str "abcdefghijklmnopqrstuvwxyz") d.w3w
 wae:mg "LONGEST_NAME"=some d.w1k
 w1s:qbg (.int 8) d.w1k
 wcg:mg "MOST_WARES"=some d.w26
 w2r:qbg (.int 6) d.w26
 wbe:mg "MOST_HOUSES"=some d.w1o
 w28:qbg (.int 40) d.w1o
 wab:mg "LONGEST_LINE"=some d.w1i
 w1r:qbg (.int 12) d.w1i
 w83:mg "GREATEST_WEIGHT"=some d.w0j
 w0v:qbg (.int 1000) d.w0j
 whw:mg "abs"=none
 wgu:mg "all"=none
 wj7:mg "any"=none
 wfq:mg "bool"=none
 w5y:mg "dict"=none
 wi6:mg "int"=none
 w07:mg "isinstance"=none
 w45:mg "len"=none
 wec:mg "list"=none
 w6b:mg "range"=none
 wjc:mg "set"=none
 w2n:mg "sorted"=none
 wh1:mg "str"=none
 wgn:mg "tuple"=none
 wjb:mg "zip"=none
 w0f:Cls K d.w00
 w2f:Cls K d.w02
 w3x:Mk K d.w00 d.w3t
 w7j:Mk K d.w02 d.w6p
 w1h:jav K d.w00 "fills" d.w39
 w1g:jav K d.w00 "ready" d.w3f
 w0x:jav K d.w00 "settle" d.w2v
 w0d:jav K d.w00 "next_round" d.w1q
 w0n:jav K d.w02 "stops_of" d.w3i
 w0h:jav K d.w02 "within_rooms" d.w20
 w0e:wD K (.ref d.w00) "tree"=some none
 w0a:wD K (.ref d.w00) "weights"=some none
 w04:wD K (.ref d.w00) "waiting"=some none
 w0l:wD K (.ref d.w00) "left"=some none
 w0g:wD K (.ref d.w00) "goals"=some none
 w23:wD K (.ref d.w02) "tree"=some none
 w1d:wD K (.ref d.w02) "rooms"=some none
 w1j:wD K (.ref d.w02) "levels"=some none
 w0s:wD K (.ref d.w02) "totals"=some none
 w25:wD K (.ref d.w02) "tops"=some none
 w1v:Cls K d.w06
 w03:Cls K d.w01
 w73:Mk K d.w06 d.w4u
 w9n:Mk K d.w01 d.w6q
 w2b:jav K d.w01 "found" d.w5b
 w33:jav K d.w01 "wares" d.w89
 w36:jav K d.w01 "names" d.w8g
 w2m:jav K d.w01 "has" d.w7z
 w08:jav K d.w01 "check_house" d.w2c
 w0m:jav K d.w01 "house_of" d.w3h
 w0o:jav K d.w01 "elder_of" d.w3b
 w0z:jav K d.w01 "weight_of" d.w30
 w2p:jav K d.w01 "kids" d.w6l
 w0i:jav K d.w01 "line" d.w6g
 w17:jav K d.w01 "beneath" d.w1l
 w09:jav K d.w01 "promised_beneath" d.w1c
 w0r:jav K d.w01 "check_more" d.w2h
 w0t:wD K (.ref d.w06) "elder"=some none
 w0c:wD K (.ref d.w06) "promise"=some none
 w1a:wD K (.ref d.w06) "cap"=some none
 w18:wD K (.ref d.w06) "weight"=some none
 w0b:wD K (.ref d.w01) "sorted_wares"=some none
 w05:wD K (.ref d.w01) "houses"=some none
 wfh:My.XCls K d.w0k
noncomputable def eV:Option Str->V
 |none=> .non
 |some z=> .str z
structure Ho where
 el:Option Str
 pa:Addr
 kp:List (Key×V)
 fp:Str->Option Int
 ca:Addr
 kc:List (Key×V)
 fc:Str->Option Int
 w:Int
structure He where
 n:Str
 a:Addr
 x:Ho
structure Ts where
 sw:Addr
 ws:List Str
 hs:Addr
 hl:List He
noncomputable def fsH(x:Ho):List (Str×V):=[("elder",eV x.el),("promise",.ref x.pa),("cap",.ref x.ca),("weight",.int x.w)]
def jl4(d:Ad)(H:Hp)(a:Addr)(x:Ho):Prop:=(∃dx,H a=some (.ins d.w06 dx (fsH x)))/\H x.pa=some (.dK x.kp)/\AD x.kp x.fp/\H x.ca=some (.dK x.kc)/\AD x.kc x.fc
def jl4.same{d:Ad}{H H':Hp}{a:Addr}{x:Ho}(h:jl4 d H a x)(s:jab H H'):jl4 d H' a x:=⟨let ⟨dx,e⟩:=h.1;⟨dx,s _ _ e⟩,s _ _ h.2.1,h.2.2.1,s _ _ h.2.2.2.1,h.2.2.2.2⟩
noncomputable def Ts.keys(S:Ts):List (Str×Addr):=S.hl.map fun e=>(e.n,e.a)
noncomputable def Ts.at(S:Ts)(z:Str):Option He:=S.hl.find? fun e=>decide (e.n=z)
noncomputable def fsT(S:Ts):List (Str×V):=[("sorted_wares",.ref S.sw),("houses",.ref S.hs)]
def qf4(d:Ad)(H:Hp)(t:Addr)(S:Ts):Prop:=(∃dx,H t=some (.ins d.w01 dx (fsT S)))/\H S.sw=some (.lst (S.ws.map V.str))/\H S.hs=some (.dK (oK S.keys))/\(S.hl.map (·.n)).Nodup/\S.hl.length<=60/\∀e∈S.hl,jl4 d H e.a e.x
theorem qf4.same{d:Ad}{H H':Hp}{t:Addr}{S:Ts}(h:qf4 d H t S)(s:jab H H'):qf4 d H' t S:=
 ⟨let ⟨dx,e⟩:=h.1;⟨dx,s _ _ e⟩,s _ _ h.2.1,s _ _ h.2.2.1,h.2.2.2.1,h.2.2.2.2.1,fun e he=>(h.2.2.2.2.2 e he).same s⟩
theorem qe4(S:Ts)(z:Str):qdj S.keys z=(S.at z).map (·.a):=by
 obtain⟨sw,ws,hs,hl⟩:=S;unfold Ts.keys Ts.at;dsimp only
 induction hl with
 |nil=>rfl
 |cons e r ih=>
  rw[zV,yH];unfold qdj;by_cases q:e.n=z
  .rw[gL q,gM q];rfl
  .rw[gK q,gO q];exact ih
def qd7(h:S.at z=some e):e∈S.hl/\e.n=z:=⟨List.mem_of_find?_eq_some h,by have:=List.find?_some h;simpa using this⟩
def jww(K:uX)(H:Hp)(x:V):Prop:=∃t,jby K H x t/\bV K t (.type "str")=some false
def qev(K:uX)(H:Hp)(x:V):Prop:=(∃z,x=.str z)\/(jww K H x/\∀z,x≠ .str z)
noncomputable def who(S:Ts):V->Option He
 | .str z=>S.at z
 |_=>none
theorem qde{x:V}(h:∀z,x≠ .str z):who S x=none:=by
 cases x<;>first|rfl|(rename_i z;exact absurd rfl (h z))
def wde(K:uX)(d:Ad):Sp:=fun vs H Q _=>∃(t:Addr)(S:Ts)(x:V),vs=[.ref t,x]/\qf4 d H t S/\qev K H x/\Q (.bl (who S x).isSome) H
def w67(K:uX)(d:Ad):Sp:=fun vs H Q E=>∃(t:Addr)(S:Ts)(x:V),vs=[.ref t,x]/\qf4 d H t S/\qev K H x/\(∀e,who S x=some e->Q .non H)/\(who S x=none->E (.ref d.w0k) none H)
def w8r(K:uX)(d:Ad):Sp:=fun vs H Q E=>∃(t:Addr)(S:Ts)(x:V),vs=[.ref t,x]/\qf4 d H t S/\qev K H x/\(∀e,who S x=some e->Q (.ref e.a) H)/\(who S x=none->E (.ref d.w0k) none H)
def w8q(K:uX)(d:Ad):Sp:=fun vs H Q E=>∃(t:Addr)(S:Ts)(x:V),vs=[.ref t,x]/\qf4 d H t S/\qev K H x/\(∀e,who S x=some e->Q (eV e.x.el) H)/\(who S x=none->E (.ref d.w0k) none H)
def w82(K:uX)(d:Ad):Sp:=fun vs H Q E=>∃(t:Addr)(S:Ts)(x:V),vs=[.ref t,x]/\qf4 d H t S/\qev K H x/\(∀e,who S x=some e->Q (.int e.x.w) H)/\(who S x=none->E (.ref d.w0k) none H)
def jn1{a:Str}(h:Q (.bl true) H):jj9 (.str a) .non H Q:=⟨rfl,h⟩
theorem jby.same{K:uX}{H H':Hp}{x:V}{t:uB}(h:jby K H x t)(s:jab H H'):jby K H' x t:=by
 cases h with
 |non=>exact .non
 |bl b=>exact .bl b
 |int i=>exact .int i
 |str z=>exact .str z
 |flt z=>exact .flt z
 |lst e=>exact .lst (s _ _ e)
 |frz e=>exact .frz (s _ _ e)
 |tup e=>exact .tup (s _ _ e)
 |dK e=>exact .dK (s _ _ e)
 |dT e=>exact .dT (s _ _ e)
 |ins e c a n k m=>exact .ins (s _ _ e) c a n k m
theorem qev.same{K:uX}{H H':Hp}{x:V}(h:qev K H x)(s:jab H H'):qev K H' x:=by
 rcases h with h|⟨⟨t,a,b⟩,n⟩
 .exact .inl h
 .exact .inr ⟨⟨t,jby.same a s,b⟩,n⟩
inductive jau(S:Ts):Str->List Str->Prop
 |top{z:Str}{e:He}(h:S.at z=some e)(n:e.x.el=none):jau S z [z]
 |up{z y:Str}{e:He}{zs:List Str}(h:S.at z=some e)(n:e.x.el=some y)(r:jau S y zs):jau S z (z::zs)
noncomputable def jl5(S:Ts):Option Str->List Str->Prop
 |none,zs=>zs=[]
 |some y,zs=>jau S y zs
theorem jau.open{zs:List Str}(h:jau S z zs):∃e r,S.at z=some e/\zs=z::r/\jl5 S e.x.el r:=by
 cases h with
 |top h n=>exact⟨_,[],h,rfl,by rw[n];rfl⟩
 |up h n r=>exact⟨_,_,h,rfl,by rw[n];exact r⟩
noncomputable def jes(l:Addr)(H:Hp):Nat:=match H l with
 |some (.lst xs)=>xs.length
 |_=>0
theorem qfb{xs:List V}(e:H l=some (.lst xs)):jes l H=xs.length:=by unfold jes;rw[e]
def wc9(K:uX)(d:Ad):Sp:=fun vs H Q E=>∃(t:Addr)(S:Ts)(x:V),vs=[.ref t,x]/\qf4 d H t S/\
 ((∃z zs,x=.str z/\jau S z zs/\zs.length<=1000/\∀l,H l=none->Q (.ref l) (upd H l (.lst (zs.map V.str))))\/(qev K H x/\who S x=none/\∀l,H l=none->E (.ref d.w0k) none (upd H l (.lst [x]))))
noncomputable def qbs(S:Ts)(z:Str):List Str:=(S.hl.filter fun e=>decide (e.x.el=some z)).map (·.n)
def wbw(K:uX)(d:Ad):Sp:=fun vs H Q E=>∃(t:Addr)(S:Ts)(x:V),vs=[.ref t,x]/\qf4 d H t S/\qev K H x/\(∀e,who S x=some e->∀l ss H',jab H H'->H l=none->H' l=some (.lst (ss.map V.str))->ss.Perm (qbs S e.n)->vX ss=true->Q (.ref l) H')/\(who S x=none->E (.ref d.w0k) none H)
inductive jb1(K:uX)(d:Ad)(vs:List V)(H:Hp)(Q:VK)(E:XK):Prop
 |mk(a:Addr)(kvs:List (Key×V))(f:Str->Option Int)(z:Str)(_:vs=[.ref a,.str z])(_:Rd H a (.dK kvs))(_:AD kvs f)(_:Q (.int (gN f z)) H)
def w9j(K:uX)(d:Ad):Sp:=fun vs H Q _=>∃(a:Addr)(kvs:List (Key×V))(f:Str->Option Int),vs=[.ref a]/\H a=some (.dK kvs)/\AD kvs f/\kvs.length<=1000/\
 ∀l k' H',jab H H'->H l=none->H' l=some (.dK k')->AD k' (qdh f)->Q (.ref l) H'
inductive jkv(K:uX)(d:Ad)(vs:List V)(H:Hp)(Q:VK)(E:XK):Prop
 |mk(a b:Addr)(ka kb:List (Key×V))(f g:Str->Option Int)(_:vs=[.ref a,.ref b])(_:Rd H a (.dK ka))(_:H b=some (.dK kb))(_:AD ka f)(_:AD kb g)(_:ka.length<=1000)(_:kb.length<=1000)(_:∀l k' H',jab H H'->H l=none->H' l=some (.dK k')->AD k' (qgy f g)->Q (.ref l) H')
inductive jiz(K:uX)(d:Ad)(vs:List V)(H:Hp)(Q:VK)(E:XK):Prop
 |mk(a b:Addr)(ka kb:List (Key×V))(f g:Str->Option Int)(_:vs=[.ref a,.ref b])(_:Rd H a (.dK ka))(_:Rd H b (.dK kb))(_:AD ka f)(_:AD kb g)(_:ka.length<64)(_:(∀H',jab H H'->(∀y,¬viol f g y)->Q .non H'))(_:∀z H',jab H H'->viol f g z->(∀y,viol f g y->leS z y)->Q (.str z) H')
structure Pt where
 a:Addr
 k:List (Key×V)
 f:Str->Option Int
noncomputable def ji0(ts:List Pt):Str->Option Int:=ts.foldl (fun f t=>qgy f t.f) noF
def jwx(H:Hp)(ws:List Str)(t:Pt):Prop:=H t.a=some (.dK t.k)/\AD t.k t.f/\∀z,t.f z≠none->z∈ws
def we3(K:uX)(d:Ad):Sp:=fun vs H Q _=>∃(L:Addr)(ts:List Pt)(ws:List Str),vs=[.ref L]/\SqL K H L (ts.map fun t=> .ref t.a)/\ws.length<=100/\(∀t∈ts,jwx H ws t)/\
 ∀l k' H',jab H H'->H l=none->H' l=some (.dK k')->AD k' (ji0 ts)->Q (.ref l) H'
section
variable{K:uX}{d:Ad}{H:Hp}{Q:VK}{E:XK}
def jkw{kvs:List (Key×V)}(hR:Rd H a (.dK kvs))(hA:AD kvs f)(q:Q (.int (gN f z)) H):jb1 K d [.ref a,.str z] H Q E:=⟨a,kvs,f,z,rfl,hR,hA,q⟩
end
local macro_rules | `(tactic| walk_at "kit") => `(tactic| (with_reducible (first
 |assumption|exact jd6|exact jc7|exact qgq
 |exact jd7|exact jd8|exact jd9|exact jea)))
local macro_rules | `(tactic| walk_at "ty") => `(tactic| (first
 |(with_reducible assumption) |(with_reducible exact jby.int _) |(with_reducible exact jby.bl _) |(with_reducible exact jby.str _)
 |(with_reducible exact jby.non) |((with_reducible refine' jby.tup ?h);(case h=>walk_at "heap")) |((with_reducible refine' jby.lst ?h);(case h=>walk_at "heap")) |((with_reducible refine' jby.dK ?h);(case h=>walk_at "heap"))))
local macro_rules | `(tactic| walk_at "heap") => `(tactic| first
 |with_reducible assumption|with_reducible exact qa1|((with_reducible refine' qaa ?h ?n);(case n=>with_reducible assumption);(case h=>walk_at "heap")))
local macro_rules | `(tactic| walk_at "sqL") => `(tactic| first
 |with_reducible assumption|((with_reducible refine' jeb ?h ?n);(case n=>with_reducible assumption);(case h=>walk_at "sqL")) |((with_reducible refine' SqL.of ?h);(case h=>walk_at "heap")))
local macro_rules | `(tactic| walk_at "sqT") => `(tactic| first
 |with_reducible assumption|((with_reducible refine' SqT.of ?h);(case h=>walk_at "heap")))
local macro_rules | `(tactic| walk_at "side") => `(tactic| first
 |assumption|exact rfl|omega|decide
 |(simp only[zR,yK,zB];omega) |exact⟨↑∅,↑∅⟩|exact⟨∅,∅⟩|exact⟨↑∅,by assumption⟩
 |exact⟨by assumption,by assumption⟩|exact⟨∅,by assumption⟩|exact⟨∅,∅,∅⟩)
local macro_rules | `(tactic| walk_at "size") => `(tactic| (first
 |assumption|(simp only[zR,yK,zB,zS];first|decide|(show _<=16777216;omega) |(show _<16777216;omega)) |(show _<=16777216;omega) |(show _<16777216;omega)))
local macro_rules | `(tactic| walk_at "sp") => `(tactic| fail)
local macro_rules | `(tactic| walk_at "r1") => `(tactic| first
 |(with_reducible refine jsq (by with_unfolding_all exact rfl) ?_) |(with_reducible first|refine r_c ?_|refine jvz ?_|refine jv0 ?_|refine jv1 ?_|refine r_U ?_) |((with_reducible refine r_I ?hc ?_);(case hc=>walk_at "side")) |(with_reducible first|refine jsr ?_|refine jss ?_|refine jst ?_|refine jsu ?_|refine jpr ?_|refine jv2 ?_|refine jsv ?_|refine jv3 ?_|refine jsw ?_|refine jps ?_|refine jpt ?_|refine jsx ?_|refine jpu ?_|refine jsy ?_|refine jpv ?_|refine jsz ?_|refine jv4 ?_|refine js0 ?_)
 |(with_reducible refine jpw (by with_unfolding_all (simp only [List.set];exact rfl)) ?_) |(with_reducible first|refine jpx ?_|refine jm5 ?_) |((with_reducible refine' jpy ?s ?n ?_);(case s=>walk_at "sqT");(case n=>exact rfl)) |(with_reducible first|refine js9 ?_|refine jv8 ?_|refine jv9 ?_)
 |((with_reducible refine' jta ?s ?_);(case s=>walk_at "sqL")) |((with_reducible refine' jtb ?s ?t ?_);(case s=>walk_at "side");(case t=>walk_at "side")) |(with_reducible first|refine js1 ?_|refine js2 ?_|refine jv5 ?_|refine jv6 ?_|refine js3 ?_|refine jpz ?_|refine js4 ?_|refine js5 ?_) |((with_reducible refine js6 ?n ?_);(case n=>(simp only [zR,yK];decide)))
 |((with_reducible refine jm8 ?_);intro p hp) |(with_reducible first|refine jp0 ?_|refine jm6 ?_|refine jv7 ?_|refine jm7 ?_) |((with_reducible refine' js7 ?s ?e ?_);(case s=>walk_at "sqT");(case e=>exact rfl)) |(with_reducible first|refine jqm ?_|refine jqn ?_|refine jwf ?_|refine jth ?_|refine jtg ?_)
 |((with_reducible refine' jti ?a ?z ?_);(case a=>walk_at "heap");(case z=>walk_at "size")) |((with_reducible refine' jlq ?z ?_);(case z=>walk_at "size")) |((with_reducible refine' jqk ?z ?_);(case z=>walk_at "size")) |(with_reducible first|refine jwe ?_|refine jqj ?_|refine jtf ?_|refine jng ?_)
 |((with_reducible refine' jp1 ?s ?_);(case s=>walk_at "sqT")) |((with_reducible refine' jll ?s ?_);(case s=>walk_at "sqL")) |(with_reducible first|refine js8 ?_|refine jp2 ?_|refine jp3 ?_|refine jp4 ?_|refine jm9 ?_|refine jna ?_|refine jp5 ?_) |((with_reducible refine' jsp ?t ?k ?_);(case t=>walk_at "ty");(case k=>walk_at "kit"))
 |(with_reducible first|refine jwb ?_|refine jwc ?_|refine jr9 ?_|refine jsk ?_) |((with_reducible refine i_t ?c ?_);(case c=>walk_at "side")) |((with_reducible refine i_f ?c ?_);(case c=>walk_at "side")) |((with_reducible refine ju8 ?c ?_);(case c=>walk_at "side"))
 |((with_reducible refine ju9 ?c ?_);(case c=>walk_at "side")) |walk_at "sp")
local macro_rules | `(tactic| walk_at "g") => `(tactic| repeat walk_at "r1")
local macro_rules|`(tactic|left)=>`(tactic|walk_at "g")
local macro_rules|`(~~~$x)=>`(qam qak (pv $x) qa5 fun _ _=>rfl)
set_option hygiene false in
local macro_rules|`($x|||$y)=>`(qah (qap hr) $x $y fun _ _=>rfl)
local macro_rules|`(#[()])=>`(⟨rfl,rfl,rfl,by decide+kernel,rfl,by decide+kernel,by decide+kernel⟩)|`(#[])=>`(by omega)|`(#[$x])=>`(qa0 $x qa3)|`(#[$x,$y,*])=>`(qa0 $x #[$y,*])
set_option hygiene false in
local macro_rules|`(tactic|exists $x)=>`(tactic|refine $x (fun vs H Q E h=>?_) (fun cdv A outer s H vs Q E hr h=>?_))|`(tactic|exists $x,$y)=>`(tactic|(refine⟨_,$x,?_⟩;walk_at "d";refine qad (σ:=$y) rfl ?_))
set_option hygiene false in
local macro_rules|`(tactic|right)=>`(tactic|first|(obtain⟨_,rfl,_⟩:=h;rfl)|(obtain⟨_,_,rfl,_⟩:=h;rfl)|(obtain⟨_,_,_,rfl,_⟩:=h;rfl)|(obtain⟨_,_,_,_,rfl,_⟩:=h;rfl)|(obtain⟨_,_,_,_,_,rfl,_⟩:=h;rfl)|(obtain⟨_,_,_,_,_,_,rfl,_⟩:=h;rfl)|(obtain⟨_,_,_,_,_,_,_,rfl,_⟩:=h;rfl)|(obtain⟨_,_,_,_,_,_,_,_,_,rfl,_⟩:=h;rfl)|(obtain⟨_,_,_,_,_,_,_,_,_,_,rfl,_⟩:=h;rfl)|(obtain⟨_,_,_,_,_,_,_,_,_,_,_,rfl,_⟩:=h;rfl)|(obtain⟨_,_,_,_,_,_,_,_,_,_,_,_,rfl,_⟩:=h;rfl)|(obtain⟨_,_,_,_,_,_,_,_,_,_,_,_,_,rfl,_⟩:=h;rfl)|(obtain⟨_,_,_,_,_,_,_,_,_,_,_,_,_,_,rfl,_⟩:=h;rfl)|(obtain⟨_,_,_,_,_,_,_,_,_,_,_,_,_,_,_,rfl,_⟩:=h;rfl)|(obtain⟨_,_,_,_,_,_,_,_,_,_,_,_,_,_,_,_,rfl,_⟩:=h;rfl)|(obtain⟨_,_,_,_,_,_,_,_,_,_,_,_,_,_,_,_,_,rfl,_⟩:=h;rfl)|(obtain⟨_,_,_,_,_,_,_,_,_,_,_,_,_,_,_,_,_,_,rfl,_⟩:=h;rfl))
local macro_rules | `(tactic| walk_at "d") => `(tactic| try dsimp only [L2.cxOf, L2.Cx.nox, L2.Cx.wish, My.xw, pnd, suite])
local macro_rules | `(tactic| walk_at "rd") => `(tactic| first
 |with_reducible assumption|((with_reducible refine' jdf ?h ?n);(case n=>with_reducible assumption);(case h=>walk_at "rd")) |((with_reducible refine' Rd.of ?h);(case h=>walk_at "heap")))
local macro_rules | `(tactic| walk_at "same") => `(tactic| first
 |with_reducible assumption|exact jab.refl _|((with_reducible refine' jfh ?h ?n);(case n=>with_reducible assumption);(case h=>walk_at "same")))
local macro_rules | `(tactic| walk_at "sp") => `(tactic| first
 |((with_reducible refine jno ?_);intro p hp) |((with_reducible refine' jwt ?e ?_);(case e=>walk_at "heap")) |((with_reducible refine' jq6 ?s ?n ?_);(case s=>walk_at "sqL");(case n=>exact rfl)) |((with_reducible refine' jkw ?r ?a ?_);(case r=>walk_at "rd");(case a=>with_reducible assumption))
 |(with_reducible first|refine jqp ?_|refine jtv ?_) |((with_reducible refine' qcc ?s ?e ?_);(case s=>walk_at "sqL");(case e=>exact rfl)) |(with_reducible refine jtr ?_) |((with_reducible refine' jqz ?r ?_);(case r=>walk_at "rd"))
 |((with_reducible refine' jq0 ?r ?a ?_);(case r=>walk_at "rd");(case a=>with_reducible assumption)) |(with_reducible refine jwk ?_) |((with_reducible refine' jts ?r ?a ?e ?_);(case r=>walk_at "rd");(case a=>with_reducible assumption);(case e=>with_reducible assumption)) |(with_reducible refine jwl ?_)
 |((with_reducible refine' jq1 ?e ?z ?_);(case e=>walk_at "heap");(case z=>walk_at "size")) |((with_reducible refine jq2 ?_);intro p hp) |(with_reducible first|refine jtp ?_|refine jwj ?_) |((with_reducible refine' jkh ?e ?_);(case e=>walk_at "rd");intro p hp)
 |(with_reducible first|refine jwn ?_|refine jt1 ?_) |((with_reducible refine' jq4 ?e ?l ?_);(case e=>walk_at "heap");(case l=>exact rfl)) |(with_reducible refine jt2 ?_) |((with_reducible refine' jtz ?e ?l ?_);(case e=>walk_at "heap");(case l=>exact rfl))
 |(with_reducible first|refine jn1 ?_|refine jwm ?_) |((with_reducible refine' jt3 ?r ?_);(case r=>walk_at "rd")) |(with_reducible first|refine jwo ?_|refine jwp ?_|refine jwq ?_|refine jwr ?_) |((with_reducible refine' jt0 ?e ?c ?n ?l ?_);(case e=>walk_at "heap");(case c=>with_reducible assumption);(case n=>with_reducible assumption);(case l=>exact rfl))
 |((with_reducible refine' qec ?e ?c ?n ?z ?_);(case e=>walk_at "heap");(case c=>with_reducible assumption);(case n=>with_reducible assumption);(case z=>(show _ < 1000;decide))) |(with_reducible first|refine jwh ?_|refine jtl ?_) |((with_reducible refine' jtm ?s ?_);(case s=>walk_at "sqL")) |((with_reducible refine' jtq ?s ?_);(case s=>walk_at "heap"))
 |((with_reducible refine' jkf ?h ?z ?_);(case h=>walk_at "heap");(case z=>walk_at "size")))
def wdz:jaa ["thing"] ["thing"] (qa8 jbl):=#[()]
def wek:jaa ["thing"] ["thing"] (qa8 jb6):=#[()]
def w8n:jaa ["thing","least","most"] ["thing","least","most"] (qa8 jao):=#[()]
def wci:jaa ["thing"] ["thing"] (qa8 jbb):=#[()]
def w4k:jaa ["handed","wares","key","ware"] ["handed","wares"] (qa8 ja2):=#[()]
def w3l:jaa ["amounts","told","ware"] ["amounts"] (qa8 jaw):=#[()]
def wc7:jaa ["amounts","ware"] ["amounts","ware"] (qa8 jbc):=#[()]
def wbc:jaa ["one","other","told","ware"] ["one","other"] (qa8 jek):=#[()]
def wc6:jaa ["one","other","ware"] ["one","other"] (qa8 jcg):=#[()]
def w4l:jaa ["many","total","amounts"] ["many"] (qa8 jbm):=#[()]
def w38:jaa ["one","other","great","small","rest"] ["one","other"] (qa8 jb7):=#[()]
def w6f:jaa ["top","bottom","shared"] ["top","bottom"] (qa8 jbn):=#[()]
def whz:jaa ["one","other"] ["one","other"] (qa8 jiq):=#[()]
def wgp:jaa ["one","other"] ["one","other"] (qa8 jel):=#[()]
def wh3:jaa ["one","other"] ["one","other"] (qa8 jem):=#[()]
def wew:jaa ["one","other"] ["one","other"] (qa8 jb8):=#[()]
def wh6:jaa ["one","other"] ["one","other"] (qa8 jen):=#[()]
def w49:jaa ["tree","wants","weigh","weights","name"] ["tree","wants","weigh"] (qa8 ja3):=#[()]
def w4h:jaa ["tree","weights","waiting","loads","name","house"] ["tree","weights","waiting"] (qa8 jbo):=#[()]
def w4m:jaa ["many","least","one"] ["many"] (qa8 jbp):=#[()]
def w5f:jaa ["tree","rooms","wants","weights","dealing","told"] ["tree","rooms","wants","weights"] (qa8 jbd):=#[()]
def w4j:jaa ["tree","rooms","wants","weigh","weights","shares","level_names","name","sums","told","paper"] ["tree","rooms","wants","weigh"] (qa8 jce):=#[()]
def wd8:jaa ["share","want"] ["share","want"] (qa8 jbq):=#[()]
def we7:jaa ["sums","row","want"] ["sums","row","want"] (qa8 jbr):=#[()]
def w5n:jaa ["tree","rooms","wants","dealt","weigh","shares","row","sums"] ["tree","rooms","wants","dealt","weigh"] (qa8 jaz):=#[()]
def wc0:jaa ["thing"] ["thing"] (qa8 jbe):=#[()]
def way:jaa ["thing"] ["thing"] (qa8 ja4):=#[()]
def w4f:jaa ["wares","elder","promise","cap","weight","own_promise","own_cap"] ["wares","elder","promise","cap","weight"] (qa8 ja5):=#[()]
def w44:jaa ["name","promises","cap","ware"] ["name","promises","cap"] (qa8 jal):=#[()]
def wep:jaa ["_law_script","_law_k"] ["_law_script","_law_k"] (qa8 jb9):=#[()]
def wei:jaa ["_law_cell","_law_k","_law_number"] ["_law_cell","_law_k"] (qa8 jeo):=#[()]
def w4c:jaa ["_law_cell","_law_k","_law_letters","_law_size","_law_at","_law_name_here","_law_j","_law_step","_law_place"] ["_law_cell","_law_k"] (qa8 jir):=#[()]
def wh4:jaa ["_law_found"] ["_law_found"] (qa8 jep):=#[()]
def wif:jaa ["_law_number","_law_scale"] ["_law_number","_law_scale"] (qa8 jis):=#[()]
def wi5:jaa ["_law_number","_law_scale"] ["_law_number","_law_scale"] (qa8 jit):=#[()]
def w0w:jaa ["_law_script","_law_count","_law_scale","_law_names","_law_elders","_law_weights","_law_wants","_law_rooms","_law_k","_law_cells","_law_number"] ["_law_script","_law_count"] (qa8 jca):=#[()]
def w55:jaa ["_law_script","_law_sharing_here","_law_names","_law_elders","_law_weights","_law_wants","_law_rooms","_law_tree_here","_law_k"] ["_law_script","_law_sharing_here"] (qa8 jiu):=#[()]
def wbf:jaa ["_law_elders","_law_k","_law_some","_law_at"] ["_law_elders","_law_k"] (qa8 jiv):=#[()]
def w3y:jaa ["_law_sharing_here","_law_at","_law_names","_law_elders","_law_weights","_law_wants","_law_rooms"] ["_law_sharing_here","_law_at"] (qa8 jch):=#[()]
def w1y:jaa ["_law_shares","_law_some","_law_top","_law_bottom","_law_name_here","_law_share"] ["_law_shares","_law_some"] (qa8 jbs):=#[()]
def wii:jaa ["_law_one","_law_other"] ["_law_one","_law_other"] (qa8 jiw):=#[()]
def w2o:jaa ["_law_script","_law_sharing_here","_law_names","_law_elders","_law_weights","_law_wants","_law_rooms","_law_others","_law_name_here","_law_table"] ["_law_script","_law_sharing_here"] (qa8 jeq):=#[()]
def w8a:jaa ["_law_one","_law_other"] ["_law_one","_law_other"] (qa8 jbf):=#[()]
def wad:jaa ["_law_found"] ["_law_found"] (qa8 ja1):=#[()]
def w6a:jaa ["_law_found","_law_wants","_law_row","_law_name_here"] ["_law_found","_law_wants"] (qa8 jbt):=#[()]
def w3u:jaa ["_law_sharing_here","_law_shares","_law_name_here","_law_at","_law_names","_law_elders","_law_weights","_law_wants","_law_rooms","_law_inside_here","_law_together_here","_law_other","_law_share"] ["_law_sharing_here","_law_shares","_law_name_here","_law_at"] (qa8 jix):=#[()]
def w1f:jaa ["_law_sharing_here","_law_dealt","_law_names","_law_elders","_law_weights","_law_wants","_law_rooms","_law_shares","_law_row","_law_at","_law_name_here","_law_share","_law_paper_here"] ["_law_sharing_here","_law_dealt"] (qa8 jci):=#[()]
def wbz:jaa ["_law_top","_law_bottom","_law_many"] ["_law_top","_law_bottom"] (qa8 jcj):=#[()]
def wgm:jaa ["_law_share","_law_number","_law_part_here"] ["_law_share","_law_number"] (qa8 jiy):=#[()]
def wis:jaa ["_law_one","_law_other","_law_sign"] ["_law_one","_law_other","_law_sign"] (qa8 jnz):=#[()]
def w1e:jaa ["_law_sharing_here","_law_shares","_law_one","_law_names","_law_elders","_law_weights","_law_wants","_law_rooms","_law_others","_law_left","_law_at","_law_together_here","_law_rest"] ["_law_sharing_here","_law_shares","_law_one"] (qa8 jck):=#[()]
def w1b:jaa ["_law_sharing_here","_law_shares","_law_one","_law_names","_law_elders","_law_weights","_law_wants","_law_rooms","_law_found","_law_name_here","_law_top"] ["_law_sharing_here","_law_shares","_law_one"] (qa8 jbu):=#[()]
def w22:jaa ["_law_sharing_here","_law_shares","_law_cell","_law_some","_law_found","_law_one","_law_other","_law_number","_law_share","_law_name_here"] ["_law_sharing_here","_law_shares","_law_cell"] (qa8 jcb):=#[()]
def w34:jaa ["_law_sharing_here","_law_shares","_law_name_here","_law_old","_law_number","_law_names","_law_elders","_law_weights","_law_wants","_law_rooms","_law_found","_law_at"] ["_law_sharing_here","_law_shares","_law_name_here","_law_old","_law_number"] (qa8 jer):=#[()]
def w2d:jaa ["_law_script","_law_sharing_here","_law_names","_law_elders","_law_weights","_law_wants","_law_rooms","_law_tree_here","_law_weigh","_law_due","_law_shares","_law_row","_law_cell","_law_found","_law_handed","_law_paper_here","_law_told"] ["_law_script"] (qa8 jn0):=#[()]
def wbo:jaa ["self","elder","promise","cap","weight"] ["self","elder","promise","cap","weight"] (qa8 ja7):=#[()]
def w8k:jaa ["self","wares","name","promise","cap","weight","house"] ["self","wares","name","promise","cap","weight"] (qa8 jai):=#[()]
def w4e:jaa ["self","name","elder","promise","cap","weight","house","elders"] ["self","name","elder","promise","cap","weight"] (qa8 jag):=#[()]
def wdw:jaa ["self","thing"] ["self","thing"] (qa8 jbv):=#[()]
def w6h:jaa ["self","thing"] ["self","thing"] (qa8 jah):=#[()]
def w8p:jaa ["self","name"] ["self","name"] (qa8 jap):=#[()]
def w8w:jaa ["self","name"] ["self","name"] (qa8 jaq):=#[()]
def w7l:jaa ["self","name"] ["self","name"] (qa8 jam):=#[()]
def wco:jaa ["self","name"] ["self","name"] (qa8 jbg):=#[()]
def w3q:jaa ["self","name","told","elder"] ["self","name"] (qa8 jbh):=#[()]
def w3m:jaa ["self","name","told","kid"] ["self","name"] (qa8 jax):=#[()]
def w3z:jaa ["self","name"] ["self","name"] (qa8 jad):=#[()]
def w3o:jaa ["self","names","more","name"] ["self","names","more"] (qa8 jaj):=#[()]
def w3n:jaa ["self","tree","rooms","wants","weights","house","name"] ["self","tree","rooms","wants","weights"] (qa8 jay):=#[()]
def w1u:jaa ["self","loads","told","house"] ["self"] (qa8 jar):=#[()]
def w1w:jaa ["self","level","fills","told","name","levels"] ["self","level","fills"] (qa8 jas):=#[()]
def w1n:jaa ["self","level","names","name","share","house"] ["self","level","names"] (qa8 jan):=#[()]
def w0p:jaa ["self","fills","level","names"] ["self"] (qa8 jae):=#[()]
def w3r:jaa ["self","tree","rooms","shares","weights","name","level","house"] ["self","tree","rooms","shares","weights"] (qa8 jbi):=#[()]
def w5v:jaa ["self"] ["self"] (qa8 jaf):=#[()]
def w1x:jaa ["self","name","told","house","is_full"] ["self","name"] (qa8 jat):=#[()]
variable{P:vA}{w:vN}{K:uX}{mg:Str->Option uB}{base:vU}{d:Ad}(T:Tx K mg d)
include T in
theorem w9d:jac P w K mg base CX0 1 d.w7z d.w6o ["self","thing"] (wde K d):=by
 exists T.wf7.ok wdw
 .right
 obtain⟨t,S,x,rfl,hT,hx,q⟩:=h;exists qa6 (qaf (qey (qaj qbn rfl T.w07 vI #[pv 1,qcd (v:=.ty "str") rfl T.wh1 bE rfl]) (qex (jo5 (jln (qap hr) (pv 1) (qay (pv 0) rfl)))))),[sr t,some (x)];obtain⟨⟨dx,ht⟩,hw,hh,nd,hz,hE⟩:=hT;have ct:=T.w03;have nh:qaq K d.w01 "houses":=T.w05;rcases hx with⟨z,rfl⟩|⟨⟨ty,ht1,ht2⟩,nz⟩
 .left;rw[qe4,aT];exact q
 .left;rw[qde nz] at q;exact q
include T in
theorem w1z:jac P w K mg base (My.CX1 P w) 2 d.w2c d.w21 ["self","thing"] (w67 K d):=by
 exists okX T.w71 w6h
 .right
 obtain⟨t,S,x,rfl,hT,hx,q1,q2⟩:=h;exists qa6 (qb5 (qc1 (qbd (jg6 (pv 0) T.w03 T.w2m ((w9d T).mono ∅) hr T.wal .nil qas #[pv 1]))) (qa6 (jj8 rfl T.wfh rfl T.wfr qau #[jgr])) qal),[sr t,some (x)];have hT0:=hT;obtain⟨⟨dx,ht⟩,hw,hh,nd,hz,hE⟩:=hT;have ct:=T.w03;have nh:qaq K d.w01 "houses":=T.w05;left;refine⟨t,S,x,rfl,hT0,hx,?_⟩
 cases hw':who S x with
 |none=>
  left;show if(!false)=true then _ else _
  left;exact q2 hw'
 |some e=>
  left;exact q1 e hw'
include T in
theorem w4s:jac P w K mg base (My.CX1 P w) 3 d.w3h d.w2x ["self","name"] (w8r K d):=by
 exists okX T.w95 w8p
 .right
 obtain⟨t,S,x,rfl,hT,hx,q1,q2⟩:=h;exists (qa2 (qbq (qb6 (pv 0) T.w03 T.w08 ((w1z T).mono ∅) hr T.w29 .nil qau #[pv 1]))
  (qa6 (qaf (qay (pv 0) rfl|||pv 1)))),[sr t,some (x)];have hT0:=hT;obtain⟨⟨dx,ht⟩,hw,hh,nd,hz,hE⟩:=hT;have ct:=T.w03;have nh:qaq K d.w01 "houses":=T.w05;left;refine⟨t,S,x,rfl,hT0,hx,fun e he=>?_,q2⟩;have hz':∃z,x=.str z:=by
  rcases hx with h|⟨_,nz⟩
  .exact h
  .rw[qde nz] at he;cases he
 obtain⟨z,rfl⟩:=hz';left;refine jkm (.inl hh) (h:=e.a) (by rw[qe4];show(S.at z).map _=_;rw[show S.at z=some e from he];rfl) ?_;left;exact q1 e he
include T in
theorem w4r:jac P w K mg base (My.CX1 P w) 4 d.w3b d.w2w ["self","name"] (w8q K d):=by
 exists okX T.w9i w8w
 .right
 obtain⟨t,S,x,rfl,hT,hx,q1,q2⟩:=h;exists qa6 (qaf (qay (qb6 (pv 0) T.w03 T.w0m ((w4s T).mono ∅) hr T.w50 .nil qau #[pv 1]) rfl)),[sr t,some (x)];have hT0:=hT;obtain⟨⟨dx,ht⟩,hw,hh,nd,hz,hE⟩:=hT;have ct:=T.w03;have nh:qaq K d.w01 "houses":=T.w05;left;refine⟨t,S,x,rfl,hT0,hx,fun e he=>?_,q2⟩;obtain⟨z,rfl⟩:∃z,x=.str z:=by
  rcases hx with h|⟨_,nz⟩
  .exact h
  .rw[qde nz] at he;cases he
 obtain⟨⟨dh,ho⟩,hp,hpA,hc,hcA⟩:=hE e (qd7 he).1;have ch:=T.w1v;have nf:qaq K d.w06 "elder":=T.w0t;have hRp:Rd H e.x.pa (.dK e.x.kp):=.inl hp;have hRc:Rd H e.x.ca (.dK e.x.kc):=.inl hc;left;exact q1 e he
include T in
theorem w81:jac P w K mg base (My.CX1 P w) 4 d.w30 d.w2l ["self","name"] (w82 K d):=by
 exists okX T.w8l w7l
 .right
 obtain⟨t,S,x,rfl,hT,hx,q1,q2⟩:=h;exists qa6 (qaf (qay (qb6 (pv 0) T.w03 T.w0m ((w4s T).mono ∅) hr T.w50 .nil qau #[pv 1]) rfl)),[sr t,some (x)];have hT0:=hT;obtain⟨⟨dx,ht⟩,hw,hh,nd,hz,hE⟩:=hT;have ct:=T.w03;have nh:qaq K d.w01 "houses":=T.w05;left;refine⟨t,S,x,rfl,hT0,hx,fun e he=>?_,q2⟩;obtain⟨z,rfl⟩:∃z,x=.str z:=by
  rcases hx with h|⟨_,nz⟩
  .exact h
  .rw[qde nz] at he;cases he
 obtain⟨⟨dh,ho⟩,hp,hpA,hc,hcA⟩:=hE e (qd7 he).1;have ch:=T.w1v;have nf:qaq K d.w06 "weight":=T.w18;have hRp:Rd H e.x.pa (.dK e.x.kp):=.inl hp;have hRc:Rd H e.x.ca (.dK e.x.kc):=.inl hc;left;exact q1 e he
include T in
theorem w8e:jac P w K mg base CX0 1 d.w6k d.w4v ["amounts","ware"] (jb1 K d):=by
 exists T.w6j.ok wc7
 .right
 obtain⟨a,kvs,f,z,rfl,hR,hA,q⟩:=h;exists qa6 (qaf (qfa (qap hr) (pv 0) (pv 1) qa5 ⟨rfl,rfl,rfl,rfl⟩)),[sr a,some (.str z)];left;exact q
include T in
theorem w9v:jac P w K mg base CX0 1 d.w3v d.w3e ["amounts"] (w9j K d):=by
 exists T.w5z.ok w3l
 .right
 obtain⟨a,kvs,f,rfl,hH,hA,hz,q⟩:=h;exists (qa2 (qae (i:=1) w3l.nd rfl (uD rfl) qb7)
  (qa2 (qdx (qb1 vJ rfl (qck (pv 0)) (qab (i:=2) w3l.nd rfl (uD rfl)) (qa6 (qca (qb5 (qan qg6 (pv 0|||pv 2) qa5 (qar _)) (qa6 (qb2 (qap hr) (pv 1) (pv 2) (pv 0|||pv 2) rfl)) qal)))))
  (qa6 (qaf (pv 1))))),[sr a,none,none];left;rename_i l hl;have ea:=qaa (o':=.dK []) hH hl;have nla:l≠a:=(qa9 hH hl).symm;refine qf1 ea fun o=>?_;refine qe0 (fun i σ H'=>∃(k':List (Key×V))(w:Option V),σ=[sr a,sr l,w]/\SameBut a H H'/\H' a=some (.frz o (.dK kvs))/\H' l=some (.dK k')/\k'.length<=i/\AD k' (fun y=>if y∈(qc3 kvs).take i then qdh f y else none))
  ⟨[],none,rfl,SameBut.at (SameBut.of (qa4 hl _)),qa1,by rw[qa7 nla];exact qa1,uF _,AD.nil.cast fun z=>by simp[noF]⟩ ?_ ?_ ?_
 .rintro i σ H' _ ⟨k',w,rfl,sb,fz,hl',_⟩;exact fz
 .rintro i k v σ H' hk ⟨k',w,rfl,sb,fz,hl',hlen,hA'⟩;obtain⟨z,n,rfl,rfl,hf,hzi⟩:=hA.at hk;have hi:i<kvs.length:=(uL.mp hk).1;have hRd:Rd H' a (.dK kvs):=.inr ⟨o,fz⟩;show qe6 _ (.str z) _ _ _;left;refine qd4 ?_;left;refine i_2 (fun c=>?_) (fun c=>?_)
  .left;refine⟨_,_,rfl,?_,by rw[qa7 nla.symm];exact fz,qa1,?_,(hA'.put z n).cast fun y=>?_⟩
   .exact jh4 sb hl
   .have:=qb0 k' (uE z) (.int n);omega
   .exact jfo hzi (qdh f) (fun _=>none) (by unfold qdh;rw[hf];exact gL c) y
  .left;refine⟨_,_,rfl,sb,fz,hl',#[],hA'.cast fun y=>?_⟩;exact jnm hzi (qdh f) (fun _=>none) (by unfold qdh;rw[hf];exact gK c) y
 .rintro σ H' ⟨k',w,rfl,sb,fz,hl',_,hA'⟩;refine qdu (qf0 fz (qce hH)) ?_;left;refine q l k' _ (qd3 hH sb) hl (by rw[qa7 nla];exact hl') (hA'.cast fun y=>?_);exact jfp hA (qdh f) (fun _=>none) (fun y e=>by unfold qdh;rw[e]) y
include T in
theorem weg:jac P w K mg base CX0 2 d.wcu d.wbp ["one","other"] (jkv K d):=by
 exists T.wdh.ok wbc
 .right
 obtain⟨a,b,ka,kb,f,g,rfl,hRa,hb,hA,hB,za,zb,q⟩:=h;exists (qa2 (qae (i:=2) wbc.nd rfl (uD rfl) (qbr qc0 rfl T.w5y wH #[pv 0]))
  (qa2 (qdx (qb1 vJ rfl (qck (pv 1)) (qab (i:=3) wbc.nd rfl (uD rfl)) (qa6 (qb2 (qap hr) (pv 2) (pv 3) (qag qby (qac ((w8e T).mono ∅) hr rfl T.w9b T.w6j.kp T.w92 .nil qas #[pv 0,pv 3]) (pv 1|||pv 3)) rfl))))
  (qa6 (qaf (pv 2))))),[sr a,sr b,none,none];left;rename_i l hl;have eb:=qaa (o':=.dK ka) hb hl;have nlb:l≠b:=(qa9 hb hl).symm;refine qf1 eb fun o=>?_;refine qe0 (fun i σ H'=>∃(k':List (Key×V))(w:Option V),σ=[sr a,sr b,sr l,w]/\SameBut b H H'/\H' b=some (.frz o (.dK kb))/\H' l=some (.dK k')/\k'.length<=1000+i/\AD k' (fun y=>if y∈(qc3 kb).take i then qgy f g y else f y))
  ⟨ka,none,rfl,SameBut.at (SameBut.of (qa4 hl _)),qa1,by rw[qa7 nlb];exact qa1,#[],hA.cast fun z=>by simp⟩ ?_ ?_ ?_
 .rintro i σ H' _ ⟨k',w,rfl,sb,fz,hl',_⟩;exact fz
 .rintro i k v σ H' hk ⟨k',w,rfl,sb,fz,hl',hlen,hA'⟩;obtain⟨z,n,rfl,rfl,hf,hzi⟩:=hB.at hk;have hi:i<kb.length:=(uL.mp hk).1;have hRb:Rd H' b (.dK kb):=.inr ⟨o,fz⟩;have hRa':Rd H' a (.dK ka):=jtu hRa hb sb fz;show qe6 _ (.str z) _ _ _;left;refine⟨_,_,rfl,jh4 sb hl,by rw[qa7 nlb.symm];exact fz,qa1,?_,(hA'.put z _).cast fun y=>?_⟩
  .have:=qb0 k' (uE z) (.int (gN f z+n));omega
  .exact jfo hzi (qgy f g) f (by unfold qgy;rw[hf]) y
 .rintro σ H' ⟨k',w,rfl,sb,fz,hl',_,hA'⟩;refine qdu (qf0 fz (qce hb)) ?_;left;refine q l k' _ (qd3 hb sb) hl (by rw[qa7 nlb];exact hl') (hA'.cast fun y=>?_);exact jfp hB (qgy f g) f (fun y e=>by unfold qgy;rw[e]) y
include T in
theorem wgg:jac P w K mg base CX0 2 d.wbk d.wa0 ["one","other"] (jiz K d):=by
 exists T.web.ok wc6
 .right
 obtain⟨a,b,ka,kb,f,g,rfl,hRa,hRb,hA,hB,za,qn,qs⟩:=h;exists (qa2 (qb1 vJ rfl (qaw (qaj (qcb rfl) rfl T.w2n wF #[pv 0])) (qab (i:=2) wc6.nd rfl (uD rfl)) (qa6 (qb5 (qan qg6 (pv 0|||pv 2) (qac ((w8e T).mono ∅) hr rfl T.w9b T.w6j.kp T.w92 .nil qas #[pv 1,pv 2]) (qar _)) (qa6 (qaf (pv 2))) qal)))
  (qa6 (qaf qcq))),[sr a,sr b,none];left;refine qdg hRa hA.keys (by rw[hA.klen];exact za) fun l ss hl hp hs=>?_;have pw:=qfh hs;have hin:∀y,y∈ss↔f y≠none:=fun y=>(hp.mem_iff).trans (hA.kin y);left;have sm:=qa4 hl (.lst (ss.map V.str));have hRa':=jdf hRa hl (u:=.lst (ss.map V.str));have hRb':=jdf hRb hl (u:=.lst (ss.map V.str));refine qbp (xs:=ss.map V.str) (fun i σ H'=>H'=upd H l (.lst (ss.map V.str))/\(∃w,σ=[sr a,sr b,w])/\∀j y,j<i->ss[j]?=some y->¬viol f g y) ⟨rfl,⟨_,rfl⟩,fun j y hj=>absurd hj (dH j)⟩ ?_ ?_ ?_
 .rintro i σ H' _ ⟨rfl,_⟩;exact SqL.of qa1
 .rintro i v σ H' hv ⟨rfl,⟨w,rfl⟩,hno⟩;rw[zC] at hv;obtain⟨z,hz,rfl⟩:=uH.mp hv;have hfz:=(hin z).mp (zE hz);obtain⟨n,hn⟩:∃n,f z=some n:=by
   cases e:f z with
   |none=>exact absurd e hfz
   |some n=>exact⟨n,rfl⟩
  have gz:gN f z=n:=by unfold gN;rw[hn];rfl
  left;refine i_2 (fun c=>?_) (fun c=>?_)
  .left;refine qs z _ sm ⟨hfz,by rw[gz];exact c⟩ fun y hy=>?_;obtain⟨j,hj,e⟩:=zU.mp ((hin y).mpr hy.1);have hji:i<=j:=by
    rcases cA j i with h|h
    .exact absurd hy (hno j y h (by rw[zA hj,e]))
    .exact h
   obtain⟨hi,ez⟩:=uL.mp hz;rcases Nat.eq_or_lt_of_le hji with h|h
   .subst h;rw[ez] at e;subst e;exact jki _
   .have:=aE.mp pw i j hi hj h;rw[ez,e] at this;exact this
  .left;refine⟨rfl,⟨_,rfl⟩,fun j y hj hy=>?_⟩;rcases cA j i with h|h
   .exact hno j y h hy
   .have e:j=i:=by omega
    subst e;rw[hz] at hy
    cases hy
    exact fun hv=>c (by have:=hv.2;rw[gz] at this;exact this)
 .rintro σ H' ⟨rfl,⟨w,rfl⟩,hno⟩;left;refine qn _ sm fun y hy=>?_;obtain⟨j,hj,e⟩:=zU.mp ((hin y).mpr hy.1);exact hno j y (by rw[zB];exact hj) (by rw[zA hj,e]) hy
theorem ji1{ts:List Pt}(h:∀t∈ts,∀z,t.f z≠none->z∈ws):∀f0:Str->Option Int,(∀z,f0 z≠none->z∈ws)->∀z,ts.foldl (fun f t=>qgy f t.f) f0 z≠none->z∈ws:=by
 induction ts with
 |nil=>intro f0 h0 z hz;exact h0 z hz
 |cons t ts ih=>intro f0 h0 z hz;exact ih (fun t' ht=>h t' (zD _ ht)) (qgy f0 t.f) (jfn h0 (h t (zG ..))) z hz
include T in
theorem wdj:jac P w K mg base CX0 3 d.w7b d.w6i ["many"] (we3 K d):=by
 exists T.wap.ok w4l
 .right
 obtain⟨L,ts,ws,rfl,hS,hw,hts,q⟩:=h;exists (qa2 (qae (i:=1) w4l.nd rfl (uD rfl) qb7)
  (qa2 (qb1 vJ rfl (qaw (pv 0)) (qab (i:=2) w4l.nd rfl (uD rfl)) (qa6 (qae (i:=1) w4l.nd rfl (uD rfl) (qac ((weg T).mono ∅) hr rfl T.wgf T.wdh.kp T.wfo .nil qas #[pv 1,pv 2]))))
  (qa6 (qaf (pv 1))))),[sr L,none,none];left;rename_i l0 hl0;refine qbp (xs:=ts.map fun t=> .ref t.a) (fun i σ H'=>∃(l:Addr)(k':List (Key×V))(w:Option V),σ=[sr L,sr l,w]/\jab H H'/\H l=none/\H' l=some (.dK k')/\AD k' (ji0 (ts.take i))) ⟨l0,[],none,rfl,qa4 hl0 _,hl0,qa1,AD.nil⟩ ?_ ?_ ?_
 .rintro i σ H' _ ⟨l,k',w,rfl,sm,_⟩;exact sm.seq hS
 .rintro i v σ H' hv ⟨l,k',w,rfl,sm,hl,hl',hA'⟩;rw[zC] at hv;obtain⟨t,ht,rfl⟩:=uH.mp hv;have hm:=zE ht;obtain⟨h1,h2,h3⟩:=hts t hm;have sup:∀z,ji0 (ts.take i) z≠none->z∈ws:=ji1 (fun t' ht'=>(hts t' (zX ht')).2.2) noF (fun z h=>absurd rfl h);have c1:=hA'.le sup;have c2:=h2.le h3;left;refine⟨l,t.a,k',t.k,ji0 (ts.take i),t.f,rfl,.inl hl',sm _ _ h1,hA',h2,#[],#[],fun l2 k2 H2 sm2 hl2 e2 hA2=>?_⟩;left;refine⟨l2,k2,_,rfl,sm.trans sm2,sm.free hl2,e2,?_⟩;have e:ts.take (i+1)=ts.take i++[t]:=by rw[zM,ht];rfl
  rw[e];unfold ji0;rw[List.foldl_append];exact hA2
 .rintro σ H' ⟨l,k',w,rfl,sm,hl,hl',hA'⟩;rw[zB,zH] at hA';left;exact q l k' H' sm hl hl' hA'
include T in
theorem w24:jac P w K mg base (My.CX1 P w) 5 d.w6g d.w5l ["self","name"] (wc9 K d):=by
 exists okX T.wcq w3q
 .right
 obtain⟨t,S,x,rfl,hT,q⟩:=h;exists (qa2 (qae (i:=2) w3q.nd rfl (uD rfl) (qc2 #[pv 1]))
  (qa2 (qae (i:=3) w3q.nd rfl (uD rfl) (qb6 (pv 0) T.w03 T.w0o ((w4r T).mono ∅) hr T.w5c .nil qau #[pv 1]))
  (qa2 (qee (qbj rfl rfl) (qan qeg (pv 3) qcq (qar _)) (qa2 (qbq (qf2 vT wL wM qcf (pv 2) #[pv 3]))
  (qa6 (qae (i:=3) w3q.nd rfl (uD rfl) (qb6 (pv 0) T.w03 T.w0o ((w4r T).mono ∅) hr T.w5c .nil qau #[pv 3])))))
  (qa6 (qaf (pv 2)))))),[sr t,some (x),none,none];have ct:=T.w03;obtain⟨dx,ht⟩:=hT.1;left;rename_i l hl;have sl:=qa4 hl (.lst [x]);rcases q with⟨z,zs,rfl,hL,hz,q⟩|⟨hx,hn,q⟩
 .obtain⟨e0,r0,h0,rfl,hr0⟩:=hL.open;refine⟨t,S,.str z,rfl,hT.same sl,.inl ⟨z,rfl⟩,fun e he=>?_,fun he=>?_⟩
  .have ee:e0=e:=uU (h0.symm.trans he);subst ee;left;refine qe8 (fun σ H'=>∃(ys rs:List Str)(o:Option Str),σ=[sr t,some (.str z),sr l,some (eV o)]/\H'=upd H l (.lst (ys.map V.str))/\ys++rs=z::r0/\jl5 S o rs) (fun _ H'=>(r0.length+1)-jes l H') ⟨[z],r0,_,rfl,rfl,rfl,hr0⟩ ?_ ?_
   .rintro σ H' ⟨ys,rs,o,rfl,rfl,hyr,hR⟩;have hlen:=congrArg wG hyr;rw[zT,zR] at hlen;have hz2:(z::r0).length<=1000:=hz;rw[zR] at hz2
    cases o with
    |none=>
     have:rs=[]:=hR;subst this;rw[yA] at hyr;subst hyr;rw[show eV none=V.non from rfl];left;exact q l hl
    |some y=>
     obtain⟨e1,r1,h1,rfl,hr1⟩:=jau.open hR;have sy:=qa4 hl (.lst (ys.map V.str));have eL:upd H l (.lst (ys.map V.str)) l=some (.lst (ys.map V.str)):=qa1;have hzz:(ys.map V.str).length<sizeLine:=by rw[zB];show _<16777216;omega
     rw[show eV (some y)=V.str y from rfl];left;rw[qd1];have s2:=qa4 hl (.lst (ys.map V.str++[.str y]));have ht2:=s2 _ _ ht;left;refine⟨t,S,.str y,rfl,hT.same s2,.inl ⟨y,rfl⟩,fun e he=>?_,fun he=>?_⟩
     .have ee:e1=e:=uU (h1.symm.trans he);subst ee;left;rw[zR] at hlen;refine⟨⟨ys++[y],r1,_,rfl,by rw[zI];rfl,by rw[cI];exact hyr,hr1⟩,?_⟩;have g1:=qfb eL;have g2:jes l (upd H l (.lst (ys.map V.str++[V.str y])))=(ys.map V.str++[V.str y]).length:=qfb qa1;rw[zT,zB] at g2;rw[zB] at g1;rw[g1,g2];simp only[zR,yK];omega
     .rw[show who S (.str y)=some e1 from h1] at he;cases he
   .rintro σ H' Q1 Q2 hm ⟨v,hv,w,k,hk,hq⟩;exact⟨v,hv,w,k,hk,hm _ _ hq⟩
  .rw[show who S (.str z)=some e0 from h0] at he;cases he
 .refine⟨t,S,x,rfl,hT.same sl,hx.same sl,fun e he=>?_,fun _=>q l hl⟩;rw[hn] at he;cases he
theorem jdh(nd:(S.hl.map (·.n)).Nodup)(h:e∈S.hl):S.at e.n=some e:=by
 have q:qdj S.keys e.n=some e.a:=jfq (by unfold Ts.keys;rw[yP];exact nd) (zJ.mpr ⟨e,h,rfl⟩);unfold Ts.at
 revert nd h
 obtain⟨sw,ws,hs,hl⟩:=S;dsimp only;clear q;intro nd h
 induction hl with
 |nil=>simp at h
 |cons y r ih=>
  rw[zV,zZ] at nd;rw[yH];rcases zP.mp h with h|h
  .subst h;rw[gM rfl]
  .have ne:y.n≠e.n:=fun z=>nd.1 (by rw[z];exact zJ.mpr ⟨e,h,rfl⟩);rw[gO ne];exact ih nd.2 h
theorem jn2{k:Key}{v:V}(h:(oK S.keys)[i]?=some (k,v)):∃e,S.hl[i]?=some e/\k=uE e.n/\v=.ref e.a:=by
 unfold oK Ts.keys at h;rw[zC,zC] at h
 cases q:S.hl[i]? with
 |none=>rw[q] at h;cases h
 |some e=>rw[q] at h;cases h;exact⟨e,rfl,rfl,rfl⟩
theorem qfc(S:Ts):(oK S.keys).length=S.hl.length:=by unfold oK Ts.keys;rw[zB,zB]
theorem jrn{o:Option Str} :decide (eV o=V.str z)=decide (o=some z):=by
 cases o with
 |none=>rfl
 |some y=>
  by_cases h:y=z
  .subst h;show decide (V.str y=V.str y)=_;rw[gM rfl,gM rfl]
  .rw[gO (fun q=>h (by cases q;rfl)),gO (fun q=>h (uU q))]
theorem jn3{o:Option Str} :scal (eV o) (V.str z)=true:=by cases o<;>rfl
include T in
theorem wcb:jac P w K mg base (My.CX1 P w) 3 d.w6l d.w52 ["self","name"] (wbw K d):=by
 exists okX T.we1 wco
 .right
 obtain⟨t,S,x,rfl,hT,hx,q1,q2⟩:=h;refine⟨_,(qa2 (qbq (qb6 (pv 0) T.w03 T.w08 ((w1z T).mono ∅) hr T.w29 .nil qau #[pv 1]))
  (qa6 (qaf (qaj qge rfl T.w2n wF #[jlt (qcm (caps:=[0,1]) (cn:=["self","name"]) (qc8 rfl rfl (by rfl) (by rfl) rfl ⟨rfl,⟨rfl,trivial⟩⟩ (by rfl) rfl ⟨⟨rfl,rfl,rfl,rfl,_,rfl⟩,⟨⟨rfl,rfl,rfl,rfl,_,rfl⟩,trivial⟩⟩ ∅) rfl (qck (qay (pv 0) rfl)) (fun _ _ _ _=>(jho (qan qd9 (qay (qay (pv 1) rfl|||pv 0) rfl) (pv 2) (qar _)))) (fun _ _ _ _=>(pv 0)))])))),?_⟩
 walk_at"d"
 dsimp only[cxC];refine qad (σ:=[sr t,some (x)]) rfl ?_;have hT0:=hT;obtain⟨⟨dx,ht⟩,hw,hh,nd,hz,hE⟩:=hT;have ct:=T.w03;have ch:=T.w1v;have nh:qaq K d.w01 "houses":=T.w05;have nf:qaq K d.w06 "elder":=T.w0t;left;refine⟨t,S,x,rfl,hT0,hx,fun e he=>?_,q2⟩;obtain⟨z,rfl⟩:∃z,x=.str z:=by
  rcases hx with h|⟨_,nz⟩
  .exact h
  .rw[qde nz] at he;cases he
 obtain⟨hme,rfl⟩:=qd7 he;left;refine jqx ?_;left;refine qf1 hh fun o=>?_;intro C s0 H0 fp na hna;have hF:upd H S.hs (.frz o (.dK (oK S.keys))) S.hs=some (.frz o (.dK (oK S.keys))):=qa1;have sb:SameBut S.hs H (upd H S.hs (.frz o (.dK (oK S.keys)))):=jfm hh;have ht2:=sb _ _ (jgp ht hh (by intro z;cases z)) ht;have hna0:H na=none:=by
  by_cases z:na=S.hs
  .subst z;rw[hF] at hna;cases hna
  .rw[qa7 z] at hna;exact hna
 have hE2:∀e∈S.hl,∃dx,upd H S.hs (.frz o (.dK (oK S.keys))) e.a=some (.ins d.w06 dx (fsH e.x)):=fun e he=>by
  obtain⟨⟨dx,q⟩,_⟩:=hE e he;exact⟨dx,sb _ _ (jgp q hh (by intro z;cases z)) q⟩
 generalize upd H S.hs (.frz o (.dK (oK S.keys)))=HF at*;refine jef S.hl.length (fun i H'=>H'=upd HF na (.lst ((((S.hl.take i).filter fun y=>decide (y.x.el=some e.n)).map (·.n)).map V.str))) rfl ?_ ?_ ?_ ?_
 .rintro i H' hi rfl;exact⟨qaa hF hna,by rw[qfc];exact hi⟩
 .rintro H' rfl;exact⟨qaa hF hna,by rw[qfc];exact uF _⟩
 .rintro i H' v H'' hi rfl ⟨rfl,k,v',hk,rfl⟩;obtain⟨y,hy,rfl,rfl⟩:=jn2 hk;have hym:=zE hy;obtain⟨dy,hya⟩:=hE2 y hym;have nx:(S.hl.take (i+1)).filter (fun y=>decide (y.x.el=some e.n))=(S.hl.take i).filter (fun y=>decide (y.x.el=some e.n))++(if decide (y.x.el=some e.n)=true then[y] else[]):=by
   rw[zM,hy,yE]
   congr 1
   simp only[Option.toList_some,bI,dI]
  have hlen:((S.hl.take i).filter (fun y=>decide (y.x.el=some e.n))).length<=S.hl.length:=uY (yC ..) (by rw[zS];omega);left;refine jkm (h:=y.a) (jdf (.inr ⟨o,hF⟩) hna) (by rw[qe4,jdh nd hym];rfl) ?_;left;refine⟨jn3,?_⟩;rw[jrn];refine⟨_,rfl,?_⟩;refine i_2 (fun c=>?_) (fun c=>?_)
  .left;rw[qd1,nx,gL (gM c),zI,zI];rfl
  .rw[nx,gK (by rw[gO c];decide),yA]
 rintro H' rfl;rw[zH];have nns:na≠S.hs:=fun z=>by subst z;rw[hF] at hna;cases hna
 have eN:upd (upd HF na (.lst ((qbs S e.n).map V.str))) S.hs (.dK (oK S.keys)) na=some (.lst ((qbs S e.n).map V.str)):=by rw[qa7 nns];exact qa1
 have sm:jab H (upd (upd HF na (.lst ((qbs S e.n).map V.str))) S.hs (.dK (oK S.keys))):=qd3 hh (jh4 sb hna0);have hkl:(qbs S e.n).length<=60:=by unfold qbs;rw[zB];exact uY (yC ..) hz
 refine⟨_,qf0 (qaa hF hna) (qce hh),?_⟩;show jou _ (upd (upd HF na (.lst ((qbs S e.n).map V.str))) S.hs (.dK (oK S.keys))) _;generalize upd (upd HF na (.lst ((qbs S e.n).map V.str))) S.hs (.dK (oK S.keys))=H3 at*;left;refine jh3 (SqL.of eN) #[] fun l ss hl hp hs=>?_;left;exact q1 e he l ss _ (jfh sm hl) (sm.free hl) qa1 hp hs
def jkx{xs zs:List V}(h:H l=some (.lst xs))(hb:H b=some (.lst zs))(hz:xs.length+zs.length<=sizeLine)(q:Q .non (upd H l (.lst (xs++zs)))):jhc (.ref l) [.ref b] H Q:=⟨l,b,xs,zs,rfl,rfl,h,hb,hz,q⟩
noncomputable def flat(parts:List (Str×List Str)):List Str:=(parts.map (·.2)).flatten
noncomputable def Ben(S:Ts):Nat->Str->List Str->Prop
 |0,z,zs=>∃parts:List (Str×List Str),(parts.map (·.1)).Perm (qbs S z)/\zs=z::flat parts/\∀p∈parts,False
 |n+1,z,zs=>∃parts:List (Str×List Str),(parts.map (·.1)).Perm (qbs S z)/\zs=z::flat parts/\∀p∈parts,Ben S n p.1 p.2
noncomputable def jo0(S:Ts):Nat->Str->List Str->Prop
 |0,z,zs=>∃(parts:List (Str×List Str))(rest:List Str),(parts.map (·.1)++rest).Perm (qbs S z)/\zs=z::flat parts/\∀p∈parts,False
 |n+1,z,zs=>∃(parts:List (Str×List Str))(rest:List Str),(parts.map (·.1)++rest).Perm (qbs S z)/\zs=z::flat parts/\∀p∈parts,jo0 S n p.1 p.2
theorem Ben.part{S:Ts}:∀{n:Nat} {z:Str} {zs:List Str},Ben S n z zs->jo0 S n z zs
 |0,_,_,⟨parts,a,b,c⟩=>⟨parts,[],by rw[yA];exact a,b,c⟩
 |n+1,_,_,⟨parts,a,b,c⟩=>⟨parts,[],by rw[yA];exact a,b,fun p hp=>Ben.part (c p hp)⟩
noncomputable def jro(S:Ts):Nat->Str->List Str->Prop
 |0,_,_=>False
 |n+1,z,zs=>Ben S n z zs
theorem jrp{parts:List (Str×List Str)}(h:(parts.map (·.1)).Perm (qbs S z))(hp:∀p∈parts,jro S n p.1 p.2):Ben S n z (z::flat parts):=by
 cases n with
 |zero=>exact⟨parts,h,rfl,hp⟩
 |succ n=>exact⟨parts,h,rfl,hp⟩
theorem jn4{parts:List (Str×List Str)}{rest:List Str}(h:(parts.map (·.1)++rest).Perm (qbs S z))(hp:∀p∈parts,jro S n p.1 p.2):jo0 S n z (z::flat parts):=by
 cases n with
 |zero=>exact⟨parts,rest,h,rfl,hp⟩
 |succ n=>exact⟨parts,rest,h,rfl,fun p q=>Ben.part (hp p q)⟩
def jt9(S:Ts):Prop:=∀n z zs,jo0 S n z zs->zs.length<=1000
noncomputable def Dep(S:Ts):Nat->Str->Prop
 |0,z=>qbs S z=[]
 |n+1,z=>∀y∈qbs S z,Dep S n y
def wef(n:Nat)(K:uX)(d:Ad):Sp:=fun vs H Q E=>∃(t:Addr)(S:Ts)(x:V),vs=[.ref t,x]/\qf4 d H t S/\jt9 S/\qev K H x/\(∀e,who S x=some e->Dep S n e.n/\∀l zs H',jab H H'->H l=none->H' l=some (.lst (zs.map V.str))->Ben S n e.n zs->Q (.ref l) H')/\(who S x=none->∀l,H l=none->E (.ref d.w0k) none (upd H l (.lst [x])))
theorem jrq(nd:(S.hl.map (·.n)).Nodup)(h:y∈qbs S z):∃e,S.at y=some e/\e.n=y:=by
 obtain⟨e,he,rfl⟩:=zJ.mp h;exact⟨e,jdh nd (zW.mp he).1,rfl⟩
theorem jky(a b:List (Str×List Str)):flat (a++b)=flat a++flat b:=by unfold flat;rw[zI,List.flatten_append]
theorem jft{P:vA}{w:vN}{K:uX}{mg:Str->Option uB}{base:vU}{d:Ad}(T:Tx K mg d)(n:Nat)(spi:Sp)(IH:jac P w K mg base (My.CX1 P w) (3+n) d.w1l d.w0u ["self","name"] spi)
  (use:∀(t:Addr)(S:Ts)(z y:Str)(e:He)(H:Hp)(Q:VK)(E:XK),qf4 d H t S->jt9 S->Dep S n z->y∈qbs S z->S.at y=some e->e.n=y->(∀l zs H',jab H H'->H l=none->H' l=some (.lst (zs.map V.str))->jro S n y zs->Q (.ref l) H')->spi [.ref t,.str y] H Q E):
  jac P w K mg base (My.CX1 P w) (3+n+1) d.w1l d.w0u ["self","name"] (wef n K d):=by
 exists okX T.waf w3m
 .right
 obtain⟨t,S,x,rfl,hT,hS,hx,q1,q2⟩:=h;exists (qa2 (qae (i:=2) w3m.nd rfl (uD rfl) (qc2 #[pv 1]))
  (qa2 (qb1 (qbj rfl rfl) rfl (qaw (qb6 (pv 0) T.w03 T.w2p ((wcb T).mono #[]) hr T.wds .nil qau #[pv 1])) (qab (i:=3) w3m.nd rfl (uD rfl)) (qa6 (qbq (qf2 vT PySem.F.slot_list_extend PySem.F.type_list_extend jhd (pv 2) #[qb6 (pv 0) T.w03 T.w17 IH hr T.w60 .nil qau #[pv 3]]))))
  (qa6 (qaf (pv 2))))),[sr t,some (x),none,none];have ct:=T.w03;obtain⟨dx,ht⟩:=hT.1;have nd:=hT.2.2.2.1;left;rename_i lt hlt;have sl:=qa4 hlt (.lst [x]);refine⟨t,S,x,rfl,hT.same sl,hx.same sl,fun e he=>?_,fun he=>q2 he lt hlt⟩;obtain⟨hD,q⟩:=q1 e he;obtain⟨z,rfl⟩:∃z,x=.str z:=by
  rcases hx with h|⟨_,nz⟩
  .exact h
  .rw[qde nz] at he;cases he
 obtain⟨hme,rfl⟩:=qd7 he;intro lk ss H1 s1 hlk ek hp hs;have eT:=s1 _ _ (qa1 (H:=H) (a:=lt) (o:=.lst [V.str e.n]));left;have ntk:lk≠lt:=fun z=>by subst z;rw[qa1] at hlk;cases hlk
 refine qbp (xs:=ss.map V.str) (fun i σ H'=>∃(parts:List (Str×List Str))(w:Option V),σ=[sr t,some (.str e.n),sr lt,w]/\parts.map (·.1)=ss.take i/\(∀p∈parts,jro S n p.1 p.2)/\jab H H'/\H' lk=some (.lst (ss.map V.str))/\H' lt=some (.lst ((e.n::flat parts).map V.str)))
  ⟨[],_,rfl,rfl,fun p hp=>absurd hp (by simp),sl.trans s1,ek,eT⟩ ?_ ?_ ?_
 .rintro i σ H' _ ⟨parts,w,_,_,_,_,ek',_⟩;exact SqL.of ek'
 .rintro i v σ H' hv ⟨parts,w,rfl,hps,hB,sm,ek',eT'⟩;rw[zC] at hv;obtain⟨y,hy,rfl⟩:=uH.mp hv;have hyk:y∈qbs S e.n:=hp.mem_iff.mp (zE hy);obtain⟨ey,h1,h2⟩:=jrq nd hyk;have ht':=sm _ _ ht;left;refine use t S e.n y ey H' _ _ (hT.same sm) hS hD hyk h1 h2 fun l zs H2 s2 hl el hBy=>?_;have eT2:=s2 _ _ eT';have hps2:(parts++[(y,zs)]).map (·.1)=ss.take (i+1):=by rw[zI,hps,zM,hy];rfl
  have hB2:∀p∈parts++[(y,zs)],jro S n p.1 p.2:=fun p hp=>by
   rcases zN.mp hp with h|h
   .exact hB p h
   .have:=zF.mp h;subst this;exact hBy
  have ef:flat (parts++[(y,zs)])=flat parts++zs:=by rw[jky];congr 1;simp[flat]
  have hlen:=hS _ _ _ (jn4 (n:=n) (z:=e.n) (parts:=parts++[(y,zs)]) (rest:=ss.drop (i+1)) (by rw[hps2,List.take_append_drop];exact hp) hB2);rw[ef,zR,zT] at hlen;left;refine jkx eT2 el (by rw[zB,zB,zR];show _<=16777216;omega) ?_;left;refine⟨parts++[(y,zs)],_,rfl,hps2,hB2,qb9 (sm.trans s2) hlt,by rw[qa7 ntk];exact s2 _ _ ek',?_⟩;rw[ef,<-zI];exact qa1
 .rintro σ H' ⟨parts,w,rfl,hps,hB,sm,ek',eT'⟩;rw[zB,zH] at hps;left;exact q lt _ H' sm hlt eT' (jrp (by rw[hps];exact hp) hB)
def wi2{P:vA}{w:vN}{K:uX}{mg:Str->Option uB}{base:vU}{CX:CXT}{k:Nat}{f:Addr}{fd:uJ}{ps:List Str} :jac P w K mg base CX k f fd ps (fun _ _ _ _=>False):=
 ⟨fun _ _ _ _ h=>h.elim,fun _ _ _ _ _ _ _ _ _ _ _ _ _ h=>h.elim⟩
theorem whc{P:vA}{w:vN}{K:uX}{mg:Str->Option uB}{base:vU}{d:Ad}(T:Tx K mg d):∀n:Nat,jac P w K mg base (My.CX1 P w) (3+n+1) d.w1l d.w0u ["self","name"] (wef n K d)
 |0=>jft T 0 (fun _ _ _ _=>False) wi2 fun t S z y e H Q E _ _ hD hy _ _ _=>by
  have:qbs S z=[]:=hD;rw[this] at hy;simp at hy
 |n+1=>jft T (n+1) (wef n K d) (whc T n) fun t S z y e H Q E hT hS hD hy h1 h2 q=>by
  refine⟨t,S,.str y,rfl,hT,hS,.inl ⟨y,rfl⟩,fun e' he'=>?_,fun he'=>?_⟩
  .have ee:e=e':=uU (h1.symm.trans he');subst ee;rw[h2];exact⟨hD y hy,fun l zs H' sm hl el hB=>q l zs H' sm hl el hB⟩
  .rw[show who S (.str y)=some e from h1] at he';cases he'
def w9s(K:uX)(d:Ad):Sp:=wef 12 K d
def w9m:jac P w K mg base (My.CX1 P w) 16 d.w1l d.w0u ["self","name"] (w9s K d):=whc T 12
noncomputable def upS(S:Ts)(y:Str):Option Str:=(S.at y).bind fun e=>e.x.el
noncomputable def anc(S:Ts):Nat->Str->Option Str
 |0,y=>some y
 |k+1,y=>(upS S y).bind (anc S k)
theorem qe7{S:Ts}:∀(i j:Nat)(y:Str),anc S (i+j) y=(anc S i y).bind (anc S j)
 |0,j,y=>by rw[Nat.zero_add];rfl
 |i+1,j,y=>by
  rw[show i+1+j=(i+j)+1 by omega];show(upS S y).bind (anc S (i+j))=((upS S y).bind (anc S i)).bind (anc S j)
  cases upS S y with
  |none=>rfl
  |some u=>exact qe7 i j u
def WF(S:Ts):Prop:=(S.hl.map (·.n)).Nodup/\∀e∈S.hl,∃zs,jau S e.n zs
theorem jrr(h:S.at z=some e):upS S z=e.x.el:=by unfold upS;rw[h];rfl
theorem jkz{zs:List Str}(h:jau S z zs):anc S zs.length z=none:=by
 induction h with
 |top h n=>show(upS S _).bind _=none;rw[jrr h,n];rfl
 |up h n r ih=>show(upS S _).bind _=none;rw[jrr h,n];exact ih
theorem jfu(w:WF S){k:Nat}{z:Str}:anc S (k+1) z≠some z:=by
 intro c
 cases hz:S.at z with
 |none=>
  have:anc S (k+1) z=none:=by show(upS S z).bind _=none;unfold upS;rw[hz];rfl
  rw[this] at c;cases c
 |some e=>
  obtain⟨zs,hl⟩:=w.2 e (qd7 hz).1;rw[(qd7 hz).2] at hl;have he:=jkz hl;have rep:∀m,anc S (m*(k+1)) z=some z:=by
   intro m
   induction m with
   |zero=>rw[Nat.zero_mul];rfl
   |succ m ih=>rw[Nat.succ_mul,qe7,ih];exact c
  have h1:=rep zs.length;have h2:zs.length*(k+1)=zs.length+zs.length*k:=by rw[Nat.mul_add,Nat.mul_one];omega
  rw[h2,qe7,he] at h1
  cases h1
theorem jl6(w:WF S){y z:Str}(h:y∈qbs S z):upS S y=some z:=by
 obtain⟨e,he,rfl⟩:=zJ.mp h;obtain⟨hm,hd⟩:=zW.mp he;unfold upS;rw[jdh w.1 hm];exact of_decide_eq_true hd
theorem jgj(w:WF S)(z:Str):(qbs S z).Nodup:=by
 unfold qbs;exact List.Nodup.sublist (List.Sublist.map _ List.filter_sublist) w.1
theorem jet{S:Ts}(w:WF S):∀{n:Nat} {z:Str} {zs:List Str},jo0 S n z zs->∀y∈zs,∃k,anc S k y=some z
 |0,z,_,⟨parts,rest,hp,rfl,hb⟩,y,hy=>by
  rcases zP.mp hy with rfl|hy
  .exact⟨0,rfl⟩
  .obtain⟨l,hl,_⟩:=bJ.mp hy;obtain⟨p,hpp,_⟩:=zJ.mp hl;exact(hb p hpp).elim
 |n+1,z,_,⟨parts,rest,hp,rfl,hb⟩,y,hy=>by
  rcases zP.mp hy with rfl|hy
  .exact⟨0,rfl⟩
  .obtain⟨l,hl,hyl⟩:=bJ.mp hy;obtain⟨p,hpp,rfl⟩:=zJ.mp hl;obtain⟨k,hk⟩:=jet w (hb p hpp) y hyl;have hu:=jl6 w (hp.mem_iff.mp (zO _ (zJ.mpr ⟨p,hpp,rfl⟩)));exact⟨k+1,by rw[qe7,hk];show(upS S p.1).bind _=_;rw[hu];rfl⟩
theorem apart(w:WF S){p q z y:Str}{i j:Nat}(hp:upS S p=some z)(hq:upS S q=some z)(ne:p≠q)(hi:anc S i y=some p)(hj:anc S j y=some q)(le:i<=j):False:=by
 obtain⟨c,rfl⟩:=Nat.exists_eq_add_of_le le;rw[qe7,hi] at hj;have hj':anc S c p=some q:=hj
 cases c with
 |zero=>exact ne (uU hj')
 |succ c=>
  have h1:(upS S p).bind (anc S c)=some q:=hj';rw[hp] at h1;have h2:anc S c z=some q:=h1;refine jfu w (k:=c) (z:=z) ?_;rw[qe7,h2];show(upS S q).bind _=_;rw[hq];rfl
theorem qfm{S:Ts}(w:WF S){z:Str}:∀{parts:List (Str×List Str)},(parts.map (·.1)).Nodup->(∀p∈parts,upS S p.1=some z)->(∀p∈parts,p.2.Nodup/\∀y∈p.2,∃k,anc S k y=some p.1)->(flat parts).Nodup
 | [],_,_,_=>yJ
 |p::r,nd,hu,hb=>by
  rw[zV,zZ] at nd;have ih:=qfm w (z:=z) nd.2 (fun q hq=>hu q (zD _ hq)) fun q hq=>hb q (zD _ hq);show(p.2++flat r).Nodup;rw[aW];refine⟨(hb p (zG ..)).1,ih,fun a ha b hbm e=>?_⟩;subst e;obtain⟨l,hl,hal⟩:=bJ.mp hbm;obtain⟨q,hq,rfl⟩:=zJ.mp hl;obtain⟨i,hi⟩:=(hb p (zG ..)).2 a ha;obtain⟨j,hj⟩:=(hb q (zD _ hq)).2 a hal;have ne:p.1≠q.1:=fun z=>nd.1 (by rw[z];exact zJ.mpr ⟨q,hq,rfl⟩);have up:=hu p (zG ..);have uq:=hu q (zD _ hq);rcases Nat.le_total i j with h|h
  .exact apart w up uq ne hi hj h
  .exact apart w uq up ne.symm hj hi h
theorem qdm{S:Ts}(w:WF S):∀{n:Nat} {z:Str} {zs:List Str},jo0 S n z zs->zs.Nodup/\∀y∈zs,y=z\/y∈S.hl.map (·.n)
 |0,z,_,⟨parts,rest,hp,rfl,hb⟩=>by
  have:parts=[]:=by
   cases parts with
   |nil=>rfl
   |cons p r=>exact(hb p (zG ..)).elim
  subst this;exact⟨by simp[flat],fun y hy=> .inl (by simpa[flat] using hy)⟩
 |n+1,z,_,⟨parts,rest,hp,rfl,hb⟩=>by
  have kd:=jgj w z;have hk:∀p∈parts,p.1∈qbs S z:=fun p h=>hp.mem_iff.mp (zO _ (zJ.mpr ⟨p,h,rfl⟩));have hu:∀p∈parts,upS S p.1=some z:=fun p h=>jl6 w (hk p h);have hn:(parts.map (·.1)).Nodup:=(aW.mp (hp.nodup_iff.mpr kd)).1;have fl:=qfm w (z:=z) hn hu fun p h=>⟨(qdm w (hb p h)).1,jet w (hb p h)⟩;refine⟨zZ.mpr ⟨fun hm=>?_,fl⟩,fun y hy=>?_⟩
  .obtain⟨l,hl,hal⟩:=bJ.mp hm;obtain⟨q,hq,rfl⟩:=zJ.mp hl;obtain⟨k,hk'⟩:=jet w (hb q hq) z hal;refine jfu w (k:=k) (z:=z) ?_;rw[qe7,hk'];show(upS S q.1).bind _=_;rw[hu q hq];rfl
  .rcases zP.mp hy with rfl|hy
   .exact .inl rfl
   .obtain⟨l,hl,hal⟩:=bJ.mp hy;obtain⟨q,hq,rfl⟩:=zJ.mp hl;have hq1:q.1∈S.hl.map (·.n):=by
     obtain⟨e,he,e1⟩:=zJ.mp (hk q hq);rw[<-e1];exact zJ.mpr ⟨e,(zW.mp he).1,rfl⟩
    rcases(qdm w (hb q hq)).2 y hal with rfl|h
    .exact .inr hq1
    .exact .inr h
def ji2(w:WF S)(hz:S.hl.length<=60):jt9 S:=fun n z zs h=>by
 obtain⟨nd,hm⟩:=qdm w h;have:=jnl (m:=z::S.hl.map (·.n)) nd fun y hy=>by
  rcases hm y hy with rfl|h
  .exact zG ..
  .exact zD _ h
 rw[zR,zB] at this;omega
noncomputable def jfv(S:Ts)(y:Str):Pt:=match S.at y with
 |some e=>⟨e.x.pa,e.x.kp,e.x.fp⟩
 |none=>⟨0,[],noF⟩
theorem qgn(h:S.at y=some e):jfv S y=⟨e.x.pa,e.x.kp,e.x.fp⟩:=by unfold jfv;rw[h]
def qh0(S:Ts):Prop:=S.ws.length<=100/\∀e∈S.hl,∀z,e.x.fp z≠none->z∈S.ws
def w43(K:uX)(d:Ad):Sp:=fun vs H Q E=>∃(t:Addr)(S:Ts)(x:V),vs=[.ref t,x]/\qf4 d H t S/\WF S/\qh0 S/\qev K H x/\
 (∀e,who S x=some e->Dep S 12 e.n/\∀l zs k' H',jab H H'->H l=none->H' l=some (.dK k')->Ben S 12 e.n zs->AD k' (ji0 (zs.map (jfv S)))->Q (.ref l) H')/\(who S x=none->∀l,H l=none->E (.ref d.w0k) none (upd H l (.lst [x])))
include T in
theorem w40:jac P w K mg base (My.CX1 P w) 17 d.w1c d.w0y ["self","name"] (w43 K d):=by
 exists okX T.w4d w3z
 .right
 obtain⟨t,S,x,rfl,hT,hW,hO,hx,q1,q2⟩:=h;refine⟨_,(qa6 (qaf (qac ((wdj T).mono ∅) hr rfl T.wey T.wap.kp T.wem .nil qas #[qcm (caps:=[0]) (cn:=["self"]) (qc8 rfl rfl (by rfl) (by rfl) rfl ⟨rfl,trivial⟩ (by rfl) rfl ⟨⟨rfl,rfl,rfl,rfl,_,rfl⟩,trivial⟩ ∅) rfl (qaw (qb6 (pv 0) T.w03 T.w17 ((w9m T).mono ∅) hr T.w60 .nil qau #[pv 1])) (fun _ _ _ _=>qdd) (fun _ _ _ _=>(qay (qay (pv 1) rfl|||pv 0) rfl))]))),?_⟩
 walk_at"d"
 dsimp only[cxC];refine qad (σ:=[sr t,some (x)]) rfl ?_;have ct:=T.w03;have ch:=T.w1v;have nh:qaq K d.w01 "houses":=T.w05;have nf:qaq K d.w06 "promise":=T.w0c;obtain⟨dx,ht⟩:=hT.1;have nd:=hT.2.2.2.1;left;refine⟨t,S,x,rfl,hT,ji2 hW hT.2.2.2.2.1,hx,fun e he=>⟨(q1 e he).1,?_⟩,q2⟩;obtain⟨hD,q⟩:=q1 e he;intro lb zs H1 s1 hlb eb hB;left;have hT1:=hT.same s1;obtain⟨⟨_,ht1⟩,hw,hh,_,hz,hE⟩:=hT1;have hbn:=qdm hW (Ben.part hB);have hzs:=ji2 hW hz 12 _ _ (Ben.part hB);have hin:∀y∈zs,∃ey,S.at y=some ey/\ey∈S.hl:=fun y hy=>by
  have hy':y∈S.hl.map (·.n):=by
   rcases hbn.2 y hy with rfl|h
   .obtain⟨z,rfl⟩:∃z,x=.str z:=by
     rcases hx with h|⟨_,nz⟩
     .exact h
     .rw[qde nz] at he;cases he
    exact zJ.mpr ⟨e,(qd7 he).1,rfl⟩
   .exact h
  obtain⟨ey,hm,rfl⟩:=zJ.mp hy';exact⟨ey,jdh nd hm,hm⟩
 intro C s0 H0 fp na hna;refine jef zs.length (fun i H'=>H'=upd H1 na (.lst (((zs.take i).map (jfv S)).map fun u=> .ref u.a))) rfl ?_ ?_ ?_ ?_
 .rintro i H' hi rfl;exact⟨_,.str zs[i],SqL.of (qaa eb hna),by rw[zC,zA hi];rfl⟩
 .rintro H' rfl;exact⟨_,SqL.of (qaa eb hna),by rw[zB];exact uF _⟩
 .rintro i H' v H'' hi rfl ⟨rfl,hy⟩;have hv:=hy _ (SqL.of (qaa eb hna));rw[zC,zA hi] at hv
  cases hv
  obtain⟨ey,h1,hm⟩:=hin _ (zY hi);obtain⟨⟨dy,hya⟩,_⟩:=hE ey hm;left;refine jkm (h:=ey.a) (jdf (.inl hh) hna) (by rw[qe4,h1];rfl) ?_;left;rw[qd1,zM,zA hi]
  congr 2
  simp only[Option.toList_some,zI,zV,fM,qgn h1]
 rintro H' rfl;rw[zH];have s2:=qa4 hna (.lst ((zs.map (jfv S)).map fun u=>V.ref u.a));have eN:upd H1 na (.lst ((zs.map (jfv S)).map fun u=>V.ref u.a)) na=some (.lst ((zs.map (jfv S)).map fun u=>V.ref u.a)):=qa1;left;refine⟨na,zs.map (jfv S),S.ws,rfl,SqL.of eN,hO.1,fun u hu=>?_,fun l k' H2 s3 hl el hA=>q l zs k' H2 ((s1.trans s2).trans s3) ((s1.trans s2).free hl) el hB hA⟩;obtain⟨y,hy,rfl⟩:=zJ.mp hu;obtain⟨ey,h1,hm⟩:=hin y hy;obtain⟨_,hp,hA,_⟩:=hE ey hm;rw[qgn h1];exact⟨s2 _ _ hp,hA,hO.2 ey hm⟩
inductive jbw(K:uX)(d:Ad)(vs:List V)(H:Hp)(Q:VK)(E:XK):Prop
 |mk(x:V)(a b:Addr)(ka kb:List (Key×V))(f g:Str->Option Int)(_:vs=[x,.ref a,.ref b])(_:Rd H a (.dK ka))(_:Rd H b (.dK kb))(_:AD ka f)(_:AD kb g)(_:ka.length<64)(_:(∀z n,f z=some n->n<=gN g z))(_:∀H',jab H H'->Q .non H')
include T in
theorem w2e:jac P w K mg base (My.CX1 P w) 3 d.w2z d.w2k ["name","promises","cap"] (jbw K d):=by
 exists okX T.w1t w44
 .right
 obtain⟨x,a,b,ka,kb,f,g,rfl,ha,hb,hf,hg,hz,hw,q⟩:=h;exists (qa2 (qae (i:=3) w44.nd rfl (uD rfl) (qac ((wgg T).mono ∅) hr rfl T.wgy T.web.kp T.wgs .nil qas #[pv 1,pv 2]))
  (qa6 (qb5 (qan qeg (pv 3) qcq (qar _)) (qa6 qfl) qal))),[some (x),sr a,sr b,none];left;refine⟨a,b,ka,kb,f,g,rfl,ha,hb,hf,hg,hz,fun H' sm _=>?_,fun z H' sm hv _=>?_⟩
 .left;exact q _ sm
 .obtain⟨h1,h2⟩:=hv
  cases e:f z with
  |none=>exact absurd e h1
  |some n=>
   have h3:=hw z n e;have h4:gN f z=n:=by unfold gN;rw[e];rfl
   omega
inductive jbj(K:uX)(d:Ad)(vs:List V)(H:Hp)(Q:VK)(E:XK):Prop
 |mk(t lb m:Addr)(S:Ts)(zs:List Str)(km:List (Key×V))(fm:Str->Option Int)(_:vs=[.ref t,.ref lb,.ref m])(_:qf4 d H t S)(_:WF S)(_:qh0 S)(_:SqL K H lb (zs.map V.str))(_:H m=some (.dK km))(_:AD km fm)(_:S.ws.length<=50)(_:(∀z,fm z≠none->z∈S.ws))(_:(∀y∈zs,∃e,S.at y=some e/\Dep S 12 y/\∀bs,Ben S 12 y bs->∀z n,qgy (ji0 (bs.map (jfv S))) fm z=some n->n<=gN e.x.fc z))(_:∀H',jab H H'->Q .non H')
include T in
theorem w76:jac P w K mg base (My.CX1 P w) 18 d.w2h d.w2a ["self","names","more"] (jbj K d):=by
 exists okX T.w7h w3o
 .right
 obtain⟨t,lb,m,S,zs,km,fm,rfl,hT,hW,hO,hL,hm,hA,hws,hfm,hy,q⟩:=h;exists qa6 (qb1 (qbj rfl rfl) rfl (qaw (pv 1)) (qab (i:=3) w3o.nd rfl (uD rfl)) (qa6 (qbq (qaz ((w2e T).mono ∅) hr rfl T.w31 T.w1t.kp T.w32 .nil qau #[pv 3,qac ((weg T).mono ∅) hr rfl T.wgf T.wdh.kp T.wfo .nil qas #[qb6 (pv 0) T.w03 T.w09 ((w40 T).mono ∅) hr T.w4g .nil qau #[pv 3],pv 2],qay (qay (pv 0) rfl|||pv 3) rfl])))),[sr t,sr lb,sr m,none];have ct:=T.w03;have ch:=T.w1v;have nh:qaq K d.w01 "houses":=T.w05;have nf:qaq K d.w06 "cap":=T.w1a;left;refine qbp (xs:=zs.map V.str) (fun i σ H'=>jab H H'/\∃w,σ=[sr t,sr lb,sr m,w]) ⟨jab.refl _,_,rfl⟩ ?_ ?_ ?_
 .rintro i σ H' _ ⟨sm,_⟩;exact sm.seq hL
 .rintro i v σ H' hv ⟨sm,w,rfl⟩;rw[zC] at hv;obtain⟨y,hyi,rfl⟩:=uH.mp hv;obtain⟨e,h1,hD,hb⟩:=hy y (zE hyi);obtain⟨dx,ht⟩:=(hT.same sm).1;left;have sup:∀bs:List Str,(∀b∈bs,∃eb,S.at b=some eb/\eb∈S.hl)->∀z,ji0 (bs.map (jfv S)) z≠none->z∈S.ws:=fun bs hbs=>by
   refine ji1 (fun u hu z hz=>?_) noF (fun z hz=>absurd rfl hz);obtain⟨b,hb1,rfl⟩:=zJ.mp hu;obtain⟨eb,h3,h4⟩:=hbs b hb1;rw[qgn h3] at hz;exact hO.2 eb h4 z hz
  refine⟨t,S,.str y,rfl,hT.same sm,hW,hO,.inl ⟨y,rfl⟩,fun e' he'=>?_,fun hn=>?_⟩
  .have ee:e=e':=uU (h1.symm.trans he');subst ee;have hme:=qd7 h1;rw[hme.2];refine⟨hD,fun l bs k' H2 s2 hl el hB hA2=>?_⟩;have hbs:∀b∈bs,∃eb,S.at b=some eb/\eb∈S.hl:=fun b hb1=>by
    have hb2:b∈S.hl.map (·.n):=by
     rcases(qdm hW (Ben.part hB)).2 b hb1 with rfl|h
     .exact zJ.mpr ⟨e,hme.1,hme.2⟩
     .exact h
    obtain⟨eb,h3,rfl⟩:=zJ.mp hb2;exact⟨eb,jdh hW.1 h3,h3⟩
   have l1:=hA2.le (sup bs hbs);have l2:=hA.le hfm;left;refine⟨l,m,k',km,_,fm,rfl,.inl el,(sm.trans s2) _ _ hm,hA2,hA,#[],#[],fun lx kx H3 s3 hlx elx hA3=>?_⟩;have sx:=(sm.trans s2).trans s3;obtain⟨⟨dx3,ht3⟩,_,hh3,_,_,hE3⟩:=hT.same sx;obtain⟨⟨dh,ho⟩,_,_,hc,hcA⟩:=hE3 e hme.1;left;refine jkm (h:=e.a) (.inl hh3) (by rw[qe4,h1];rfl) ?_;left;refine⟨.str y,lx,e.x.ca,kx,e.x.kc,_,e.x.fc,rfl,.inl elx,.inl hc,hA3,hcA,?_,hb bs hB,fun H4 s4=>⟨sx.trans s4,_,rfl⟩⟩;have l3:=hA3.le (ws:=S.ws) (jfn (sup bs hbs) hfm);omega
  .rw[show who S (.str y)=some e from h1] at hn;cases hn
 .rintro σ H' ⟨sm,w,rfl⟩;left;exact q _ sm
def wdr(K:uX)(d:Ad):Sp:=fun vs H Q _=>∃i:Int,vs=[.int i]/\Q (.bl true) H
def w8v(K:uX)(d:Ad):Sp:=fun vs H Q _=>∃i a b:Int,vs=[.int i,.int a,.int b]/\a<=i/\i<=b/\Q (.bl true) H
def wcn(K:uX)(d:Ad):Sp:=fun vs H Q _=>∃i:Int,vs=[.int i]/\0<=i/\i<=10^30/\Q (.bl true) H
include T in
theorem wd9:jac P w K mg base CX0 1 d.w7o d.w6t ["thing"] (wdr K d):=by
 exists T.wau.ok wdz
 .right
 obtain⟨i,rfl,q⟩:=h;exists qa6 (qaf (qey (qaj qbn rfl T.w07 vI #[pv 0,qcd (v:=.ty "int") rfl T.wi6 dP rfl]) (qex (jcs (qaj qbn rfl T.w07 vI #[pv 0,qcd (v:=.ty "bool") rfl T.wfq dB rfl]))))),[some (.int i)];left;exact q
include T in
theorem w4q:jac P w K mg base CX0 2 d.w3a d.w2u ["thing","least","most"] (w8v K d):=by
 exists T.w3k.ok w8n
 .right
 obtain⟨i,a,b,rfl,h1,h2,q⟩:=h;exists qa6 (qaf (qey (qac ((wd9 T).mono ∅) hr rfl T.weo T.wau.kp T.wf8 .nil qas #[pv 0]) (qex (jjy jph jph (pv 1) (pv 0) (pv 2))))),[some (.int i),some (.int a),some (.int b)];left;refine⟨i,rfl,?_⟩;left;rw[gM h2];exact q
include T in
theorem wbt:jac P w K mg base CX0 3 d.w6e d.w5h ["thing"] (wcn K d):=by
 exists T.w9l.ok wci
 .right
 obtain⟨i,rfl,h1,h2,q⟩:=h;exists qa6 (qaf (qac ((w4q T).mono ∅) hr rfl T.w5j T.w3k.kp T.w5e .nil qas #[pv 0,qa5,qag jct qa5 qa5])),[some (.int i)];left;refine⟨i,0,_,rfl,h1,?_,?_⟩
 .exact h2
 left;exact q
theorem qfw(h:z∈ws):inV (.str z) (ws.map V.str)=true:=by
 unfold inV;rw[yF];exact⟨.str z,zJ.mpr ⟨z,h,rfl⟩,by simp[eqV]⟩
theorem jk0{K:uX}{p:Addr}(hS:SqL K H p (ws.map V.str))(h:z∈ws)(q:Q (.bl false) H):rIn K true (.str z) (.ref p) H Q:=by
 refine⟨p,_,rfl,.inl hS,rfl,?_,?_⟩
 .rw[zQ];intro x hx;obtain⟨y,_,rfl⟩:=zJ.mp hx;rfl
 .rw[qfw h];exact q
inductive jcl(K:uX)(d:Ad)(vs:List V)(H:Hp)(Q:VK)(E:XK):Prop
 |mk(a w:Addr)(k:List (Key×V))(f:Str->Option Int)(ws:List Str)(_:vs=[.ref a,.ref w])(_:H a=some (.dK k))(_:AD k f)(_:k.length<=1000)(_:H w=some (.lst (ws.map V.str)))(_:(∀z n,f z=some n->z∈ws/\0<=n/\n<=10^30))(_:∀l k' H',jab H H'->H l=none->H' l=some (.dK k')->AD k' (qdh f)->Q (.ref l) H')
include T in
theorem w74:jac P w K mg base (My.CX1 P w) 4 d.w4y d.w48 ["handed","wares"] (jcl K d):=by
 exists okX T.w59 w4k
 .right
 obtain⟨a,w,kvs,f,ws,rfl,ha,hA,hz,hw,hf,q⟩:=h;exists (qa2 (qb5 (qc1 (qbd (qaj qbn rfl T.w07 vI #[pv 0,qcd (v:=.ty "dict") rfl T.w5y wH rfl]))) (qa6 qfl) qal)
  (qa2 (qdx (qb1 (qbj rfl rfl) rfl (qck (pv 0)) (qab (i:=2) w4k.nd rfl (uD rfl)) (qa6 (qb5 (PW.pt (qe3 (qc1 (qbd (qaj qbn rfl T.w07 vI #[pv 2,qcd (v:=.ty "str") rfl T.wh1 bE rfl]))) (qdv (qan qcx (pv 2) (pv 1) (by rfl))))) (qa6 qfl) qal))))
  (qa2 (qdx (qb1 (qbj rfl rfl) rfl (qck (pv 0)) (qab (i:=3) w4k.nd rfl (uD rfl)) (qa6 (qb5 (qc1 (qbd (qac ((wbt T).mono ∅) hr rfl T.wda T.w9l.kp T.wdf .nil qas #[pv 0|||pv 3]))) (qa6 qfl) qal))))
  (qa6 (qaf (qac ((w9v T).mono ∅) hr rfl T.wa7 T.w5z.kp T.wa5 .nil qas #[pv 0])))))),[sr a,sr w,none,none];left;refine qf1 ha fun o=>?_;have hwa:w≠a:=jgp hw ha (by intro z;cases z);refine qe0 (fun i σ H'=>H'=upd H a (.frz o (.dK kvs))/\∃w2 w3,σ=[sr a,sr w,w2,w3]) ⟨rfl,_,_,rfl⟩ ?_ ?_ ?_
 .rintro i σ H' _ ⟨rfl,_⟩;exact qa1
 .rintro i k v σ H' hk ⟨rfl,w2,w3,rfl⟩;obtain⟨z,n,rfl,rfl,hfz,hzi⟩:=hA.at hk;have hw':upd H a (.frz o (.dK kvs)) w=some (.lst (ws.map V.str)):=by rw[qa7 hwa];exact hw
  show qe6 _ (.str z) _ _ _;left;refine jk0 (SqL.of hw') (hf z n hfz).1 ?_;left;exact⟨rfl,_,_,rfl⟩
 .rintro σ H' ⟨rfl,w2,w3,rfl⟩;refine qdu (qf0 qa1 (qce ha)) ?_;have s2:=qd3 ha (jfm (o:=o) ha);have ha2:upd (upd H a (.frz o (.dK kvs))) a (.dK kvs) a=some (.dK kvs):=qa1;generalize upd (upd H a (.frz o (.dK kvs))) a (.dK kvs)=H2 at*;left;refine qf1 ha2 fun o2=>?_;refine qe0 (fun i σ H'=>H'=upd H2 a (.frz o2 (.dK kvs))/\∃w3,σ=[sr a,sr w,w2,w3]) ⟨rfl,_,rfl⟩ ?_ ?_ ?_
  .rintro i σ H' _ ⟨rfl,_⟩;exact qa1
  .rintro i k v σ H' hk ⟨rfl,w3,rfl⟩;obtain⟨z,n,rfl,rfl,hfz,hzi⟩:=hA.at hk;have hRd:Rd (upd H2 a (.frz o2 (.dK kvs))) a (.dK kvs):=.inr ⟨o2,qa1⟩;show qe6 _ (.str z) _ _ _;left;refine⟨n,rfl,(hf z n hfz).2.1,(hf z n hfz).2.2,?_⟩;left;exact⟨rfl,_,rfl⟩
  .rintro σ H' ⟨rfl,w3,rfl⟩;refine qdu (qf0 qa1 ?_) ?_
   .exact qce ha
   have s3:=qd3 ha2 (jfm (o:=o2) ha2);have ha3:upd (upd H2 a (.frz o2 (.dK kvs))) a (.dK kvs) a=some (.dK kvs):=qa1;generalize upd (upd H2 a (.frz o2 (.dK kvs))) a (.dK kvs)=H3 at*;left;refine⟨a,kvs,f,rfl,ha3,hA,hz,fun l k' H4 s4 hl el hA4=>?_⟩;left;exact q l k' H4 ((s2.trans s3).trans s4) ((s2.trans s3).free hl) el hA4
def wbj(K:uX)(d:Ad):Sp:=fun vs H Q _=>∃(x dx:Addr)(o:Ho),vs=[.ref x,eV o.el,.ref o.pa,.ref o.ca,.int o.w]/\H x=some (.ins d.w06 dx [])/\∀H',H' x=some (.ins d.w06 dx (fsH o))->SameBut x H H'->Q .non H'
include T in
theorem wbi:jac P w K mg base CX0 1 d.w4u d.w47 ["self","elder","promise","cap","weight"] (wbj K d):=by
 exists T.wbr.ok wbo
 .right
 obtain⟨x,dx,o,rfl,hx,q⟩:=h;exists (qa2 (qcj (pv 0) (pv 1) rfl)
  (qa2 (qcj (pv 0) (pv 2) rfl)
  (qa2 (qcj (pv 0) (pv 3) rfl)
  (qa6 (qcj (pv 0) (pv 4) rfl))))),[sr x,some (eV o.el),sr o.pa,sr o.ca,some (.int o.w)];have cl:=T.w1v;have n1:qaq K d.w06 "elder":=T.w0t;have n2:qaq K d.w06 "promise":=T.w0c;have n3:qaq K d.w06 "cap":=T.w1a;have n4:qaq K d.w06 "weight":=T.w18;left;refine qec qa1 cl n2 (by show 1<1000;decide) ?_;left;refine qec qa1 cl n3 (by show 2<1000;decide) ?_;left;refine qec qa1 cl n4 (by show 3<1000;decide) ?_;left;refine q _ (by rw[qa1];rfl) fun b u hb e=>?_;rw[qa7 hb,qa7 hb,qa7 hb,qa7 hb];exact e
inductive jcm(K:uX)(d:Ad)(vs:List V)(H:Hp)(Q:VK)(E:XK):Prop
 |mk(w a b:Addr)(el:Option Str)(ws:List Str)(ka kb:List (Key×V))(f g:Str->Option Int)(wt:Int)(_:vs=[.ref w,eV el,.ref a,.ref b,.int wt])(_:H w=some (.lst (ws.map V.str)))(_:H a=some (.dK ka))(_:AD ka f)(_:ka.length<=1000)(_:H b=some (.dK kb))(_:AD kb g)(_:kb.length<=1000)(_:(∀z n,f z=some n->z∈ws/\0<=n/\n<=10^30))(_:(∀z n,g z=some n->z∈ws/\0<=n/\n<=10^30))(_:1<=wt)(_:wt<=1000)(_:∀h o H',jab H H'->H h=none->H o.pa=none->H o.ca=none->jl4 d H' h o->o.el=el->o.w=wt->(∀z,o.fp z=qdh f z)->(∀z,o.fc z=qdh g z)->Q (.ref h) H')
include T in
theorem w79:jac P w K mg base (My.CX1 P w) 5 d.w5a d.w4n ["wares","elder","promise","cap","weight"] (jcm K d):=by
 exists okX T.w57 w4f
 .right
 obtain⟨w,a,b,el,ws,ka,kb,f,g,wt,rfl,hw,ha,hA,hz,hb,hB,hz2,hf,hg,w0,w1,q⟩:=h;exists (qa2 (qae (i:=5) w4f.nd rfl (uD rfl) (qaz ((w74 T).mono ∅) hr rfl T.w8b T.w59.kp T.w8h .nil qau #[pv 2,pv 0]))
  (qa2 (qae (i:=6) w4f.nd rfl (uD rfl) (qaz ((w74 T).mono ∅) hr rfl T.w8b T.w59.kp T.w8h .nil qau #[pv 3,pv 0]))
  (qa2 (qb5 (qc1 (qbd (qac ((w4q T).mono ∅) hr rfl T.w5j T.w3k.kp T.w5e .nil qas #[pv 4,qa5,qer rfl T.w83 T.w0v]))) (qa6 qfl) qal)
  (qa6 (qaf (jmy T.w73 ((wbi T).mono ∅) hr rfl T.wie T.wc2 .nil qas #[pv 1,pv 5,pv 6,pv 4])))))),[sr w,some (eV el),sr a,sr b,some (.int wt),none,none];left;refine⟨a,w,ka,f,ws,rfl,ha,hA,hz,hw,hf,fun lp kp H1 s1 hlp ep hAp=>?_⟩;left;refine⟨b,w,kb,g,ws,rfl,s1 _ _ hb,hB,hz2,s1 _ _ hw,hg,fun lc kc H2 s2 hlc ec hAc=>?_⟩;left;refine⟨wt,1,1000,rfl,w0,w1,?_⟩;left;intro x dx hx hdx ne;have ep2:=s2 _ _ ep;refine⟨x,dx,⟨el,lp,kp,qdh f,lc,kc,qdh g,wt⟩,rfl,qa1,fun H3 ex sb=>⟨rfl,?_⟩⟩;have s3:jab H2 H3:=fun c o hc=>sb c o (qa9 hc hx) (by rw[qa7 (qa9 hc hx),qa7 (qa9 hc hdx)];exact hc);left;exact q x ⟨el,lp,kp,qdh f,lc,kc,qdh g,wt⟩ H3 ((s1.trans s2).trans s3) ((s1.trans s2).free hx) hlp (s1.free hlc) ⟨⟨dx,ex⟩,s3 _ _ ep2,hAp,s3 _ _ ec,hAc⟩ rfl rfl (fun _=>rfl) fun _=>rfl
def qb9{o:HO}(s:jab H H')(n:H a=none):jab H (upd H' a o):=fun b u e=>by rw[qa7 (qa9 e n)];exact s b u e
noncomputable def isL(c:Nat):Bool:=decide (97<=c) && decide (c<=122)
theorem inL:∀c:Nat,c<128->(!(aK (Str.ofString "abcdefghijklmnopqrstuvwxyz") ⟨(List.toArray [c])⟩ 0 (Str.ofString "abcdefghijklmnopqrstuvwxyz").length 1).isEmpty)=isL c:=by decide+kernel
noncomputable def qeu(x:Str):List Nat:=x.cps.toList
noncomputable def qes(x:Str):Bool:=decide (1<=x.length) && decide (x.length<=8) && (qeu x).all isL
theorem ji3(x:Str):(qeu x).length=x.length:=by simp[qeu,Str.length]
theorem jk1(h:qes z=true):1<=z.length/\z.length<=8/\∀c∈qeu z,isL c=true:=by
 unfold qes at h;rw[wC,wC,zQ] at h;exact⟨of_decide_eq_true h.1.1,of_decide_eq_true h.1.2,h.2⟩
theorem jrs{c:Nat}(h:isL c=true):c<128:=by
 unfold isL at h;rw[wC] at h;have:=of_decide_eq_true h.2;omega
def wex(K:uX)(d:Ad):Sp:=fun vs H Q _=>∃z,vs=[.str z]/\qes z=true/\∀H',jab H H'->Q (.bl true) H'
include T in
theorem wak:jac P w K mg base CX0 1 d.w99 d.w7m ["thing"] (wex K d):=by
 exists T.w9g.ok wek
 .right
 obtain⟨z,rfl,hg,q⟩:=h;obtain⟨h1,h8,hL⟩:=jk1 hg;have lz:=ji3 z;refine⟨_,(qa2 (qb5 (qc1 (qbd (qaj qbn rfl T.w07 vI #[pv 0,qcd (v:=.ty "str") rfl T.wh1 bE rfl]))) (qa6 (qaf qcn)) qal)
  (qa2 (qb5 (PW.pt (qe3 (qan jd2 (qaj jdb rfl T.w45 vY #[pv 0]) qa5 (qar _)) (qdv (qan qg6 (qaj jdb rfl T.w45 vY #[pv 0]) (qer rfl T.wae T.w1s) (qar _))))) (qa6 (qaf qcn)) qal)
  (qa6 (qaf (qaj (qen rfl) rfl T.wgu bF #[qcm (caps:=[]) (cn:=[]) (qc8 rfl rfl (by rfl) (by rfl) rfl trivial (by rfl) rfl trivial ∅) rfl (jqf (pv 0)) (fun _ _ _ _=>qdd) (fun _ _ _ _=>(qcr jqh (pv 0) (qer rfl T.wfb T.w51) (by rfl)))]))))),?_⟩
 walk_at"d"
 try dsimp only[cxC]
 refine qad (σ:=[some (.str z)]) rfl ?_;left;intro C s0 H0 fp acc hacc;refine jef z.length (fun i H'=>H'=upd H acc (.lst (((qeu z).take i).map fun c=>V.bl (isL c)))) (by simp) (fun i H' hi _=>hi) (fun H' _=>rfl) ?_ ?_
 .rintro i H' v H'' hi rfl ⟨rfl,c,hc,rfl⟩;have hc':(qeu z)[i]?=some c:=by unfold qeu;rw[bD];exact hc
  have c128:=jrs (hL c (zE hc'));left;rw[inL c c128,qd1]
  congr 2
  rw[zM,hc',zI];rfl
 .rintro H' rfl;left;have e1:((qeu z).take z.length).map (fun c=>V.bl (isL c))=((qeu z).map isL).map V.bl:=by
   rw[<-lz,zH,yP];rfl
  rw[e1];refine jke (bs:=(qeu z).map isL) (SqL.of qa1) ?_;have e2:((qeu z).map isL).all id=true:=by
   rw[yO,zQ];exact hL
  rw[e2];left;exact q _ (qa4 hacc _)
def wb6(K:uX)(d:Ad):Sp:=fun vs H Q _=>∃z,vs=[.str z]/\qes z=true/\∀H',jab H H'->Q .non H'
include T in
theorem w78:jac P w K mg base (My.CX1 P w) 2 d.w5k d.w4o ["thing"] (wb6 K d):=by
 exists okX T.w53 way
 .right
 obtain⟨z,rfl,hg,q⟩:=h;exists qa6 (qb5 (qc1 (qbd (qac ((wak T).mono ∅) hr rfl T.wcd T.w9g.kp T.wc3 .nil qas #[pv 0]))) (qa6 qfl) qal),[some (.str z)];left;refine⟨z,rfl,hg,fun H' sm=>?_⟩;left;exact q _ sm
structure jrt(ws:List Str):Prop where
 lo:1<=ws.length
 hi:ws.length<=6
 ok:∀z∈ws,qes z=true
 nd:ws.Nodup
def wch(K:uX)(d:Ad):Sp:=fun vs H Q _=>∃(a:Addr)(ws:List Str),vs=[.ref a]/\H a=some (.lst (ws.map V.str))/\jrt ws/\∀H',jab H H'->Q (.bl true) H'
include T in
theorem wcf:jac P w K mg base CX0 2 d.w6s d.w4t ["thing"] (wch K d):=by
 exists T.w9r.ok wc0
 .right
 obtain⟨a,ws,rfl,ha,g,q⟩:=h;have g1:=g.lo;have g2:=g.hi;have hl:(ws.map V.str).length=ws.length:=zB _;refine⟨_,(qa2 (qb5 (PW.pt (qe3 (qc1 (qbd (qaj qbn rfl T.w07 vI #[pv 0,qcd (v:=.ty "list") rfl T.wec aY rfl]))) (qe3 (qan jd2 (qaj qbm rfl T.w45 vY #[pv 0]) qa5 (qar _)) (qdv (qan qg6 (qaj qbm rfl T.w45 vY #[pv 0]) (qer rfl T.wcg T.w2r) (qar _)))))) (qa6 (qaf qcn)) qal)
  (qa6 (qaf (qey (qaj (qen rfl) rfl T.wgu bF #[qcm (caps:=[]) (cn:=[]) (qc8 rfl rfl (by rfl) (by rfl) rfl trivial (by rfl) rfl trivial ∅) rfl (qaw (pv 0)) (fun _ _ _ _=>qdd) (fun _ _ _ _=>(qac ((wak T).mono ∅) hr rfl T.wcd T.w9g.kp T.wc3 .nil qas #[pv 0]))]) (qex (qcr qd9 (qaj jic rfl T.w45 vY #[qbr jib rfl T.wjc PyProof.Rows.boot_set #[pv 0]]) (qaj qbm rfl T.w45 vY #[pv 0]) (qar _))))))),?_⟩
 walk_at"d"
 try dsimp only[cxC]
 refine qad (σ:=[sr a]) rfl ?_;left;intro C s0 H0 fp acc hacc;refine jef ws.length (fun i H'=>jab H H'/\H' acc=some (.lst ((wO i true).map V.bl))) ⟨qa4 hacc _,qa1⟩ ?_ ?_ ?_ ?_
 .rintro i H' hi ⟨sm,_⟩;exact⟨_,.str ws[i],SqL.of (sm _ _ ha),by rw[zC,zA hi];rfl⟩
 .rintro H' ⟨sm,_⟩;exact⟨_,SqL.of (sm _ _ ha),by rw[hl];exact uF _⟩
 .rintro i H' v H'' hi ⟨sm,ea⟩ ⟨rfl,hy⟩;have hv:=hy _ (SqL.of (sm _ _ ha));rw[zC,zA hi] at hv
  cases hv
  left;refine⟨ws[i],rfl,g.ok _ (zY hi),fun H2 s2=>?_⟩;refine⟨_,s2 _ _ ea,by rw[zB,yT];show _<16777216;omega,qb9 (sm.trans s2) hacc,?_⟩;rw[qa1,List.replicate_succ',zI];rfl
 rintro H' ⟨sm,ea⟩;left;refine jke (bs:=wO ws.length true) (SqL.of ea) ?_;have e2:(wO ws.length true).all id=true:=by simp
 rw[e2];left;refine jrb (zs:=ws) (SqL.of (sm _ _ ha)) g.nd #[] fun c hc=>?_;left;refine jnr qa1 ?_;left;refine jll (SqL.of (qaa (sm _ _ ha) hc)) ?_;left;rw[hl,gM rfl];exact q _ (sm.trans (qa4 hc _))
def Fin(ws:List Str)(f:Str->Option Int):Prop:=∀z n,f z=some n->z∈ws/\0<=n/\n<=10^30
theorem jdi{n:Int}(h:qdh f y=some n):f y=some n/\0<n:=by
 unfold qdh at h
 cases e:f y with
 |none=>rw[e] at h;cases h
 |some m=>
  rw[e] at h;by_cases c:0<m
  .have h':some m=some n:=by simpa[c] using h
   cases h'
   exact⟨rfl,c⟩
  .exact absurd h (by simp[c])
theorem jn5(hf:Fin ws f)(y:Str):gN (qdh f) y=gN f y:=by
 unfold gN qdh
 cases e:f y with
 |none=>rfl
 |some m=>
  have:=(hf y m e).2.1;by_cases c:0<m
  .simp[c]
  .have z:m=0:=by omega
   subst z;rfl
def jl7{g:Str->Option Int}(hg:Fin ws g)(h:∀y,gN f y<=gN g y):∀z n,qdh f z=some n->n<=gN (qdh g) z:=fun z n e=>by
 have e1:=(jdi e).1;have:=h z;rw[jn5 hg];unfold gN at this⊢;rw[e1] at this;exact this
def ji4(hf:Fin ws f):∀z,qdh f z≠none->z∈ws:=fun z h=>by
 cases e:qdh f z with
 |none=>exact absurd e h
 |some n=>exact(hf z n (jdi e).1).1
inductive jdj(K:uX)(d:Ad)(vs:List V)(H:Hp)(Q:VK)(E:XK):Prop
 |mk(x dx w a b:Addr)(z:Str)(ws:List Str)(ka kb:List (Key×V))(f g:Str->Option Int)(wt:Int)(_:vs=[.ref x,.ref w,.str z,.ref a,.ref b,.int wt])(_:H x=some (.ins d.w01 dx []))(_:H w=some (.lst (ws.map V.str)))(_:jrt ws)(_:qes z=true)(_:H a=some (.dK ka))(_:AD ka f)(_:ka.length<=1000)(_:H b=some (.dK kb))(_:AD kb g)(_:kb.length<=1000)(_:Fin ws f)(_:Fin ws g)(_:1<=wt)(_:wt<=1000)(_:(∀y,gN f y<=gN g y))(_:∀(S:Ts)(e:He) H',SameBut x H H'->qf4 d H' x S->H S.hs=none->H S.sw=none->H e.a=none->H e.x.pa=none->H e.x.ca=none->S.hl=[e]->e.n=z->e.x.el=none->e.x.w=wt->(∀y,e.x.fp y=qdh f y)->(∀y,e.x.fc y=qdh g y)->S.ws.Perm ws->vX S.ws=true->Q .non H')
include T in
theorem wbq:jac P w K mg base (My.CX1 P w) 6 d.w6q d.w3p ["self","wares","name","promise","cap","weight"] (jdj K d):=by
 exists jsd T.wdk w8k
 .right
 obtain⟨x,dx,w,a,b,z,ws,ka,kb,f,g,wt,rfl,hx,hw,gt,gz,ha,hA,za,hb,hB,zb,ff,fg,w0,w1,le,q⟩:=h;have g2:=gt.hi;exists (qa2 (qb5 (qc1 (qbd (qac ((wcf T).mono ∅) hr rfl T.wd1 T.w9r.kp T.wcx .nil qas #[pv 1]))) (qa6 qfl) qal)
  (qa2 (qbq (qaz ((w78 T).mono ∅) hr rfl T.w86 T.w53.kp T.w88 .nil qau #[pv 2]))
  (qa2 (qae (i:=6) w8k.nd rfl (uD rfl) (qaz ((w79 T).mono ∅) hr rfl T.w8f T.w57.kp T.w8i .nil qau #[pv 1,qcq,pv 3,pv 4,pv 5]))
  (qa2 (qbq (qaz ((w2e T).mono ∅) hr rfl T.w31 T.w1t.kp T.w32 .nil qau #[pv 2,qay (pv 6) rfl,qay (pv 6) rfl]))
  (qa2 (qcj (pv 0) (qaj qge rfl T.w2n wF #[pv 1]) rfl)
  (qa6 (qcj (pv 0) (jnd (jkb (pv 2) (pv 6) jnc) rfl rfl (by simp) ∅) rfl))))))),[sr x,sr w,some (.str z),sr a,sr b,some (.int wt),none];have ct:=T.w03;have ch:=T.w1v;have n1:qaq K d.w01 "sorted_wares":=T.w0b;have n2:qaq K d.w01 "houses":=T.w05;have n3:qaq K d.w06 "promise":=T.w0c;have n4:qaq K d.w06 "cap":=T.w1a;left;refine⟨w,ws,rfl,hw,gt,fun H1 s1=>?_⟩;left;refine⟨z,rfl,gz,fun H2 s2=>?_⟩;have t2:=s1.trans s2;left;refine⟨w,a,b,none,ws,ka,kb,f,g,wt,rfl,t2 _ _ hw,t2 _ _ ha,hA,za,t2 _ _ hb,hB,zb,ff,fg,w0,w1,fun h o H3 s3 nh np nc hO eel ew efp efc=>?_⟩;obtain⟨⟨dh,ho⟩,hp,hpA,hc,hcA⟩:=id hO;have efp':o.fp=qdh f:=funext efp;have efc':o.fc=qdh g:=funext efc;have lk:o.kp.length<=ws.length:=hpA.le (by rw[efp'];exact ji4 ff);left;refine⟨.str z,o.pa,o.ca,o.kp,o.kc,o.fp,o.fc,rfl,.inl hp,.inl hc,hpA,hcA,#[],by rw[efp',efc'];exact jl7 fg le,fun H4 s4=>?_⟩;have t4:=(t2.trans s3).trans s4;have hx4:=t4 _ _ hx;have hO4:=hO.same s4;left;refine jh3 (SqL.of (t4 _ _ hw)) #[] fun l ss hl hpm hs=>?_;left;rename_i p hpp;rw[qd1];refine qec (qaa qa1 hpp) ct n2 (by show 1<1000;decide) ?_;left;have npx:p≠x:=fun e=>by subst e;rw[qa1] at hpp;cases hpp
 have np4':upd H4 l (.lst (ss.map V.str)) p=none:=by rw[qa7 npx] at hpp;exact hpp
 have nlx:x≠l:=qa9 hx4 hl;have npl:p≠l:=fun e=>by subst e;rw[qa1] at np4';cases np4'
 have np4:H4 p=none:=by rw[qa7 npl] at np4';exact np4'
 have sF:∀b u,b≠x->H4 b=some u->upd (upd (upd (upd H4 l (.lst (ss.map V.str))) x (.ins d.w01 dx (qdw "sorted_wares" (V.ref l) []))) p (.dK [(uE z,V.ref h)])) x (.ins d.w01 dx (qdw "houses" (V.ref p) (qdw "sorted_wares" (V.ref l) []))) b=some u:=fun b u hb e=>by
  rw[qa7 hb,qa7 (qa9 e np4),qa7 hb,qa7 (qa9 e hl)];exact e
 obtain⟨⟨dh4,ho4⟩,hp4,hpA4,hc4,hcA4⟩:=hO4;refine q ⟨l,ss,p,[⟨z,h,o⟩]⟩ ⟨z,h,o⟩ _ (fun b u hb e=>sF b u hb (t4 _ _ e)) ⟨⟨dx,by rw[qa1];rfl⟩,?_,?_,zZ.mpr ⟨by simp,yJ⟩,by show 1<=60;decide,fun e he=>?_⟩ (t4.free np4) (t4.free hl) (t2.free nh) (t2.free np) (t2.free nc) rfl rfl eel ew efp efc hpm hs
 .show upd _ _ _ l=_;rw[qa7 nlx.symm,qa7 npl.symm,qa7 nlx.symm,qa1]
 .show upd _ _ _ p=_;rw[qa7 npx,qa1];rfl
 .have e':e=⟨z,h,o⟩:=by simpa using he
  subst e';have n1:∀{b:Addr} {u:HO},H4 b=some u->u≠ .ins d.w01 dx []->b≠x:=fun e1 e2 e3=>by
   subst e3;rw[hx4] at e1;exact e2 (uU e1).symm
  refine⟨⟨dh4,sF _ _ (n1 ho4 fun e=>?_) ho4⟩,sF _ _ (n1 hp4 fun e=>by cases e) hp4,hpA4,sF _ _ (n1 hc4 fun e=>by cases e) hc4,hcA4⟩;have:=congrArg (fun u:HO=>match u with| .ins _ _ fs=>fs.length|_=>0) e;simp[fsH] at this
noncomputable def upL(el:Nat->Nat):Nat->Nat->List Nat
 |0,k=> [k]
 |f+1,k=>k ::(if k=0 then[] else upL el f (el k))
noncomputable def qbx(el:Nat->Nat)(k:Nat):List Nat:=upL el k k
def Low(el:Nat->Nat)(n:Nat):Prop:=∀k,0<k->k<n->el k<k
theorem jru(lo:Low el n):∀(f k:Nat),k<n->k<=f->upL el f k=qbx el k:=by
 intro f
 induction f using bW with
 |ind f ih=>
  intro k kn kf
  cases f with
  |zero=>have:k=0:=#[];subst this;rfl
  |succ f=>
   cases k with
   |zero=>rfl
   |succ k=>
    have l:=lo (k+1) #[] kn;show(k+1) ::(if k+1=0 then[] else upL el f (el (k+1)))=(k+1) ::(if k+1=0 then[] else upL el k (el (k+1)));rw[gK #[],gK #[],ih f #[] (el (k+1)) #[] #[]];rcases cA k f with h|h
    .rw[ih k #[] (el (k+1)) #[] #[]]
    .have:f=k:=by omega
     subst this;rw[ih f #[] (el (f+1)) #[] #[]]
def qga(el:Nat->Nat):qbx el 0=[0]:=rfl
theorem qdr{k:Nat}(lo:Low el n)(k0:0<k)(kn:k<n):qbx el k=k::qbx el (el k):=by
 cases k with
 |zero=>omega
 |succ k=>
  have l:=lo (k+1) k0 kn;show(k+1) ::(if k+1=0 then[] else upL el k (el (k+1)))=_;rw[gK #[],jru lo k _ #[] #[]]
theorem qfr(lo:Low el n):∀k,k<n->(qbx el k).length<=k+1:=by
 intro k
 induction k using bW with
 |ind k ih=>
  intro kn
  cases k with
  |zero=>exact uF _
  |succ k=>
   have l:=lo (k+1) #[] kn;rw[qdr lo #[] kn,zR];have:=ih (el (k+1)) l #[];omega
theorem jgk{k:Nat}(lo:Low el n)(kn:k<n):k∈qbx el k:=by
 cases k with
 |zero=>exact zG ..
 |succ k=>rw[qdr lo #[] kn];exact zG ..
theorem qco(lo:Low el n):∀k,k<n->∀j∈qbx el k,j<=k:=by
 intro k
 induction k using bW with
 |ind k ih=>
  intro kn j hj
  cases k with
  |zero=>rw[qga] at hj;simp at hj;omega
  |succ k=>
   have l:=lo (k+1) #[] kn;rw[qdr lo #[] kn] at hj;rcases zP.mp hj with h|h
   .omega
   .have:=ih (el (k+1)) l #[] j h;omega
structure Pl(S:Ts)(nm:Nat->Str)(el:Nat->Nat)(n:Nat):Prop where
 len:S.hl.length=n
 nam:∀k e,S.hl[k]?=some e->e.n=nm k/\e.x.el=if k=0 then none else some (nm (el k))
 inj:∀i j,i<n->j<n->nm i=nm j->i=j
 low:Low el n
section
variable{S:Ts}{nm:Nat->Str}{el:Nat->Nat}{n:Nat}
theorem Pl.get(p:Pl S nm el n){k:Nat}(kn:k<n):∃e,S.hl[k]?=some e/\e.n=nm k/\e.x.el=if k=0 then none else some (nm (el k)):=by
 have h:k<S.hl.length:=by rw[p.len];exact kn
 have e:=zA h;exact⟨_,e,p.nam k _ e⟩
theorem Pl.ix(p:Pl S nm el n){e:He}(h:e∈S.hl):∃k,k<n/\S.hl[k]?=some e/\e.n=nm k/\e.x.el=if k=0 then none else some (nm (el k)):=by
 obtain⟨k,hk,q⟩:=zU.mp h;have e1:S.hl[k]?=some e:=by rw[zA hk,q]
 exact⟨k,by rw[<-p.len];exact hk,e1,p.nam k e e1⟩
theorem Pl.nodup(p:Pl S nm el n):(S.hl.map (·.n)).Nodup:=by
 show List.Pairwise _ _;rw[aV,aE];intro i j hi hj lt q;have h1:=(p.nam i _ (zA hi)).1;have h2:=(p.nam j _ (zA hj)).1;have:=p.inj i j (by rw[<-p.len];exact hi) (by rw[<-p.len];exact hj) (by rw[<-h1,<-h2];exact q);omega
theorem Pl.at(p:Pl S nm el n){k:Nat}(kn:k<n):∃e,S.at (nm k)=some e/\S.hl[k]?=some e/\e.x.el=if k=0 then none else some (nm (el k)):=by
 obtain⟨e,h1,h2,h3⟩:=p.get kn;have:=jdh p.nodup (zE h1);rw[h2] at this;exact⟨e,this,h1,h3⟩
theorem Pl.line(p:Pl S nm el n):∀k,k<n->jau S (nm k) ((qbx el k).map nm):=by
 intro k
 induction k using bW with
 |ind k ih=>
  intro kn;obtain⟨e,h1,_,h3⟩:=p.at kn
  cases k with
  |zero=>exact .top h1 h3
  |succ k=>
   have l:=p.low (k+1) #[] kn;rw[gK #[]] at h3;rw[qdr p.low #[] kn,zV];exact .up h1 h3 (ih _ l #[])
def Pl.wf(p:Pl S nm el n):WF S:=⟨p.nodup,fun e he=>by
 obtain⟨k,kn,_,h,_⟩:=p.ix he;rw[h];exact⟨_,p.line k kn⟩⟩
theorem Pl.kid(p:Pl S nm el n){j:Nat}{y:Str}(jn:j<n)(h:y∈qbs S (nm j)):∃k,0<k/\k<n/\el k=j/\y=nm k:=by
 obtain⟨e,he,rfl⟩:=zJ.mp h;obtain⟨hm,hd⟩:=zW.mp he;obtain⟨k,kn,_,h1,h2⟩:=p.ix hm;have hd':e.x.el=some (nm j):=of_decide_eq_true hd;rw[h2] at hd';by_cases z:k=0
 .rw[gL z] at hd';cases hd'
 .rw[gK z] at hd';have l:=p.low k #[] kn;exact⟨k,#[],kn,p.inj _ _ #[] jn (uU hd'),h1⟩
theorem Pl.dep(p:Pl S nm el n):∀m j,j<n->n<=j+m+1->Dep S m (nm j):=by
 intro m
 induction m with
 |zero=>
  intro j jn hn;show qbs S (nm j)=[]
  cases e:qbs S (nm j) with
  |nil=>rfl
  |cons y r=>
   obtain⟨k,k0,kn,ke,_⟩:=p.kid jn (y:=y) (by rw[e];exact zG ..);have:=p.low k k0 kn;omega
 |succ m ih=>
  intro j jn hn y hy;obtain⟨k,k0,kn,ke,rfl⟩:=p.kid jn hy;have:=p.low k k0 kn;exact ih k kn #[]
end
theorem jua{k:List (Key×V)}(hk:AD k f){ks:List (Str×Addr)}{z:Str}{h:Addr}(hl:qdj ks z=some h):HO.dK k≠ .dK (oK ks):=fun e=>by
 have e2:k=oK ks:=by injection e
 subst e2;have g1:=hk.get z;rw[qgg,hl] at g1
 cases hf:f z with
 |none=>rw[hf] at g1;cases g1
 |some n=>rw[hf] at g1;cases g1
inductive jbk(K:uX)(d:Ad)(vs:List V)(H:Hp)(Q:VK)(E:XK):Prop
 |mk(t a b:Addr)(S:Ts)(z:Str)(xe:V)(ka kb:List (Key×V))(f g:Str->Option Int)(wt:Int)(_:vs=[.ref t,.str z,xe,.ref a,.ref b,.int wt])(_:qf4 d H t S)(_:qes z=true)(_:S.at z=none)(_:qev K H xe)(_:(who S xe=none->∀H',jab H H'->E (.ref d.w0k) none H'))(_:∀e,who S xe=some e->WF S/\qh0 S/\S.ws.length<=50/\H a=some (.dK ka)/\AD ka f/\ka.length<=1000/\H b=some (.dK kb)/\AD kb g/\kb.length<=1000/\Fin S.ws f/\Fin S.ws g/\1<=wt/\wt<=1000/\S.hl.length<40/\(∃zs,jau S e.n zs/\zs.length<12/\∀y∈zs,∃e',S.at y=some e'/\Dep S 12 y/\∀bs,Ben S 12 y bs->∀v n,qgy (ji0 (bs.map (jfv S))) (qdh f) v=some n->n<=gN e'.x.fc v)/\(∀y,gN f y<=gN g y)/\∀(e2:He) H',SameBut S.hs H H'->H e2.a=none->H e2.x.pa=none->H e2.x.ca=none->qf4 d H' t {S with hl:=S.hl++[e2]}->e2.n=z->e2.x.el=some e.n->e2.x.w=wt->(∀y,e2.x.fp y=qdh f y)->(∀y,e2.x.fc y=qdh g y)->Q .non H')
include T in
theorem wbd:jac P w K mg base (My.CX1 P w) 19 d.w5b d.w35 ["self","name","elder","promise","cap","weight"] (jbk K d):=by
 exists jsd T.wbv w4e
 .right
 obtain⟨t,a,b,S,z,xe,ka,kb,f,g,wt,rfl,hT,gz,nz,hx,q2,q1⟩:=h;exists (qa2 (qbq (qaz ((w78 T).mono ∅) hr rfl T.w86 T.w53.kp T.w88 .nil qau #[pv 1]))
  (qa2 (qb5 (qbd (jg6 (pv 0) T.w03 T.w2m ((w9d T).mono ∅) hr T.wal .nil qas #[pv 1])) (qa6 qfl) qal)
  (qa2 (qbq (qb6 (pv 0) T.w03 T.w08 ((w1z T).mono ∅) hr T.w29 .nil qau #[pv 2]))
  (qa2 (qae (i:=6) w4e.nd rfl (uD rfl) (qaz ((w79 T).mono ∅) hr rfl T.w8f T.w57.kp T.w8i .nil qau #[qay (pv 0) rfl,pv 2,pv 3,pv 4,pv 5]))
  (qa2 (qb5 (qan jpi (qaj qgf rfl T.w45 vY #[qay (pv 0) rfl]) (qer rfl T.wbe T.w28) (qar _)) (qa6 qfl) qal)
  (qa2 (qae (i:=7) w4e.nd rfl (uD rfl) (qb6 (pv 0) T.w03 T.w0i ((w24 T).mono ∅) hr T.w2i .nil qau #[pv 2]))
  (qa2 (qb5 (qan jpi (qaj qbm rfl T.w45 vY #[pv 7]) (qer rfl T.wab T.w1r) (qar _)) (qa6 qfl) qal)
  (qa2 (qbq (qaz ((w2e T).mono ∅) hr rfl T.w31 T.w1t.kp T.w32 .nil qau #[pv 1,qay (pv 6) rfl,qay (pv 6) rfl]))
  (qa2 (qbq (qb6 (pv 0) T.w03 T.w0r ((w76 T).mono ∅) hr T.w80 .nil qau #[pv 7,qay (pv 6) rfl]))
  (qa6 (qb2 (qap hr) (qay (pv 0) rfl) (pv 1) (pv 6) rfl))))))))))),[sr t,some (.str z),some (xe),sr a,sr b,some (.int wt),none,none];have ct:=T.w03;have ch:=T.w1v;have n1:qaq K d.w01 "sorted_wares":=T.w0b;have n2:qaq K d.w01 "houses":=T.w05;have n3:qaq K d.w06 "promise":=T.w0c;have n4:qaq K d.w06 "cap":=T.w1a;left;refine⟨z,rfl,gz,fun H1 s1=>?_⟩;have hT1:=hT.same s1;obtain⟨dx,ht⟩:=id hT1.1;left;refine⟨t,S,.str z,rfl,hT1,.inl ⟨z,rfl⟩,?_⟩;rw[show who S (.str z)=none from nz];left;show if false=true then _ else _
 left;refine⟨t,S,xe,rfl,hT1,hx.same s1,fun e he=>?_,fun he=>q2 he H1 s1⟩;obtain⟨hW,hO,hws,ha,hA,za,hb,hB,zb,ff,fg,w0,w1,h40,⟨zs,hL,hz12,hy⟩,le,q⟩:=q1 e he;obtain⟨y,rfl⟩:∃y,xe=.str y:=by
  rcases hx with h|⟨_,nz'⟩
  .exact h
  .rw[qde nz'] at he;cases he
 have ey:e.n=y:=(qd7 he).2;have hsw:=hT1.2.1;left;refine⟨S.sw,a,b,some y,S.ws,ka,kb,f,g,wt,rfl,hsw,s1 _ _ ha,hA,za,s1 _ _ hb,hB,zb,ff,fg,w0,w1,fun h o H3 s3 nh np nc hOo eel ew efp efc=>?_⟩;obtain⟨⟨dh,ho⟩,hp,hpA,hc,hcA⟩:=id hOo;have efp':o.fp=qdh f:=funext efp;have efc':o.fc=qdh g:=funext efc;have lk:o.kp.length<=S.ws.length:=hpA.le (by rw[efp'];exact ji4 ff);have hT3:=hT1.same s3;obtain⟨⟨dx3,ht3⟩,hw3,hh3,nd3,hz3,hE3⟩:=id hT3;left;refine jlz hh3 ?_;rw[qfc];left;refine⟨t,S,.str y,rfl,hT3,.inl ⟨y,zs,rfl,by rw[<-ey];exact hL,#[],fun l hl=>?_⟩⟩;have s4:=qa4 hl (.lst (zs.map V.str));have eL:upd H3 l (.lst (zs.map V.str)) l=some (.lst (zs.map V.str)):=qa1;have hzl:(zs.map V.str).length=zs.length:=zB _;generalize upd H3 l (.lst (zs.map V.str))=H4 at*;have ho4:=s4 _ _ ho;have hp4:=s4 _ _ hp;have hc4:=s4 _ _ hc;left;refine⟨.str z,o.pa,o.ca,o.kp,o.kc,o.fp,o.fc,rfl,.inl hp4,.inl hc4,hpA,hcA,#[],by rw[efp',efc'];exact jl7 fg le,fun H5 s5=>?_⟩;have s35:=s4.trans s5;have ho5:=s35 _ _ ho;have hT5:=hT3.same s35;obtain⟨dx5,ht5⟩:=id hT5.1;left;refine⟨t,l,o.pa,S,zs,o.kp,o.fp,rfl,hT5,hW,hO,SqL.of (s5 _ _ eL),s35 _ _ hp,hpA,hws,by rw[efp'];exact ji4 ff,by rw[efp'];exact hy,fun H6 s6=>?_⟩;have s36:=s35.trans s6;have s16:=s3.trans s36;have s06:=s1.trans s16;obtain⟨⟨dx6,ht6⟩,hw6,hh6,nd6,hz6,hE6⟩:=hT3.same s36;left;have lkn:qdj S.keys z=none:=by rw[qe4,nz];rfl
 have hksz:(oK S.keys).length<sizeLine:=by rw[qfc];show _<16777216;omega
 refine jq1 hh6 hksz ?_;rw[jnp lkn];left;have sF:∀b u,b≠S.hs->H6 b=some u->upd H6 S.hs (.dK (oK (S.keys++[(z,h)]))) b=some u:=fun b u hb e=>by rw[qa7 hb];exact e
 have nH:∀{b:Addr} {u:HO},H6 b=some u->u≠ .dK (oK S.keys)->b≠S.hs:=fun e1 e2 e3=>by
  subst e3;rw[hh6] at e1;exact e2 (uU e1).symm
 have hT1':=hT1;have fresh:∀{b:Addr} {u:HO},H1 b=none->H6 b=some u->b≠S.hs:=fun e1 _ e3=>by
  subst e3;rw[hT1'.2.2.1] at e1;cases e1
 refine q ⟨z,h,o⟩ _ (fun b u hb e=>sF b u hb (s06 _ _ e)) (s1.free nh) (s1.free np) (s1.free nc) ⟨⟨dx6,sF _ _ (nH ht6 (by intro e;cases e)) ht6⟩,sF _ _ (nH hw6 (by intro e;cases e)) hw6,?_,?_,?_,fun e1 he1=>?_⟩ rfl (by rw[ey];exact eel) ew efp efc
 .show upd _ _ _ S.hs=some (.dK (oK (Ts.keys _)));rw[qa1];unfold Ts.keys;rw[zI];rfl
 .show(List.map _ (S.hl++[_])).Nodup;rw[zI,aW];refine⟨nd6,zZ.mpr ⟨by simp,yJ⟩,fun x hx1 y' hy1 e=>?_⟩;have:y'=z:=by simpa using hy1
  subst this;subst e;obtain⟨e2,m2,rfl⟩:=zJ.mp hx1;rw[jdh nd6 m2] at nz
  cases nz
 .show(S.hl++[_]).length<=60;rw[zT];show _+1<=60;omega
 .rcases zN.mp he1 with m|m
  .obtain⟨⟨dy,hy1⟩,hy2,hy3,hy4,hy5⟩:=hE6 e1 m;have no:∀{k:List (Key×V)} {f:Str->Option Int},AD k f->HO.dK k≠ .dK (oK S.keys):=fun hk=>jua hk (z:=e1.n) (h:=e1.a) (by rw[qe4,jdh nd6 m];rfl);exact⟨⟨dy,sF _ _ (nH hy1 (by intro e;cases e)) hy1⟩,sF _ _ (nH hy2 (no hy3)) hy2,hy3,sF _ _ (nH hy4 (no hy5)) hy4,hy5⟩
  .have:e1=⟨z,h,o⟩:=by simpa using m
   subst this;have h6:=s36 _ _ ho;refine⟨⟨dh,sF _ _ (fresh nh h6) h6⟩,sF _ _ (fresh np (s36 _ _ hp)) (s36 _ _ hp),hpA,sF _ _ (fresh nc (s36 _ _ hc)) (s36 _ _ hc),hcA⟩
abbrev ABC:Str:=Str.ofString "abcdefghijklmnopqrstuvwxyz"
noncomputable def letc(i:Int):Nat:=97+(i%26).toNat
theorem jrv(g:Int):atI ABC.cps.toList (g%26)=some (letc g):=by
 have e0:=uW g (show(26:Int)≠0 by decide);have e1:=uZ g (show(0:Int)<26 by decide);have h:∀k:Nat,k<26->ABC.cps.toList[k]?=some (97+k):=by decide+kernel
 have e:g%26=(((g%26).toNat:Nat):Int):=by omega
 rw[e];rw[qbt (h (g%26).toNat #[])];rfl
theorem jfw(g:Int):isL (letc g)=true:=by
 have e0:=uW g (show(26:Int)≠0 by decide);have e1:=uZ g (show(0:Int)<26 by decide);unfold isL letc;rw[wC,decide_eq_true_iff,decide_eq_true_iff];omega
theorem jfx{g g':Int}(h:letc g=letc g'):g%26=g'%26:=by
 have e0:=uW g (show(26:Int)≠0 by decide);have f0:=uW g' (show(26:Int)≠0 by decide);unfold letc at h;omega
noncomputable def nmJ(c k:Int)(j:Nat):Nat:=letc (c.fdiv 192+(0+(j:Int))*(c.fdiv 7%11)+k*if decide (0+(j:Int)=c.fdiv 24%(1+c.fdiv 3%8))=true then 1 else 0)
noncomputable def nmL(c k:Int):List Nat:=if c%3=0 then wO (1+(k+c.fdiv 78)%8).toNat (letc (c.fdiv 3+k.fdiv 8)) else(vK (1+c.fdiv 3%8).toNat).map (nmJ c k)
noncomputable def ofL(l:List Nat):Str:=⟨l.toArray⟩
noncomputable def nmS(c k:Int):Str:=ofL (nmL c k)
theorem qg2(l:List Nat):qeu (ofL l)=l:=by simp[qeu,ofL]
theorem jn6{l m:List Nat}(h:ofL l=ofL m):l=m:=by rw[<-qg2 l,<-qg2 m,h]
theorem jk2(l:List Nat)(c:Nat):ofL l++(⟨(List.toArray [c])⟩:Str)=ofL (l++[c]):=by
 have e:(ofL l++(⟨(List.toArray [c])⟩:Str)).cps=(ofL (l++[c])).cps:=by
  rw[Str.cps_append];simp[ofL]
 exact congrArg Str.mk e
theorem ji5(l:List Nat):(ofL l).length=l.length:=by simp[ofL,Str.length]
theorem jfy(c k:Int):qes (nmS c k)=true:=by
 have a0:=uW (k+c.fdiv 78) (show(8:Int)≠0 by decide);have a1:=uZ (k+c.fdiv 78) (show(0:Int)<8 by decide);have b0:=uW (c.fdiv 3) (show(8:Int)≠0 by decide);have b1:=uZ (c.fdiv 3) (show(0:Int)<8 by decide);unfold qes nmS;rw[ji5,qg2,wC,wC,decide_eq_true_iff,decide_eq_true_iff,zQ];unfold nmL;by_cases z:c%3=0
 .rw[gL z,yT];refine⟨#[],fun x hx=>?_⟩;rw[(fE.mp hx).2];exact jfw _
 .rw[gK z,zB,cJ];refine⟨#[],fun x hx=>?_⟩;obtain⟨j,_,rfl⟩:=zJ.mp hx;exact jfw _
theorem ji6{c k k':Int}(h0:0<=k)(h1:k<=20)(g0:0<=k')(g1:k'<=20)(h:nmS c k=nmS c k'):k=k':=by
 have hl:=jn6 h;unfold nmL at hl;by_cases z:c%3=0
 .rw[gL z,gL z] at hl;have hn:=congrArg wG hl;rw[yT,yT] at hn;have a0:=uW (k+c.fdiv 78) (show(8:Int)≠0 by decide);have b0:=uW (k'+c.fdiv 78) (show(8:Int)≠0 by decide);have hc:letc (c.fdiv 3+k.fdiv 8)=letc (c.fdiv 3+k'.fdiv 8):=by
   have m:letc (c.fdiv 3+k.fdiv 8)∈wO (1+(k+c.fdiv 78)%8).toNat (letc (c.fdiv 3+k.fdiv 8)):=fE.mpr ⟨#[],rfl⟩;rw[hl] at m;exact(fE.mp m).2
  have hc':=jfx hc;rw[Int.fdiv_eq_ediv_of_nonneg k ∅,Int.fdiv_eq_ediv_of_nonneg k' ∅] at hc';generalize c.fdiv 78=x at*;generalize c.fdiv 3=y at*;omega
 .rw[gK z,gK z] at hl;have b0:=uW (c.fdiv 3) (show(8:Int)≠0 by decide);have at0:=uW (c.fdiv 24) (show(1+c.fdiv 3%8:Int)≠0 by omega);have at1:=uZ (c.fdiv 24) (show(0:Int)<1+c.fdiv 3%8 by omega);have hj:=congrArg (fun l:List Nat=>l[(c.fdiv 24%(1+c.fdiv 3%8)).toNat]?) hl;simp only[zC] at hj;rw[List.getElem?_range #[]] at hj;have hj':nmJ c k (c.fdiv 24%(1+c.fdiv 3%8)).toNat=nmJ c k' (c.fdiv 24%(1+c.fdiv 3%8)).toNat:=by simpa using hj
  unfold nmJ at hj';have e:(0:Int)+(((c.fdiv 24%(1+c.fdiv 3%8)).toNat:Nat):Int)=c.fdiv 24%(1+c.fdiv 3%8):=by omega
  rw[e,gM rfl,gL rfl] at hj';have:=jfx hj';generalize c.fdiv 192+c.fdiv 24%(1+c.fdiv 3%8)*(c.fdiv 7%11)=x at*;omega
def wfa(K:uX)(d:Ad):Sp:=fun vs H Q _=>∃(a:Addr)(ns:List Int)(k:Int),vs=[.ref a,.int k]/\SqL K H a (ns.map V.int)/\0<=k/\Q (.int (cell ns k)) H
include T in
theorem w2g:jac P w K mg base CX0 1 d.w96 d.w7n ["_law_script","_law_k"] (wfa K d):=by
 exists T.w2q.ok wep
 .right
 obtain⟨a,ns,k,rfl,hS,h0,q⟩:=h;exists (qa2 (qb5 (qan jd2 (pv 1) (qaj qbm rfl T.w45 vY #[pv 0]) (qar _)) (qa6 (qaf (qam qax (pv 0) (pv 1) nofun))) qal)
  (qa6 (qaf qa5))),[sr a,some (.int k)];left;have hl:(ns.map V.int).length=ns.length:=zB _;refine i_2 (fun c=>?_) (fun c=>?_)
 .rw[hl] at c;left;refine qcc hS (jm2 h0 c) ?_;exact q
 .rw[hl] at c;left;rw[jj6 c h0] at q;exact q
def wh2(K:uX)(d:Ad):Sp:=fun vs H Q _=>∃c k:Int,vs=[.int c,.int k]/\0<=k/\k<=10000/\∀r:Int,0<=r->Q (.int r) H
include T in
theorem wbh:jac P w K mg base CX0 1 d.we5 d.waz ["_law_cell","_law_k"] (wh2 K d):=by
 exists T.wav.ok wei
 .right
 obtain⟨c,k,rfl,k0,k1,q⟩:=h;exists (qa2 (qae (i:=2) wei.nd rfl (uD rfl) (qag qb4 (qag qby (qag qby (pv 0) (qag qb3 qa5 (pv 1))) qa5) qa5))
  (qa6 (qaf (qag qb4 (qag qb3 (qag qb4 (qag qb3 (pv 2) (pv 2)) qa5) qa5) qa5)))),[some (.int c),some (.int k),none];left;have m0:=uW (c+7919*k+12345) (show(2147483629:Int)≠0 by decide);have m1:=uZ (c+7919*k+12345) (show(0:Int)<2147483629 by decide);generalize (c+7919*k+12345)%2147483629=u at*;left;have n0:=uW (u*u) (show(2147483629:Int)≠0 by decide);have n1:=uZ (u*u) (show(0:Int)<2147483629 by decide);generalize u*u%2147483629=y at*;left;exact q _ (uW _ ∅)
def win(K:uX)(d:Ad):Sp:=fun vs H Q _=>∃c k:Int,vs=[.int c,.int k]/\0<=k/\k<=1000/\Q (.str (nmS c k)) H
include T in
theorem wg8:jac P w K mg base CX0 1 d.wfg d.wcv ["_law_cell","_law_k"] (win K d):=by
 exists T.wfc.ok w4c
 .right
 obtain⟨c,k,rfl,k0,k1,q⟩:=h;exists (qa2 (qae (i:=2) w4c.nd rfl (uD rfl) jgr)
  (qa2 (qb5 (qan qd9 (qag qb4 (pv 0) qa5) qa5 (qar _)) (qa6 (qaf (qag jns (qam jlf (pv 2) (qag qb4 (qag qby (qag qbe (pv 0) qa5) (qag qbe (pv 1) qa5)) qa5) nofun) (qag qby qa5 (qag qb4 (qag qby (pv 1) (qag qbe (pv 0) qa5)) qa5))))) qal)
  (qa2 (qae (i:=3) w4c.nd rfl (uD rfl) (qag qby qa5 (qag qb4 (qag qbe (pv 0) qa5) qa5)))
  (qa2 (qae (i:=4) w4c.nd rfl (uD rfl) (qag qb4 (qag qbe (pv 0) qa5) (pv 3)))
  (qa2 (qae (i:=5) w4c.nd rfl (uD rfl) jgr)
  (qa2 (qb1 vJ rfl (qd5 rfl T.w6b #[pv 3]) (qab (i:=6) w4c.nd rfl (uD rfl)) (qa2 (qae (i:=7) w4c.nd rfl (uD rfl) (qag qb3 (pv 1) (qbr jhv rfl T.wi6 dP #[qcr qd9 (pv 6) (pv 4) (qar _)])))
  (qa2 (qae (i:=8) w4c.nd rfl (uD rfl) (qag qby (qag qby (qag qbe (pv 0) qa5) (qag qb3 (pv 6) (qag qb4 (qag qbe (pv 0) qa5) qa5))) (pv 7)))
  (qa6 (qae (i:=5) w4c.nd rfl (uD rfl) (qag jnf (pv 5) (qam jlf (pv 2) (qag qb4 (pv 8) qa5) nofun)))))))
  (qa6 (qaf (pv 5))))))))),[some (.int c),some (.int k),none,none,none,none,none,none,none];left;refine i_2 (fun z=>?_) (fun z=>?_)
 .left;refine jql ∅ (jrv _) ?_;left;have a0:=uW (k+c.fdiv 78) (show(8:Int)≠0 by decide);have a1:=uZ (k+c.fdiv 78) (show(0:Int)<8 by decide);refine jre #[] #[] ?_;unfold nmS nmL at q;rw[gL z] at q;exact q
 .left;have b0:=uW (c.fdiv 3) (show(8:Int)≠0 by decide);have b1:=uZ (c.fdiv 3) (show(0:Int)<8 by decide);have d0:=uW (c.fdiv 7) (show(11:Int)≠0 by decide);have d1:=uZ (c.fdiv 7) (show(0:Int)<11 by decide);have ks:k.natAbs<2^600:=uO (show k.natAbs<=1000 by omega) ∅;have ds:(c.fdiv 7%11).natAbs<2^600:=uO (show(c.fdiv 7%11).natAbs<=11 by omega) ∅;refine qgv (fun i σ H'=>H'=H/\∃w1 w2 w3,σ=[some (V.int c),some (V.int k),some (V.str ABC),some (V.int (1+c.fdiv 3%8)),some (V.int (c.fdiv 24%(1+c.fdiv 3%8))),some (V.str (ofL ((vK i).map (nmJ c k)))),w1,w2,w3]) ⟨rfl,none,none,none,rfl⟩ ?_ ?_
  .rintro i σ H' hi ⟨rfl,w1,w2,w3,rfl⟩;have is:((0:Int)+(i:Int)).natAbs<2^600:=uO (show((0:Int)+(i:Int)).natAbs<=8 by omega) ∅;left;refine jql ∅ (jrv _) ?_;have lz:(ofL ((vK i).map (nmJ c k))).length=i:=by rw[ji5,zB,cJ]
   refine jlq ?_ ?_
   .rw[lz];show _+1<=16777216;omega
   left;have ee:(vK (i+1)).map (nmJ c k)=(vK i).map (nmJ c k)++[nmJ c k i]:=by rw[List.range_succ,zI];rfl
   rw[jk2,ee];exact⟨rfl,_,_,_,rfl⟩
  .rintro σ H' ⟨rfl,w1,w2,w3,rfl⟩;left;unfold nmS nmL at q;rw[gK z] at q;exact q
noncomputable def jdk:uI:=match qbv ja6 with
 |a::_=>a
 | []=>ja6
abbrev qw:Str:="_law_weigher.<locals>._law_weigh_by"
abbrev bdw:List uI:=jip "_law_table" "_law_name_here" ⟨419,15,419,25⟩ ⟨419,26,419,40⟩ ⟨419,15,419,41⟩ ⟨419,8,419,41⟩
theorem jwy:jin "_law_weigh_by" qw (qbo jdk) bdw (qa8 jdk) "_law_name_here" "_law_table" where
 kind:=rfl
 co:=rfl
 gen:=rfl
 nocell:=by decide+kernel
 par:=rfl
 free:=rfl
 only:=fun y h=>by
  have e:(qa8 jdk).names=[(("_law_name_here":Str),NameKind.local),(("_law_table":Str),NameKind.free)]:=rfl;rw[e,yL] at h
  cases c:y==("_law_name_here":Str) with
  |true=>rw[c] at h;cases h
  |false=>
   rw[c] at h;rw[yL] at h
   cases c2:y==("_law_table":Str) with
   |true=>exact eq_of_beq c2
   |false=>rw[c2] at h;cases h
 bind:=fun cl cd ct doc pm s u=> .of_eq rfl
abbrev WgH(H:Hp)(g t:Addr):Prop:=Wg "_law_weigh_by" qw (qbo jdk) bdw (qa8 jdk) "_law_table" H g t
def w7x(p:Addr):Sp:=jej p "_law_weigh_by" qw (qbo jdk) bdw (qa8 jdk) "_law_table"
def wcs{CX:CXT}{P:vA}{w:vN}{K:uX}{mg:Str->Option uB}{base:vU}{k:Nat}{c p f:Addr}{fd:uJ}(F:Fun K "_law_weigher" "_law_weigher" ja6 f fd)(hm:mg "_law_weigher"=some (.ref f))(kin:K.In base)(hns:base.Ns uT mg)
  (ht:tabIn K "_law_weigher"=some (c,p))(C:dW base c p)(bm:jse mg base):jac P w K mg base CX (k+1) f fd ["_law_table"] (w7x p):=
 Fun.maker F hm kin hns ht C bm (pos:=⟨418,4,419,41⟩) (p1:=⟨420,11,420,24⟩) (p2:=⟨420,4,420,24⟩) rfl rfl rfl rfl rfl rfl (fun n=>rfl) ∅ (fun L cd=>rfl) rfl rfl (fun L cd=>rfl) (fun L cd=>rfl)
@[irreducible] def ja9(a b:Int):Int:=((wZ a b:Nat):Int)
theorem jfz(g s:Int)(hs:0<s):wZ s (g%s)=wZ g s:=by
 have e:g=s*(g/s)+g%s:=(Int.mul_ediv_add_emod g s).symm;apply Nat.dvd_antisymm
 .have h1:((wZ s (g%s):Nat):Int) ∣ s:=gJ _ _;have h2:((wZ s (g%s):Nat):Int) ∣ g%s:=cK _ _;have h3:((wZ s (g%s):Nat):Int) ∣ g:=by
   have:=Int.dvd_add (Int.dvd_trans h1 (Int.dvd_mul_right s (g/s))) h2;rw[<-e] at this;exact this
  exact Int.ofNat_dvd.mp (Int.dvd_coe_gcd h3 h1)
 .have h1:((wZ g s:Nat):Int) ∣ g:=gJ _ _;have h2:((wZ g s:Nat):Int) ∣ s:=cK _ _;have h3:((wZ g s:Nat):Int) ∣ g%s:=by
   have:=Int.dvd_sub h1 (Int.dvd_trans h2 (Int.dvd_mul_right s (g/s)));have e2:g-s*(g/s)=g%s:=by omega
   rw[e2] at this;exact this
  exact Int.ofNat_dvd.mp (Int.dvd_coe_gcd h2 h3)
theorem jn7(a b:Int):wZ (if a<0 then -a else a) (if b<0 then -b else b)=wZ a b:=by
 have ea:(if a<0 then -a else a).natAbs=a.natAbs:=by split<;>omega
 have eb:(if b<0 then -b else b).natAbs=b.natAbs:=by split<;>omega
 unfold wZ;rw[ea,eb]
theorem nonneg(a b:Int):0<=ja9 a b:=by unfold ja9;exact Int.natCast_nonneg _
theorem zero{a b:Int}(h:ja9 a b=0):a=0/\b=0:=by
 unfold ja9 at h;exact Int.gcd_eq_zero_iff.mp #[]
noncomputable def sg(t b:Int):Int:=if b<0 then 0-ja9 t b else ja9 t b
theorem qgs{t b:Int}(h:b≠0):0<ja9 t b:=by
 have h1:=nonneg t b;have h2:ja9 t b≠0:=fun z=>h (zero z).2;omega
theorem ji7{t b:Int}(h:b≠0):(ja9 t b).natAbs<=b.natAbs:=by
 have hd:ja9 t b ∣ b:=by unfold ja9;exact cK _ _
 exact Nat.le_of_dvd #[] (dQ.mpr hd)
noncomputable def sg'(t b:Int):Int:=if b<0 then-ja9 t b else ja9 t b
theorem ji8{t b:Int}(hb:b≠0):∃x y:Int,t.fdiv (sg' t b)=x/\b.fdiv (sg' t b)=y/\1<=y/\x*b=y*t/\wZ x y=1/\x.natAbs<=t.natAbs/\y.natAbs<=b.natAbs:=by
 have gp:=qgs (t:=t) hb;have d1:ja9 t b ∣ t:=by unfold ja9;exact gJ _ _
 have d2:ja9 t b ∣ b:=by unfold ja9;exact cK _ _
 have e1:sg' t b ∣ t:=by unfold sg';split<;>first|exact Int.neg_dvd.mpr d1|exact d1
 have e2:sg' t b ∣ b:=by unfold sg';split<;>first|exact Int.neg_dvd.mpr d2|exact d2
 have s0:sg' t b≠0:=by unfold sg';split<;>omega
 have na:(sg' t b).natAbs=wZ t b:=by
  have:(ja9 t b).natAbs=wZ t b:=by unfold ja9;exact vO _
  unfold sg';split<;>omega
 have sgn:0<b/sg' t b:=by
  unfold sg'
  split
  .rename_i n;rw[Int.ediv_neg];have:b/ja9 t b<0:=Int.ediv_neg_of_neg_of_pos n gp;omega
  .exact Int.ediv_pos_of_pos_of_dvd #[] #[] d2
 rw[Int.fdiv_eq_ediv_of_dvd e1,Int.fdiv_eq_ediv_of_dvd e2];generalize hs:sg' t b=s at*;obtain⟨x,hx⟩:=e1;obtain⟨y,hy⟩:=e2;have ex:t/s=x:=by rw[hx];exact Int.mul_ediv_cancel_left _ s0
 have ey:b/s=y:=by rw[hy];exact Int.mul_ediv_cancel_left _ s0
 refine⟨x,y,ex,ey,#[],by rw[hy,hx,<-eR,<-eR,dC x s,dC y s,eR,eR,dC x y],?_,?_,?_⟩
 .have hp:0<wZ t b:=Int.gcd_pos_of_ne_zero_right _ hb;have h:=Int.gcd_mul_left s x y;rw[<-hx,<-hy,na] at h;have:wZ t b*wZ x y=wZ t b*1:=by omega
  exact Nat.eq_of_mul_eq_mul_left hp this
 .rw[hx,wS];exact Nat.le_mul_of_pos_left _ #[]
 .rw[hy,wS];exact Nat.le_mul_of_pos_left _ #[]
theorem jl8{t b:Int}(hb:b≠0):t.fdiv (sg' t b)=((t:Rat) /(b:Rat)).num/\b.fdiv (sg' t b)=(((t:Rat) /(b:Rat)).den:Int):=by
 obtain⟨x,y,e1,e2,y1,cr,cop,_,_⟩:=ji8 (t:=t) hb;have hy:((y.toNat:Nat):Int)=y:=by omega
 have hc:x.natAbs.Coprime y.toNat:=by
  have e:y.natAbs=y.toNat:=by omega
  have h:Nat.gcd x.natAbs y.natAbs=1:=cop;rw[e] at h;exact h
 have eq:(⟨x,y.toNat,#[],hc⟩:Rat)=(t:Rat) /(b:Rat):=by
  have h1:(⟨x,y.toNat,#[],hc⟩:Rat)=Rat.divInt x ((y.toNat:Nat):Int):=Rat.mk_eq_divInt ..;rw[h1,hy,Rat.divInt_eq_div];have hb':(b:Rat)≠0:=by
   intro h;exact hb (by exact_mod_cast h)
  have hy':(y:Rat)≠0:=by
   intro h;have:y=0:=by exact_mod_cast h
   omega
  have cr':(x:Rat)*(b:Rat)=(y:Rat)*(t:Rat):=by exact_mod_cast cr
  grind
 rw[e1,e2,<-eq];exact⟨rfl,hy.symm⟩
theorem qeb(q:Rat):(q.num:Rat) /((q.den:Nat):Rat)=q:=by
 rw[<-uN,<-Rat.divInt_eq_div];exact Rat.num_divInt_den q
theorem qdl(q:Rat):((q.den:Nat):Rat)≠0:=by
 intro h;have:=q.den_nz;exact this (by exact_mod_cast h)
theorem jn8(a b:Rat):((a.num*(b.den:Int)+b.num*(a.den:Int):Int):Rat) /(((a.den:Int)*(b.den:Int):Int):Rat)=a+b:=by
 have h1:=qeb a;have h2:=qeb b;have n1:=qdl a;have n2:=qdl b;rw[xO,uS,uS,uS,uN,uN]
 conv=>rhs;rw[<-h1,<-h2]
 grind
theorem jn9(a b:Rat):((a.num*(b.den:Int)-b.num*(a.den:Int):Int):Rat) /(((a.den:Int)*(b.den:Int):Int):Rat)=a-b:=by
 have h1:=qeb a;have h2:=qeb b;have n1:=qdl a;have n2:=qdl b;rw[dJ,uS,uS,uS,uN,uN]
 conv=>rhs;rw[<-h1,<-h2]
 grind
theorem joa(a b:Rat):((a.num*b.num:Int):Rat) /(((a.den:Int)*(b.den:Int):Int):Rat)=a*b:=by
 have h1:=qeb a;have h2:=qeb b;have n1:=qdl a;have n2:=qdl b;rw[uS,uS,uN,uN]
 conv=>rhs;rw[<-h1,<-h2]
 grind
theorem job(a b:Rat)(hb:b≠0):((a.num*(b.den:Int):Int):Rat) /(((a.den:Int)*b.num:Int):Rat)=a/b:=by
 have h1:=qeb a;have h2:=qeb b;have n1:=qdl a;have n2:=qdl b;have n3:(b.num:Rat)≠0:=by
  intro h;rw[h] at h2;apply hb;rw[<-h2];grind
 rw[uS,uS,uN,uN]
 conv=>rhs;rw[<-h1,<-h2]
 grind
def jrw(a b:Rat):a.num*(b.den:Int)<b.num*(a.den:Int)↔a<b:=(Rat.lt_iff a b).symm
structure RB(q:Rat):Prop where
 n:q.num.natAbs<2^290
 d:q.den<2^290
def qb8(H:Hp)(a:Addr)(q:Rat):Prop:=H a=some (.tup [.int q.num,.int (q.den:Int)])
def qb8.same{H H':Hp}{a:Addr}{q:Rat}(h:qb8 H a q)(s:jab H H'):qb8 H' a q:=s _ _ h
theorem qb8.uniq(h:qb8 H a q)(h':qb8 H a r):q=r:=by
 have h1:H a=_:=h;have h2:H a=_:=h';rw[h1] at h2;have h3:=HO.tup.inj (uU h2);have e1:q.num=r.num:=by injection h3 with a1 a2;injection a1
 have e2:q.den=r.den:=by
  injection h3 with a1 a2
  injection a2 with a3 a4
  injection a3 with a5
  exact_mod_cast a5
 exact Rat.ext e1 e2
noncomputable def meas(i:Nat)(σ:L2.St):Nat:=match σ[i]? with
 |some (some (.int s))=>s.toNat
 |_=>0
noncomputable def frO(q:Rat):HO:=.tup [.int q.num,.int (q.den:Int)]
def wes(K:uX)(d:Ad):Sp:=fun vs H Q _=>∃i j:Int,vs=[.int i,.int j]/\Q (.int (ja9 i j)) H
include T in
theorem wf6:jac P w K mg base CX0 1 d.w9c d.w7s ["one","other"] (wes K d):=by
 exists T.wby.ok w38
 .right
 obtain⟨i,j,rfl,q⟩:=h;exists (qa2 (qae (i:=2) w38.nd rfl (uD rfl) (qaj qg3 rfl T.whw dR #[pv 0]))
  (qa2 (qae (i:=3) w38.nd rfl (uD rfl) (qaj qg3 rfl T.whw dR #[pv 1]))
  (qa2 (qee vJ (qan qg6 (pv 3) qa5 (qar _)) (qa2 (qae (i:=4) w38.nd rfl (uD rfl) (qag qb4 (pv 2) (pv 3)))
  (qa2 (qae (i:=2) w38.nd rfl (uD rfl) (pv 3))
  (qa6 (qae (i:=3) w38.nd rfl (uD rfl) (pv 4))))))
  (qa6 (qaf (pv 2)))))),[some (.int i),some (.int j),none,none,none];left;refine qe8 (fun σ H'=>H'=H/\∃(g t:Int)(r:Option V),σ=[some (.int i),some (.int j),some (.int g),some (.int t),r]/\0<=g/\0<=t/\wZ g t=wZ i j) (fun σ _=>meas 3 σ) ?_ ?_ ?_
 .refine⟨rfl,_,_,_,rfl,?_,?_,jn7 i j⟩<;>split<;>omega
 .rintro σ H1 ⟨rfl,g,t,r,rfl,hg,ht,e⟩;left;refine i_2 (fun c=>?_) (fun c=>?_)
  .left;refine⟨⟨rfl,_,_,_,rfl,#[],uW _ #[],?_⟩,?_⟩
   .rw[jfz g t c];exact e
   .show(g%t).toNat<t.toNat;have:=uZ g c;have:=uW g (show t≠0 by omega);omega
  .left;have z:t=0:=by omega
   subst z;have e2:g=ja9 i j:=by
    rw[Int.gcd_zero_right] at e;unfold ja9;rw[<-e];omega
   rw[e2];exact q
 .rintro σ H1 Q1 Q2 h ⟨v,e,a,b,e1,e2,d,e3,q⟩;exact⟨v,e,a,b,e1,e2,d,e3,h _ _ q⟩
def wcz(K:uX)(d:Ad):Sp:=fun vs H Q _=>∃t b:Int,vs=[.int t,.int b]/\b.natAbs<2^600/\b≠0/\∀p,H p=none->Q (.ref p) (upd H p (frO ((t:Rat) /(b:Rat))))
include T in
theorem w3d:jac P w K mg base (My.CX1 P w) 3 d.w7v d.w6c ["top","bottom"] (wcz K d):=by
 exists okX T.w37 w6f
 .right
 obtain⟨t,b,rfl,hb,b0,hq⟩:=h;exists (qa2 (qb5 (qan qd9 (pv 1) qa5 (qar _)) (qa6 qfl) qal)
  (qa2 (qae (i:=2) w6f.nd rfl (uD rfl) (qac ((wf6 T).mono ∅) hr rfl T.wfz T.wby.kp T.wg2 .nil qas #[pv 0,pv 1]))
  (qa2 (qca (qb5 (qan jd2 (pv 1) qa5 (qar _)) (qa6 (qae (i:=2) w6f.nd rfl (uD rfl) (jmq jgw (pv 2)))) qal))
  (qa6 (qaf (qbc #[qag qbe (pv 0) (pv 2),qag qbe (pv 1) (pv 2)])))))),[some (.int t),some (.int b),none];left;have gb:(ja9 t b).natAbs<2^600:=uO (ji7 b0) hb;have gp:=qgs (t:=t) b0;obtain⟨f1,f2⟩:=jl8 (t:=t) b0;unfold frO at hq;rw[<-f1,<-f2] at hq;clear f1 f2;refine⟨t,b,rfl,?_⟩;left;refine qd4 ?_;left;refine i_2 (fun n=>?_) (fun n=>?_)
 .have es:sg' t b=-ja9 t b:=by unfold sg';rw[gL n]
  rw[es] at hq;left;exact hq _ (by assumption)
 .have es:sg' t b=ja9 t b:=by unfold sg';rw[gK n]
  rw[es] at hq;left;exact hq _ (by assumption)
def wgc(f:Rat->Rat->Rat):Sp:=fun vs H Q _=>∃(o p:Addr)(a b:Rat),vs=[.ref o,.ref p]/\qb8 H o a/\qb8 H p b/\RB a/\RB b/\∀r,H r=none->Q (.ref r) (upd H r (frO (f a b)))
def wil(K:uX)(d:Ad):Sp:=wgc fun a b=>a+b
def wh8(K:uX)(d:Ad):Sp:=wgc fun a b=>a-b
def wh9(K:uX)(d:Ad):Sp:=wgc fun a b=>a*b
inductive jgl(K:uX)(d:Ad)(vs:List V)(H:Hp)(Q:VK)(E:XK):Prop
 |mk(o p:Addr)(a b:Rat)(_:vs=[.ref o,.ref p])(_:qb8 H o a)(_:qb8 H p b)(_:RB a)(_:RB b)(_:b≠0)(_:∀r,H r=none->Q (.ref r) (upd H r (frO (a/b))))
inductive jk3(K:uX)(d:Ad)(vs:List V)(H:Hp)(Q:VK)(E:XK):Prop
 |mk(o p:Addr)(a b:Rat)(_:vs=[.ref o,.ref p])(_:qb8 H o a)(_:qb8 H p b)(_:RB a)(_:RB b)(_:Q (.bl (decide (a<b))) H)
def RB.n6(h:RB q):q.num.natAbs<2^600:=aU h.n ∅
theorem RB.d6(h:RB q):((q.den:Int)).natAbs<2^600:=by
 rw[vO];exact aU h.d ∅
theorem RB.dd{a b:Rat}(h:RB a)(h':RB b):(((a.den:Int))*(b.den:Int)).natAbs<2^600:=by
 rw[wS,vO,vO];exact aU (Nat.mul_lt_mul'' h.d h'.d) ∅
theorem RB.dn{a b:Rat}(h:RB a)(h':RB b):(((a.den:Int))*b.num).natAbs<2^600:=by
 rw[wS,vO];exact aU (Nat.mul_lt_mul'' h.d h'.n) ∅
theorem den_pos(q:Rat):(0:Int) <(q.den:Int):=by have:=q.den_pos;omega
include T in
theorem wi7:jac P w K mg base (My.CX1 P w) 4 d.wfl d.wdy ["one","other"] (wil K d):=by
 exists okX T.whk whz
 .right
 obtain⟨o,p,a,b,rfl,ho,hp,f1,f2,q⟩:=h;exists qa6 (qaf (qaz ((w3d T).mono ∅) hr rfl T.w42 T.w37.kp T.w41 .nil qau #[qag qby (qag qb3 (~~~0) (~~~1)) (qag qb3 (~~~1) (~~~0)),qag qb3 (~~~0) (~~~1)])),[sr o,sr p];have x1:=f1.n6;have x2:=f1.d6;have x3:=f2.n6;have x4:=f2.d6;unfold qb8 at ho hp;have e:=jn8 a b;have bp:=f1.dd f2;have ne:(a.den:Int)*(b.den:Int)≠0:=fV (aB (den_pos a) (den_pos b));clear f1 f2;left;refine⟨_,_,rfl,bp,ne,fun r hr=>?_⟩;rw[e];exact q r hr
include T in
theorem wgr:jac P w K mg base (My.CX1 P w) 4 d.wdm d.wb7 ["one","other"] (wh8 K d):=by
 exists okX T.wfu wgp
 .right
 obtain⟨o,p,a,b,rfl,ho,hp,f1,f2,q⟩:=h;exists qa6 (qaf (qaz ((w3d T).mono ∅) hr rfl T.w42 T.w37.kp T.w41 .nil qau #[qag jfc (qag qb3 (~~~0) (~~~1)) (qag qb3 (~~~1) (~~~0)),qag qb3 (~~~0) (~~~1)])),[sr o,sr p];have x1:=f1.n6;have x2:=f1.d6;have x3:=f2.n6;have x4:=f2.d6;unfold qb8 at ho hp;have e:=jn9 a b;have bp:=f1.dd f2;have ne:(a.den:Int)*(b.den:Int)≠0:=fV (aB (den_pos a) (den_pos b));clear f1 f2;left;refine⟨_,_,rfl,bp,ne,fun r hr=>?_⟩;rw[e];exact q r hr
include T in
theorem wea:jac P w K mg base (My.CX1 P w) 4 d.wcp d.wb2 ["one","other"] (wh9 K d):=by
 exists okX T.wcy wh3
 .right
 obtain⟨o,p,a,b,rfl,ho,hp,f1,f2,q⟩:=h;exists qa6 (qaf (qaz ((w3d T).mono ∅) hr rfl T.w42 T.w37.kp T.w41 .nil qau #[qag qb3 (~~~0) (~~~1),qag qb3 (~~~0) (~~~1)])),[sr o,sr p];have x1:=f1.n6;have x2:=f1.d6;have x3:=f2.n6;have x4:=f2.d6;unfold qb8 at ho hp;have e:=joa a b;have bp:=f1.dd f2;have ne:(a.den:Int)*(b.den:Int)≠0:=fV (aB (den_pos a) (den_pos b));clear f1 f2;left;refine⟨_,_,rfl,bp,ne,fun r hr=>?_⟩;rw[e];exact q r hr
include T in
theorem wat:jac P w K mg base (My.CX1 P w) 4 d.w9a d.w7g ["one","other"] (jgl K d):=by
 exists okX T.w9y wew
 .right
 obtain⟨o,p,a,b,rfl,ho,hp,f1,f2,b0,q⟩:=h;exists qa6 (qaf (qaz ((w3d T).mono ∅) hr rfl T.w42 T.w37.kp T.w41 .nil qau #[qag qb3 (~~~0) (~~~1),qag qb3 (~~~0) (~~~1)])),[sr o,sr p];have x1:=f1.n6;have x2:=f1.d6;have x3:=f2.n6;have x4:=f2.d6;unfold qb8 at ho hp;have e:=job a b b0;have bp:=f1.dn f2;have n0:b.num≠0:=fun h=>b0 (Rat.num_eq_zero.mp h);have ne:(a.den:Int)*b.num≠0:=Int.mul_ne_zero (fV (den_pos a)) n0;clear f1 f2;left;refine⟨_,_,rfl,bp,ne,fun r hr=>?_⟩;rw[e];exact q r hr
include T in
theorem w5q:jac P w K mg base CX0 1 d.wdo d.wb5 ["one","other"] (jk3 K d):=by
 exists T.w68.ok wh6
 .right
 obtain⟨o,p,a,b,rfl,ho,hp,f1,f2,q⟩:=h;exists qa6 (qaf (qcr jd2 (qag qb3 (~~~0) (~~~1)) (qag qb3 (~~~1) (~~~0)) (qar _))),[sr o,sr p];have x1:=f1.n6;have x2:=f1.d6;have x3:=f2.n6;have x4:=f2.d6;unfold qb8 at ho hp;clear f1 f2;left;rw[decide_eq_decide.mpr (jrw a b)];exact q
noncomputable def qbz:List Str->(Str->Rat)->Rat
 | [],_=>0
 |n::l,f=>f n+qbz l f
theorem qc9{f g:Str->Rat}:∀{l:List Str},(∀n∈l,f n=g n)->qbz l f=qbz l g
 | [],_=>rfl
 |n::l,h=>by
  show f n+qbz l f=g n+qbz l g;rw[h n (zG ..),qc9 fun m hm=>h m (zD _ hm)]
theorem qf8{f g:Str->Rat}:∀{l:List Str},qbz l (fun n=>f n+g n)=qbz l f+qbz l g
 | []=>by show(0:Rat)=0+0;grind
 |n::l=>by
  show f n+g n+qbz l _=f n+qbz l f+(g n+qbz l g);rw[qf8];grind
theorem qdn{c:Rat}{f:Str->Rat}:∀{l:List Str},qbz l (fun n=>c*f n)=c*qbz l f
 | []=>by show(0:Rat)=c*0;grind
 |n::l=>by
  show c*f n+qbz l _=c*(f n+qbz l f);rw[qdn];grind
theorem jeu{f g:Str->Rat}:∀{l:List Str},(∀n∈l,f n<=g n)->qbz l f<=qbz l g
 | [],_=>by show(0:Rat)<=0;grind
 |n::l,h=>by
  have h1:=h n (zG ..);have h2:=jeu (l:=l) fun m hm=>h m (zD _ hm);show f n+qbz l f<=g n+qbz l g;grind
theorem qfg{f:Str->Rat}{l:List Str}(h:∀n∈l,0<=f n):0<=qbz l f:=by
 have h1:=jeu (f:=fun _=>0) h;have h2:qbz l (fun _=>(0:Rat))=0:=by
  have:=qdn (c:=0) (f:=fun _=>(0:Rat)) (l:=l);have e:(fun n:Str=>(0:Rat)*0)=fun _=>0:=funext fun _=>by grind
  rw[e] at this;grind
 grind
theorem qe9{l:List Str}{f:Str->Rat}(h:∀n∈l,f n=0):qbz l f=0:=by
 rw[qc9 (g:=fun _=>0) h];have:=qdn (c:=0) (f:=fun _=>(0:Rat)) (l:=l);have e:(fun n:Str=>(0:Rat)*0)=fun _=>0:=funext fun _=>by grind
 rw[e] at this;grind
theorem jf0{f:Str->Rat}:∀{l:List Str} {n:Str},n∈l->(∀m∈l,0<=f m)->f n<=qbz l f
 | [],_,h,_=>by simp at h
 |m::l,n,h,hp=>by
  have h2:=qfg (l:=l) fun k hk=>hp k (zD _ hk);have h0:=hp m (zG ..);show f n<=f m+qbz l f;rcases zP.mp h with e|e
  .subst e;grind
  .have:=jf0 e fun k hk=>hp k (zD _ hk);grind
structure Dl where
 W0:List Str
 ln:Str->List Str
 wt:Str->Int
 wa:Str->Int
 rm:Str->Int
structure jak(D:Dl):Prop where
 nd:D.W0.Nodup
 w1:∀n∈D.W0,1<=D.wt n
 w2:∀n∈D.W0,D.wt n<=1000
 a0:∀n∈D.W0,0<=D.wa n
 a1:∀n∈D.W0,D.wa n<=10^31
 r0:∀n∈D.W0,∀h∈D.ln n,0<=D.rm h
 r1:∀n∈D.W0,∀h∈D.ln n,D.rm h<=10^31
 l0:∀n∈D.W0,n∈D.ln n
 ld:∀n∈D.W0,(D.ln n).Nodup
 lz:∀n∈D.W0,(D.ln n).length<=20
 l8:D.W0.length<=7
section
variable(D:Dl)
open Classical in
noncomputable def ldQ(W:List Str)(h:Str):Rat:=qbz D.W0 fun n=>if n∈W/\h∈D.ln n then(D.wt n:Rat) else 0
noncomputable def goQ(n:Str):Rat:=(D.wa n:Rat) /(D.wt n:Rat)
open Classical in
noncomputable def rdy(W:List Str)(lf:Str->Rat)(L:Rat):List Str:=W.filter fun n=>decide ((∃h∈D.ln n,lf h/ldQ D W h=L)\/goQ D n=L)
open Classical in
noncomputable def wls(W R:List Str):List Str:=W.filter fun n=>!decide (n∈R)
noncomputable def lfN(lf:Str->Rat)(L:Rat)(R:List Str)(h:Str):Rat:=lf h-L*ldQ D R h
structure IsL(W:List Str)(lf:Str->Rat)(L:Rat):Prop where
 ge:∀n∈W,(∀h∈D.ln n,L<=lf h/ldQ D W h)/\L<=goQ D n
 at_:∃n∈W,(∃h∈D.ln n,lf h/ldQ D W h=L)\/goQ D n=L
def Dv(N:Nat)(q:Rat):Prop:=∃z:Int,q*(N:Rat)=(z:Rat)
open Classical in
structure RdI(W:List Str)(lf lv:Str->Rat)(M:Rat)(N:Nat):Prop where
 sub:∀n∈W,n∈D.W0
 nd:W.Nodup
 sum:∀h,lf h=(D.rm h:Rat)-qbz D.W0 fun n=>if n∉W/\h∈D.ln n then lv n*(D.wt n:Rat) else 0
 lo:∀n∈W,∀h∈D.ln n,M*ldQ D W h<=lf h
 nn:∀n∈D.W0,∀h∈D.ln n,0<=lf h
 go:∀n∈W,M<=goQ D n
 m0:0<=M
 st:∀n∈D.W0,n∉W->0<=lv n/\lv n<=M/\lv n<=goQ D n/\(lv n=goQ D n\/∃h∈D.ln n,lf h=0/\(∀m∈W,h∉D.ln m)/\∀m∈D.W0,h∈D.ln m->lv m<=lv n)
 n0:0<N
 dl:∀h,Dv N (lf h)
 nb:N<=10000^(7-W.length)
end
section
variable{D:Dl}
theorem wtQ{n:Str}(ok:jak D)(h:n∈D.W0):(1:Rat)<=(D.wt n:Rat)/\(D.wt n:Rat)<=1000:=by
 have h1:=ok.w1 n h;have h2:=ok.w2 n h;exact⟨by exact_mod_cast h1,by exact_mod_cast h2⟩
def jl9(ok:jak D)(W:List Str)(h:Str):0<=ldQ D W h:=qfg fun n hn=>by
 have:=(wtQ ok hn).1
 try dsimp only
 split<;>grind
theorem jev(ok:jak D){W:List Str}{h n:Str}(hn:n∈W)(h0:n∈D.W0)(hl:h∈D.ln n):1<=ldQ D W h:=by
 have h1:=(wtQ ok h0).1;have h2:=jf0 (l:=D.W0) (f:=fun n=>if n∈W/\h∈D.ln n then(D.wt n:Rat) else 0) h0 fun m hm=>by
  have:=(wtQ ok hm).1
  try dsimp only
  split<;>grind
 rw[gL ⟨hn,hl⟩] at h2;show(1:Rat)<=qbz D.W0 _;grind
theorem ji9(W R:List Str)(hR:∀n∈R,n∈W)(h:Str):ldQ D W h=ldQ D R h+ldQ D (wls W R) h:=by
 unfold ldQ;rw[<-qf8];refine qc9 fun n hn=>?_
 try dsimp only
 have hw:n∈wls W R↔n∈W/\n∉R:=by unfold wls;rw[zW];simp
 by_cases c1:h∈D.ln n
 .by_cases c2:n∈R
  .rw[gL ⟨hR n c2,c1⟩,gL ⟨c2,c1⟩,gK (fun z=>(hw.mp z.1).2 c2)];grind
  .by_cases c3:n∈W
   .rw[gL ⟨c3,c1⟩,gK (fun z=>c2 z.1),gL ⟨hw.mpr ⟨c3,c2⟩,c1⟩];grind
   .rw[gK (fun z=>c3 z.1),gK (fun z=>c2 z.1),gK (fun z=>c3 (hw.mp z.1).1)];grind
 .rw[gK (fun z=>c1 z.2),gK (fun z=>c1 z.2),gK (fun z=>c1 z.2)];grind
def qek{h:Str}(hn:∀m∈W,h∉D.ln m):ldQ D W h=0:=qe9 fun n _=>by
 try dsimp only
 rw[gK fun z=>hn n z.1 z.2]
theorem jf1{a b c:Rat}(hc:0<c):a<=b/c↔a*c<=b:=by
 have e:b/c*c=b:=xB (by grind);constructor
 .intro h;have:=vQ h (Rat.le_of_lt hc);grind
 .intro h;refine Decidable.byContradiction fun n=>?_;have n':b/c<a:=by grind
  have:=wI n' hc;grind
theorem jdl{a b c:Rat}(hc:0<c):b/c=a↔b=a*c:=by
 have e:b/c*c=b:=xB (by grind);constructor
 .intro h;grind
 .intro h;have e2:c≠0:=by grind
  grind
end
theorem qfk{a b:Int}(h:(a:Rat)=(b:Rat)):a=b:=by exact_mod_cast h
theorem qfn(q:Rat):(q.num:Rat)=q*((q.den:Nat):Rat):=by
 have h1:=qeb q;have h2:=qdl q;grind
theorem jdm{B:Nat}(n0:0<N)(nb:N<=10000^8)(hB:B<=10^40)(h:Dv N q)(lo: -(B:Rat)<=q)(hi:q<=(B:Rat)):RB q:=by
 obtain⟨z,hz⟩:=h;have e:q.num*(N:Int)=z*(q.den:Int):=by
  apply qfk;rw[uS,uS,uN,uN,qfn q,<-hz];grind
 have dd:q.den ∣ N:=by
  have h1:(q.den:Int) ∣ q.num*(N:Int):=⟨z,by rw[e,dC]⟩;have h2:q.den ∣ q.num.natAbs*N:=by
   have:=dQ.mpr h1;rw[vO,wS,vO] at this;exact this
  exact fZ q.reduced.symm h2
 have dn:q.den<=N:=Nat.le_of_dvd n0 dd;have nz:q.num.natAbs<=z.natAbs:=by
  have h1:q.num.natAbs*N=z.natAbs*q.den:=by
   have:=congrArg Int.natAbs e;rw[wS,wS,vO,vO] at this;exact this
  have h2:q.num.natAbs*N<=z.natAbs*N:=by rw[h1];exact Nat.mul_le_mul_left _ dn
  exact Nat.le_of_mul_le_mul_right h2 n0
 have zb:z.natAbs<=B*N:=by
  have N0:(0:Rat)<=(N:Rat):=by exact_mod_cast wR N
  have h1:(z:Rat)<=(B:Rat)*(N:Rat):=by rw[<-hz];exact vQ hi N0
  have h2: -(B:Rat)*(N:Rat)<=(z:Rat):=by rw[<-hz];exact vQ lo N0
  have c:(((B*N:Nat):Int):Rat)=(B:Rat)*(N:Rat):=by rw[uN,wV]
  have h1':z<=((B*N:Nat):Int):=by
   have:(z:Rat)<=(((B*N:Nat):Int):Rat):=by rw[c];exact h1
   exact_mod_cast this
  have h2': -((B*N:Nat):Int)<=z:=by
   have:((-((B*N:Nat):Int):Int):Rat)<=(z:Rat):=by rw[Rat.intCast_neg,c];grind
   exact_mod_cast this
  omega
 have b1:B*N<=10^40*10000^8:=wP hB nb;exact⟨uO (uY nz (uY zb b1)) ∅,uO (uY dn nb) ∅⟩
theorem Dv.mul(h:Dv N q)(k:Nat):Dv (N*k) q:=by
 obtain⟨z,hz⟩:=h;refine⟨z*(k:Int),?_⟩;rw[uS,uN,wV,<-hz];grind
theorem Dv.sub{a b:Rat}(h:Dv N a)(h':Dv N b):Dv N (a-b):=by
 obtain⟨z,hz⟩:=h;obtain⟨y,hy⟩:=h';exact⟨z-y,by rw[dJ,<-hz,<-hy];grind⟩
theorem Dv.ints{a:Rat}(h:Dv N a)(k:Int):Dv N (a*(k:Rat)):=by
 obtain⟨z,hz⟩:=h;exact⟨z*k,by rw[uS,<-hz];grind⟩
section
variable{D:Dl}
theorem jf2{f:Str->Rat}:∀{l:List Str},(∀n∈l,∃z:Int,f n=(z:Rat))->∃z:Int,qbz l f=(z:Rat)
 | [],_=>⟨0,rfl⟩
 |n::l,h=>by
  obtain⟨a,ha⟩:=h n (zG ..);obtain⟨b,hb⟩:=jf2 (l:=l) fun m hm=>h m (zD _ hm);exact⟨a+b,by show f n+qbz l f=_;rw[ha,hb,xO]⟩
theorem qdf{f:Str->Rat}{B:Rat}:∀{l:List Str},(∀n∈l,f n<=B)->qbz l f<=(l.length:Rat)*B
 | [],_=>by show(0:Rat)<=((0:Nat):Rat)*B;grind
 |n::l,h=>by
  have h1:=h n (zG ..);have h2:=qdf (l:=l) fun m hm=>h m (zD _ hm);show f n+qbz l f<=_;rw[zR,Rat.natCast_add];grind
def qft(W:List Str)(h:Str):∃z:Int,ldQ D W h=(z:Rat):=jf2 fun n _=>by
 try dsimp only
 split
 .exact⟨_,rfl⟩
 .exact⟨0,rfl⟩
theorem jja(ok:jak D)(W:List Str)(h:Str):ldQ D W h<=7000:=by
 have h1:=qdf (B:=1000) (l:=D.W0) (f:=fun n=>if n∈W/\h∈D.ln n then(D.wt n:Rat) else 0) fun n hn=>by
  have:=(wtQ ok hn).2
  try dsimp only
  split<;>grind
 have h2:((D.W0.length:Nat):Rat)<=7:=by exact_mod_cast ok.l8
 show qbz D.W0 _<=7000;grind
theorem qfx(ok:jak D){n:Str}(hn:n∈D.W0):goQ D n*(D.wt n:Rat)=(D.wa n:Rat):=by
 have:=(wtQ ok hn).1;unfold goQ;exact xB (by grind)
noncomputable def B31:Nat:=10^31
theorem joc(ok:jak D){n:Str}(hn:n∈D.W0):0<=goQ D n/\goQ D n<=(B31:Rat):=by
 have h1:=(wtQ ok hn).1;have h2:=qfx ok hn;have a0:(0:Rat)<=(D.wa n:Rat):=by exact_mod_cast ok.a0 n hn
 have a1:(D.wa n:Rat)<=(B31:Rat):=by
  have h:D.wa n<=((B31:Nat):Int):=ok.a1 n hn;rw[<-uN];exact_mod_cast h
 have p:(0:Rat) <(D.wt n:Rat):=by grind
 have g0:0<=goQ D n:=by
  unfold goQ;exact(jf1 p).mpr (by grind)
 refine⟨g0,?_⟩;have:=vR h1 g0;grind
theorem qc7{R:List Str}{n:Str} :n∈wls W R↔n∈W/\n∉R:=by unfold wls;rw[zW];simp
theorem qd2{L:Rat}{n:Str} :n∈rdy D W lf L↔n∈W/\((∃h∈D.ln n,lf h/ldQ D W h=L)\/goQ D n=L):=by unfold rdy;rw[zW];simp
theorem RdI.next(ok:jak D){W:List Str}{lf lv:Str->Rat}{M L:Rat}{N:Nat}(I:RdI D W lf lv M N)(il:IsL D W lf L):M<=L/\L<=(B31:Rat)/\(wls W (rdy D W lf L)).length<W.length/\
  ∃N',(∃k:Nat,N'=N*k)/\Dv N' L/\RdI D (wls W (rdy D W lf L)) (lfN D lf L (rdy D W lf L)) (fun n=>if n∈rdy D W lf L then L else lv n) L N':=by
 have hsub:∀n∈rdy D W lf L,n∈W:=fun n h=>(qd2.mp h).1;have hRW:∀n∈rdy D W lf L,n∈D.W0:=fun n h=>I.sub n (hsub n h);have spl:=ji9 (D:=D) W (rdy D W lf L) hsub;have pos:∀n∈W,∀h∈D.ln n,(0:Rat)<ldQ D W h:=fun n hn h hl=>by
  have:=jev ok hn (I.sub n hn) hl;grind
 have lw:∀n∈W,∀h∈D.ln n,L*ldQ D W h<=lf h:=fun n hn h hl=>(jf1 (pos n hn h hl)).mp ((il.ge n hn).1 h hl);obtain⟨n1,hn1,c1⟩:=il.at_;have ML:M<=L:=by
  rcases c1 with⟨h,hl,e⟩|e
  .have p:=pos n1 hn1 h hl;have h1:=I.lo n1 hn1 h hl;have h2:=(jf1 p).mpr h1;grind
  .have:=I.go n1 hn1;grind
 have L0:0<=L:=by have:=I.m0;grind
 have Lb:L<=(B31:Rat):=by
  have h1:=(il.ge n1 hn1).2;have h2:=(joc ok (I.sub n1 hn1)).2;grind
 have r1:n1∈rdy D W lf L:=qd2.mpr ⟨hn1,c1⟩;have len:(wls W (rdy D W lf L)).length<W.length:=by
  unfold wls;refine List.length_filter_lt_length_iff_exists.mpr ⟨n1,hn1,?_⟩;simp[r1]
 have full:∀h,(∃n∈W,h∈D.ln n)->lf h/ldQ D W h=L->(∀m∈W,h∈D.ln m->m∈rdy D W lf L)/\lfN D lf L (rdy D W lf L) h=0:=fun h ⟨n,hn,hl⟩ e=>by
  have a1:∀m∈W,h∈D.ln m->m∈rdy D W lf L:=fun m hm hml=>qd2.mpr ⟨hm,.inl ⟨h,hml,e⟩⟩;refine⟨a1,?_⟩;have z:ldQ D (wls W (rdy D W lf L)) h=0:=qek fun m hm hml=>(qc7.mp hm).2 (a1 m (qc7.mp hm).1 hml);have s:=spl h;have e2:=(jdl (pos n hn h hl)).mp e;unfold lfN;grind
 have keep:∀h,(∀m∈W,h∉D.ln m)->lfN D lf L (rdy D W lf L) h=lf h:=fun h hm=>by
  have z:ldQ D (rdy D W lf L) h=0:=qek fun m hmr=>hm m (hsub m hmr);unfold lfN;grind
 refine⟨ML,Lb,len,?_⟩;obtain⟨k,k1,k2,kv⟩:∃k:Nat,1<=k/\k<=7000/\Dv (N*k) L:=by
  rcases c1 with⟨h,hl,e⟩|e
  .obtain⟨z,hz⟩:=qft (D:=D) W h;have b1:=jev ok hn1 (I.sub n1 hn1) hl;have b2:=jja ok W h;rw[hz] at b1 b2;have b1':(1:Int)<=z:=by exact_mod_cast b1
   have b2':z<=7000:=by exact_mod_cast b2
   obtain⟨y,hy⟩:=I.dl h;have e2:=(jdl (pos n1 hn1 h hl)).mp e;have ez:((z.toNat:Nat):Rat)=(z:Rat):=by
    have:((z.toNat:Nat):Int)=z:=by omega
    rw[<-uN,this]
   refine⟨z.toNat,#[],#[],y,?_⟩;rw[wV,ez,<-hy,e2,hz];grind
  .have hw:=ok.w1 n1 (I.sub n1 hn1);have hw2:=ok.w2 n1 (I.sub n1 hn1);have gm:=qfx ok (I.sub n1 hn1);have ez:(((D.wt n1).toNat:Nat):Rat)=(D.wt n1:Rat):=by
    have:(((D.wt n1).toNat:Nat):Int)=D.wt n1:=by omega
    rw[<-uN,this]
   refine⟨(D.wt n1).toNat,#[],#[],D.wa n1*(N:Int),?_⟩;rw[wV,ez,uS,uN,<-gm,<-e];grind
 refine⟨N*k,⟨k,rfl⟩,kv,?_⟩;have wl7:W.length<=7:=uY (vM I.nd I.sub) ok.l8;refine⟨fun n hn=>I.sub n (qc7.mp hn).1,I.nd.filter _,fun h=>?_,fun n hn h hl=>?_,fun n hn h hl=>?_,fun n hn=>(il.ge n (qc7.mp hn).1).2,L0,fun n hn hnw=>?_,bT I.n0 k1,fun h=>?_,?_⟩
 .
  unfold lfN;rw[I.sum h];have:L*ldQ D (rdy D W lf L) h=qbz D.W0 fun n=>if n∈rdy D W lf L/\h∈D.ln n then L*(D.wt n:Rat) else 0:=by
   unfold ldQ;rw[<-qdn];refine qc9 fun n _=>?_
   try dsimp only
   split<;>grind
  rw[this];have e:(qbz D.W0 fun n=>if n∉wls W (rdy D W lf L)/\h∈D.ln n then(if n∈rdy D W lf L then L else lv n)*(D.wt n:Rat) else 0)=(qbz D.W0 fun n=>if n∉W/\h∈D.ln n then lv n*(D.wt n:Rat) else 0)+qbz D.W0 fun n=>if n∈rdy D W lf L/\h∈D.ln n then L*(D.wt n:Rat) else 0:=by
   rw[<-qf8];refine qc9 fun n _=>?_
   try dsimp only
   by_cases c:h∈D.ln n
   .by_cases c2:n∈rdy D W lf L
    .rw[gL ⟨fun z=>(qc7.mp z).2 c2,c⟩,gL c2,gK (fun z=>z.1 (hsub n c2)),gL ⟨c2,c⟩];grind
    .by_cases c3:n∈W
     .rw[gK (fun z=>z.1 (qc7.mpr ⟨c3,c2⟩)),gK (fun z=>z.1 c3),gK (fun z=>c2 z.1)];grind
     .rw[gL ⟨fun z=>c3 (qc7.mp z).1,c⟩,gK c2,gL ⟨c3,c⟩,gK (fun z=>c2 z.1)];grind
   .rw[gK (fun z=>c z.2),gK (fun z=>c z.2),gK (fun z=>c z.2)];grind
  rw[e];grind
 .have h1:=lw n (qc7.mp hn).1 h hl;have s:=spl h;unfold lfN;rw[s] at h1;grind
 .unfold lfN;by_cases c:∃m∈W,h∈D.ln m
  .obtain⟨m,hm,hml⟩:=c;have h1:=lw m hm h hml;have h2:=jl9 ok (wls W (rdy D W lf L)) h;have s:=spl h;have h3:=wT L0 h2;rw[s] at h1;grind
  .have z:ldQ D (rdy D W lf L) h=0:=qek fun m hm hml=>c ⟨m,hsub m hm,hml⟩;have e:=I.nn n hn h hl;have e2:lf h-L*0=lf h:=by clear full keep pos lw spl;grind
   rw[z,e2];exact e
 .by_cases c:n∈rdy D W lf L
  .rw[gL c];obtain⟨nW,c2⟩:=qd2.mp c;refine⟨L0,by grind,(il.ge n nW).2,?_⟩;rcases c2 with⟨h,hl,e⟩|e
   .obtain⟨a1,a2⟩:=full h ⟨n,nW,hl⟩ e;refine .inr ⟨h,hl,a2,fun m hm hml=>(qc7.mp hm).2 (a1 m (qc7.mp hm).1 hml),fun m hm hml=>?_⟩;by_cases c3:m∈rdy D W lf L
    .rw[gL c3];grind
    .rw[gK c3];have hmW:m∉W:=fun z=>c3 (a1 m z hml);have:=(I.st m hm hmW).2.1;grind
   .exact .inl e.symm
  .rw[gK c];have nW:n∉W:=fun z=>hnw (qc7.mpr ⟨z,c⟩);obtain⟨a1,a2,a3,a4⟩:=I.st n hn nW;refine⟨a1,by grind,a3,?_⟩;rcases a4 with e|⟨h,hl,b1,b2,b3⟩
   .exact .inl e
   .refine .inr ⟨h,hl,by rw[keep h b2];exact b1,fun m hm=>b2 m (qc7.mp hm).1,fun m hm hml=>?_⟩;have hmW:m∉W:=fun z=>b2 m z hml;rw[gK (fun z=>hmW (hsub m z))];exact b3 m hm hml
 .obtain⟨z,hz⟩:=qft (D:=D) (rdy D W lf L) h;unfold lfN;rw[hz];exact((I.dl h).mul k).sub (kv.ints z)
 .have h1:=I.nb;have:N*k<=10000^(7-W.length)*10000:=wP h1 #[];refine uY this ?_;rw[<-Nat.pow_succ];exact xD ∅ #[]
end
structure TrD(d:Ad)(H:Hp)(t:Addr)(S:Ts)(D:Dl):Prop where
 tr:qf4 d H t S
 ln:∀n∈D.W0,∃e,S.at n=some e/\True/\jau S n (D.ln n)
theorem TrD.same{d:Ad}{H H':Hp}{t:Addr}{S:Ts}{D:Dl}(h:TrD d H t S D)(s:jab H H'):TrD d H' t S D:=⟨h.tr.same s,h.ln⟩
noncomputable def qbu(W:List Str)(g:Str->Int):Str->Option Int:=fun z=>if z∈W then some (g z) else none
def qba{g:Str->Int}(h:z∈W):qbu W g z=some (g z):=gL h
theorem qcz{g:Str->Int} :qbu W g z≠none↔z∈W:=by
 unfold qbu;by_cases c:z∈W
 .rw[gL c];simp[c]
 .rw[gK c];simp[c]
def qdc{kvs:List (Key×V)}{g:Str->Int}(h:AD kvs (qbu W g))(nd:W.Nodup):(qc3 kvs).Perm W:=
 (cD h.knd nd).mpr fun z=>by rw[h.kin,qcz]
def qeo{ss':List Str}(h:ss.Perm ss')(a:vX ss=true)(b:vX ss'=true):ss=ss':=
 List.Perm.eq_of_pairwise (le:=leS) (fun x y _ _ h1 h2=>jkj h1 h2) (qfh a) (qfh b) h
def Wgh(H:Hp)(S:Ts)(D:Dl)(wv:V):Prop:=(wv=.non/\∀n∈D.W0,∀e,S.at n=some e->e.x.w=D.wt n)\/∃(g tb:Addr)(kt:List (Key×V)),wv=.ref g/\WgH H g tb/\H tb=some (.dK kt)/\AD kt (qbu D.W0 D.wt)
theorem Wgh.same{H H':Hp}{S:Ts}{D:Dl}{wv:V}(h:Wgh H S D wv)(s:jab H H'):Wgh H' S D wv:=by
 rcases h with h|⟨g,tb,kt,e,⟨cl,cd,w1,w2,w3⟩,ht,ha⟩
 .exact .inl h
 .exact .inr ⟨g,tb,kt,e,⟨cl,cd,s _ _ w1,s _ _ w2,s _ _ w3⟩,s _ _ ht,ha⟩
inductive jcn(K:uX)(d:Ad)(vs:List V)(H:Hp)(Q:VK)(E:XK):Prop
 |mk(t dw:Addr)(wv:V)(S:Ts)(D:Dl)(kw:List (Key×V))(_:vs=[.ref t,.ref dw,wv])(_:jak D)(_:vX D.W0=true)(_:TrD d H t S D)(_:Wgh H S D wv)(_:H dw=some (.dK kw))(_:AD kw (qbu D.W0 D.wa))(_:∀l k' H',jab H H'->H l=none->H' l=some (.dK k')->AD k' (qbu D.W0 D.wt)->Q (.ref l) H')
def qeq{i:Int}(y:Str):jgh f z i y=if y=z then some i else f y:=rfl
include T in
theorem w77:jac P w K mg base (My.CX1 P w) 5 d.w56 d.w4i ["tree","wants","weigh"] (jcn K d):=by
 exists okX T.w58 w49
 .right
 obtain⟨t,dw,wv,S,D,kw,rfl,ok,so,hT,hg,hw,hA,q⟩:=h;exists (qa2 (qae (i:=3) w49.nd rfl (uD rfl) qb7)
  (qa2 (qb1 (qbj rfl rfl) rfl (qaw (qaj (qcb rfl) rfl T.w2n wF #[pv 1])) (qab (i:=4) w49.nd rfl (uD rfl)) (qa6 (qb2 (qap hr) (pv 3) (pv 4) (jfa (qan jd5 (pv 2) qcq (qar _)) (qb6 (pv 0) T.w03 T.w0z ((w81 T).mono ∅) hr T.w8t .nil qau #[pv 4]) (jt7 jwy hr (i:=2) rfl (uD rfl) #[pv 4])) rfl)))
  (qa6 (qaf (pv 3))))),[sr t,sr dw,some (wv),none,none];have ct:=T.w03;have l8:=ok.l8;have kp:=qdc hA ok.nd;left;rename_i l hl;have s1:=qa4 hl (.dK []);have el:upd H l (.dK []) l=some (.dK []):=qa1;generalize upd H l (.dK [])=H1 at*;refine qdg (ss:=qc3 kw) (.inl (s1 _ _ hw)) hA.keys (by have:=kp.length_eq;omega) fun ls ss hls hp hs=>?_;have ess:ss=D.W0:=qeo (hp.trans kp) hs so;subst ess;have s2:=s1.trans (qa4 hls (.lst (D.W0.map V.str)));have els:upd H1 ls (.lst (D.W0.map V.str)) ls=some (.lst (D.W0.map V.str)):=qa1;have el2:=qaa (o':=.lst (D.W0.map V.str)) el hls;have hls0:H ls=none:=s1.free hls;generalize upd H1 ls (.lst (D.W0.map V.str))=H2 at*;have nls:l≠ls:=fun e=>by subst e;rw[el] at hls;cases hls
 clear el hls s1;left;refine qbp (xs:=D.W0.map V.str) (fun i σ H'=>∃(k':List (Key×V))(w:Option V),σ=[sr t,sr dw,some wv,sr l,w]/\jab H H'/\H' ls=some (.lst (D.W0.map V.str))/\H' l=some (.dK k')/\AD k' (qbu (D.W0.take i) D.wt)/\k'.length<=i) ⟨[],none,rfl,s2,els,el2,AD.nil.cast fun z=>rfl,uF _⟩ ?_ ?_ ?_
 .rintro i σ H' _ ⟨k',w,rfl,_,e,_⟩;exact SqL.of e
 .rintro i v σ H' hv ⟨k',w,rfl,sm,es,ed,hK,hk⟩;rw[zC] at hv;obtain⟨n,hn,rfl⟩:=uH.mp hv;have hi:=(uL.mp hn).1;have hn0:=zE hn;obtain⟨e,ae,ew,_⟩:=hT.ln n hn0;obtain⟨dx,ht⟩:=id (hT.tr.same sm).1;have zk:k'.length<sizeLine:=by show _<16777216;omega
  clear hv;rcases hg.same sm with⟨rfl,hg2⟩|⟨g,tb,kt,rfl,hW,htb,hKt⟩
  .left;refine⟨t,S,.str n,rfl,hT.tr.same sm,.inl ⟨_,rfl⟩,fun e1 he1=>?_,fun hx=>?_⟩
   rotate_left
   .rw[show who S (.str n)=some e from ae] at hx;cases hx
   have ee:e=e1:=uU (ae.symm.trans he1);subst ee;rw[hg2 n hn0 e ae];left;have lput:=qb0 k' (uE n) (.int (D.wt n));refine⟨_,_,rfl,qb9 sm hl,by rw[qa7 nls.symm];exact es,qa1,(hK.put n (D.wt n)).cast fun z=>?_,#[]⟩;rw[qeq];unfold qbu;have tk:z∈D.W0.take (i+1)↔z∈D.W0.take i\/z=n:=qat hn z;by_cases c:z=n
   .rw[gL c,gL (tk.mpr (.inr c)),c]
   .rw[gK c];by_cases c2:z∈D.W0.take i
    .rw[gL c2,gL (tk.mpr (.inl c2))]
    .rw[gK c2,gK fun h=>(tk.mp h).elim c2 c]
  .have hWR:=hW;have hRt:Rd H' tb (.dK kt):=.inl htb;left;refine⟨g,tb,rfl,hW,?_⟩;left;refine⟨_,.int (D.wt n),rfl,hW,.inl ⟨kt,.inr n,hRt,rfl,?_⟩,?_⟩
   .rw[hKt.get,qba hn0];rfl
   left;have lput:=qb0 k' (uE n) (.int (D.wt n));refine⟨_,_,rfl,qb9 sm hl,by rw[qa7 nls.symm];exact es,qa1,(hK.put n (D.wt n)).cast fun z=>?_,#[]⟩;rw[qeq];unfold qbu;have tk:z∈D.W0.take (i+1)↔z∈D.W0.take i\/z=n:=qat hn z;by_cases c:z=n
   .rw[gL c,gL (tk.mpr (.inr c)),c]
   .rw[gK c];by_cases c2:z∈D.W0.take i
    .rw[gL c2,gL (tk.mpr (.inl c2))]
    .rw[gK c2,gK fun h=>(tk.mp h).elim c2 c]
 rintro σ H' ⟨k',w,rfl,sm,es,ed,hK,hk⟩;rw[zB,zH] at hK;left;exact q l k' H' sm hl ed hK
noncomputable def ldI(D:Dl)(W:List Str)(h:Str):Int:=(W.map fun n=>if h∈D.ln n then D.wt n else 0).sum
open Classical in
noncomputable def ldF(D:Dl)(W:List Str):Str->Option Int:=fun h=>if ∃n∈W,h∈D.ln n then some (ldI D W h) else none
theorem jk4{h:Str}(hn:¬∃n∈W,h∈D.ln n):ldI D W h=0:=by
 unfold ldI
 induction W with
 |nil=>rfl
 |cons n W ih=>
  rw[zV,cP,gK fun z=>hn ⟨n,zG ..,z⟩,ih fun⟨m,hm,hl⟩=>hn ⟨m,zD _ hm,hl⟩];rfl
theorem jrx(D:Dl)(W:List Str)(h:Str):gN (ldF D W) h=ldI D W h:=by
 unfold gN ldF;by_cases c:∃n∈W,h∈D.ln n
 .rw[gL c];rfl
 .rw[gK c,jk4 c];rfl
theorem jjb(D:Dl)(W:List Str)(n h:Str):ldI D (W++[n]) h=ldI D W h+if h∈D.ln n then D.wt n else 0:=by
 unfold ldI;rw[zI,List.sum_append];simp
inductive jew(K:uX)(d:Ad)(vs:List V)(H:Hp)(Q:VK)(E:XK):Prop
 |mk(t dg lw:Addr)(S:Ts)(D:Dl)(kg:List (Key×V))(W:List Str)(_:vs=[.ref t,.ref dg,.ref lw])(_:jak D)(_:TrD d H t S D)(_:H dg=some (.dK kg))(_:AD kg (qbu D.W0 D.wt))(_:H lw=some (.lst (W.map V.str)))(_:(∀n∈W,n∈D.W0))(_:W.length<=7)(_:∀l k' H',jab H H'->H l=none->H' l=some (.dK k')->AD k' (ldF D W)->k'.length<=200->Q (.ref l) H')
include T in
theorem wd5:jac P w K mg base (My.CX1 P w) 6 d.w7e d.w6m ["tree","weights","waiting"] (jew K d):=by
 exists okX T.waq w4h
 .right
 obtain⟨t,dg,lw,S,D,kg,W,rfl,ok,hT,hg,hA,hW,sub,w7,q⟩:=h;exists (qa2 (qae (i:=3) w4h.nd rfl (uD rfl) qb7)
  (qa2 (qb1 (qbj rfl rfl) rfl (qaw (pv 2)) (qab (i:=4) w4h.nd rfl (uD rfl)) (qa6 (qb1 (qbj rfl rfl) rfl (qaw (qb6 (pv 0) T.w03 T.w0i ((w24 T).mono ∅) hr T.w2i .nil qau #[pv 4])) (qab (i:=5) w4h.nd rfl (uD rfl)) (qa6 (qb2 (qap hr) (pv 3) (pv 5) (qag qby (qfa (qap hr) (pv 3) (pv 5) qa5 ⟨rfl,rfl,rfl,rfl⟩) (pv 1|||pv 4)) rfl)))))
  (qa6 (qaf (pv 3))))),[sr t,sr dg,sr lw,none,none,none];have ct:=T.w03;left;rename_i l hl;have s1:=qa4 hl (.dK []);have el:upd H l (.dK []) l=some (.dK []):=qa1;generalize upd H l (.dK [])=H1 at*;have nlw:lw≠l:=qa9 hW hl;have ndg:dg≠l:=qa9 hg hl;refine qbp (xs:=W.map V.str) (fun i σ H'=>∃(k':List (Key×V))(w1 w2:Option V),σ=[sr t,sr dg,sr lw,sr l,w1,w2]/\jab H H'/\H' l=some (.dK k')/\AD k' (ldF D (W.take i))/\k'.length<=20*i) ⟨[],none,none,rfl,s1,el,AD.nil.cast fun z=>?_,uF _⟩ ?_ ?_ ?_
 .unfold ldF;rw[gK fun⟨n,hn,_⟩=>by simp at hn];rfl
 .rintro i σ H' _ ⟨k',w1,w2,rfl,sm,_⟩;exact SqL.of (sm _ _ hW)
 .rintro i v σ H' hv ⟨k',w1,w2,rfl,sm,ed,hK,hk⟩;rw[zC] at hv;obtain⟨n,hn,rfl⟩:=uH.mp hv;have hi:=(uL.mp hn).1;have hn0:=sub n (zE hn);obtain⟨e,ae,ew,hln⟩:=hT.ln n hn0;obtain⟨dx,ht⟩:=id (hT.tr.same sm).1;have lz:=ok.lz n hn0;have lnd:=ok.ld n hn0;have etk:W.take (i+1)=W.take i++[n]:=by rw[zM,hn];rfl
  clear hv;left;refine⟨t,S,.str n,rfl,hT.tr.same sm,.inl ⟨n,_,rfl,hln,#[],fun ll hll=>?_⟩⟩;have s2:=sm.trans (qa4 hll (.lst ((D.ln n).map V.str)));have ell:upd H' ll (.lst ((D.ln n).map V.str)) ll=some (.lst ((D.ln n).map V.str)):=qa1;have ed2:=qaa (o':=.lst ((D.ln n).map V.str)) ed hll;have nll:ll≠l:=fun z=>by subst z;rw[ed] at hll;cases hll
  generalize upd H' ll (.lst ((D.ln n).map V.str))=H2 at*;clear hll ed;left;refine qbp (xs:=(D.ln n).map V.str) (fun j σ H'=>∃(k2:List (Key×V))(w2:Option V),σ=[sr t,sr dg,sr lw,sr l,some (.str n),w2]/\jab H H'/\H' ll=some (.lst ((D.ln n).map V.str))/\H' l=some (.dK k2)/\AD k2 (fun h=>if h∈(D.ln n).take j then some (ldI D (W.take i) h+D.wt n) else ldF D (W.take i) h)/\k2.length<=20*i+j) ⟨k',w2,rfl,s2,ell,ed2,hK.cast fun z=>by simp,#[]⟩ ?_ ?_ ?_
  .rintro j σ H' _ ⟨k2,w2,rfl,_,e,_⟩;exact SqL.of e
  .rintro j v σ H3 hv ⟨k2,w2,rfl,s3,el3,ed3,hK3,hk3⟩;rw[zC] at hv;obtain⟨h,hh,rfl⟩:=uH.mp hv;have hj:=(uL.mp hh).1;have hnt:h∉(D.ln n).take j:=qgo lnd hh;have hRd:Rd H3 l (.dK k2):=.inl ed3;have hRg:Rd H3 dg (.dK kg):=.inl (s3 _ _ hg);have gl:gN (fun h=>if h∈(D.ln n).take j then some (ldI D (W.take i) h+D.wt n) else ldF D (W.take i) h) h=ldI D (W.take i) h:=by
    unfold gN;dsimp only;rw[gK hnt];exact jrx D (W.take i) h
   have gw:qbu D.W0 D.wt n=some (D.wt n):=qba hn0;have zk:k2.length<sizeLine:=by show _<16777216;omega
   clear hv;left;rw[gl];have lput:=qb0 k2 (uE h) (.int (ldI D (W.take i) h+D.wt n));refine⟨_,_,rfl,qb9 s3 hl,by rw[qa7 nll];exact el3,qa1,(hK3.put h _).cast fun z=>?_,#[]⟩;rw[qeq];have tk:z∈(D.ln n).take (j+1)↔z∈(D.ln n).take j\/z=h:=qat hh z;by_cases c:z=h
   .rw[gL c,gL (tk.mpr (.inr c)),c]
   .rw[gK c];by_cases c2:z∈(D.ln n).take j
    .rw[gL c2,gL (tk.mpr (.inl c2))]
    .rw[gK c2,gK fun h'=>(tk.mp h').elim c2 c]
  .rintro σ H3 ⟨k2,w2',rfl,s3,el3,ed3,hK3,hk3⟩;rw[zB,zH] at hK3;refine⟨k2,_,_,rfl,s3,ed3,hK3.cast fun z=>?_,by rw[zB] at hk3;omega⟩;rw[etk];unfold ldF;rw[jjb];by_cases c:z∈D.ln n
   .rw[gL c,gL ⟨n,zK _ (zF.mpr rfl),c⟩,gL c]
   .rw[gK c,gK c,Int.add_zero];by_cases c2:∃m∈W.take i,z∈D.ln m
    .obtain⟨m,hm,hml⟩:=c2;rw[gL ⟨m,hm,hml⟩,gL ⟨m,zO _ hm,hml⟩]
    .rw[gK c2,gK ?_];rintro⟨m,hm,hml⟩;rcases zN.mp hm with h|h
     .exact c2 ⟨m,h,hml⟩
     .have:m=n:=by simpa using h
      exact c (this▸hml)
 .rintro σ H' ⟨k',w1,w2,rfl,sm,ed,hK,hk⟩;rw[zB,zH] at hK;left;exact q l k' H' sm hl ed hK (by rw[zB] at hk;omega)
def FrL(H:Hp)(ps:List (Addr×Rat)):Prop:=∀p∈ps,qb8 H p.1 p.2/\RB p.2
def wdx(K:uX)(d:Ad):Sp:=fun vs H Q _=>∃(lm:Addr)(ps:List (Addr×Rat)),vs=[.ref lm]/\H lm=some (.lst (ps.map fun p=>V.ref p.1))/\FrL H ps/\ps≠ []/\∀p∈ps,(∀p'∈ps,p.2<=p'.2)->Q (.ref p.1) H
include T in
theorem wd2:jac P w K mg base CX0 2 d.w84 d.w6r ["many"] (wdx K d):=by
 exists T.wam.ok w4m
 .right
 obtain⟨lm,ps,rfl,hl,hf,ne,q⟩:=h;exists (qa2 (qae (i:=1) w4m.nd rfl (uD rfl) (qam qax (pv 0) qa5 nofun))
  (qa2 (qb1 vJ rfl (qaw (pv 0)) (qab (i:=2) w4m.nd rfl (uD rfl)) (qa6 (qca (qb5 (qbd (qac ((w5q T).mono ∅) hr rfl T.w85 T.w68.kp T.w7w .nil qas #[pv 2,pv 1])) (qa6 (qae (i:=1) w4m.nd rfl (uD rfl) (pv 2))) qal))))
  (qa6 (qaf (pv 1))))),[sr lm,none,none];have l0:0<ps.length:=bY.mpr ne;have x0:atI (ps.map fun p=>V.ref p.1) 0=some (.ref ps[0].1):=qbt (j:=0) (by rw[zC,zA l0];rfl);left;refine qcc (SqL.of hl) x0 ?_;left;refine qbp (xs:=ps.map fun p=>V.ref p.1) (fun i σ H'=>∃(p:Addr×Rat)(w:Option V),σ=[sr lm,sr p.1,w]/\H'=H/\p∈ps/\∀p'∈ps.take i,p.2<=p'.2) ⟨ps[0],none,rfl,rfl,zY l0,fun p' h=>by simp at h⟩ ?_ ?_ ?_
 .rintro i σ H' _ ⟨p,w,rfl,rfl,_⟩;exact SqL.of hl
 .rintro i v σ H' hv ⟨p,w,rfl,rfl,hp,hle⟩;rw[zC] at hv;obtain⟨p',hp',rfl⟩:=uH.mp hv;have hm':=zE hp';have tk:∀x∈ps.take (i+1),x∈ps.take i\/x=p':=fun x hx=>by
   rw[zM,hp'] at hx;rcases zN.mp hx with h|h
   .exact .inl h
   .exact .inr (by simpa using h)
  clear hv;left;refine qd4 ?_;left;refine⟨p'.1,p.1,p'.2,p.2,rfl,(hf p' hm').1,(hf p hp).1,(hf p' hm').2,(hf p hp).2,?_⟩;by_cases c:p'.2<p.2
  .rw[gM c];left;refine⟨p',_,rfl,rfl,hm',fun x hx=>?_⟩;rcases tk x hx with h|rfl
   .have:=hle x h;grind
   .grind
  .rw[gO c];left;refine⟨p,_,rfl,rfl,hp,fun x hx=>?_⟩;rcases tk x hx with h|rfl
   .exact hle x h
   .grind
 .rintro σ H' ⟨p,w,rfl,rfl,hp,hle⟩;rw[zB,zH] at hle;left;exact q p hp hle
structure FD(H:Hp)(kvs:List (Key×V))(φ:Str->Option Rat):Prop where
 nd:(kvs.map (·.1)).Nodup
 sh:∀p∈kvs,∃z a q,p=(uE z,V.ref a)/\qb8 H a q/\φ z=some q
 no:∀z,φ z=none->qcp kvs (uE z)=none
 get:∀z q,φ z=some q->∃a,qcp kvs (uE z)=some (.ref a)/\qb8 H a q
def qav(H H':Hp):Prop:=∀a xs,H a=some (.tup xs)->H' a=some (.tup xs)
def qav.of(s:jab H H'):qav H H':=fun a xs h=>s _ _ h
theorem qav.upd{o u:HO}(h:H a=some u)(n:∀xs,u≠ .tup xs):qav H (L2.upd H a o):=fun b xs hb=>by
 rw[qa7 (fun e=>by subst e;rw[h] at hb;exact n xs (uU hb))];exact hb
def qav.trans{H'':Hp}(h:qav H H')(h':qav H' H''):qav H H'':=fun a xs e=>h' _ _ (h _ _ e)
def FD.nil:FD H [] (fun _=>none):=⟨yJ,fun p hp=>absurd hp (by simp),fun z _=>rfl,fun z q h=>by cases h⟩
theorem FD.t{kvs:List (Key×V)}(h:FD H kvs φ)(t:qav H H'):FD H' kvs φ:=⟨h.nd,fun p hp=>by
 obtain⟨z,a,q,e1,e2,e3⟩:=h.sh p hp;exact⟨z,a,q,e1,t _ _ e2,e3⟩,h.no,fun z q e=>by
 obtain⟨a,e1,e2⟩:=h.get z q e;exact⟨a,e1,t _ _ e2⟩⟩
theorem FD.cast{kvs:List (Key×V)}{ψ:Str->Option Rat}(h:FD H kvs φ)(e:∀z,φ z=ψ z):FD H kvs ψ:=by
 rw[show ψ=φ from funext fun z=>(e z).symm];exact h
theorem FD.put{kvs:List (Key×V)}(h:FD H kvs φ)(z:Str){a:Addr}{q:Rat}(ha:qb8 H a q):FD H (qbh kvs (uE z) (.ref a)) (fun y=>if y=z then some q else φ y):=by
 refine⟨?_,fun p hp=>?_,fun y hy=>?_,fun y r hy=>?_⟩
 .cases c:qcp kvs (uE z) with
  |none=>exact jee _ h.nd c
  |some v=>rw[qed (by rw[c];simp)];exact h.nd
 .have hd:((qbh kvs (uE z) (.ref a)).map (·.1)).Nodup:=by
   cases c:qcp kvs (uE z) with
   |none=>exact jee _ h.nd c
   |some v=>rw[qed (by rw[c];simp)];exact h.nd
  rcases jfl hp with rfl|hp'
  .exact⟨z,a,q,rfl,ha,gL rfl⟩
  .obtain⟨y,b,r,e1,e2,e3⟩:=h.sh p hp';by_cases c:y=z
   .subst c;have hv:qcp (qbh kvs (uE y) (.ref a)) (uE y)=some (.ref a):=by rw[qf6,gL rfl]
    have hv2:=qff hd (k:=uE y) (v:=.ref b) (by rw[<-e1];exact hp);rw[hv] at hv2;have:a=b:=by injection hv2 with h1;injection h1
    subst this;exact⟨y,a,q,e1,ha,gL rfl⟩
   .exact⟨y,b,r,e1,e2,by rw[gK c];exact e3⟩
 .by_cases c:y=z
  .rw[gL c] at hy;cases hy
  .rw[gK c] at hy;rw[qf6,gK (fun e=>c (yW e))];exact h.no y hy
 .rw[qf6];by_cases c:y=z
  .rw[gL c] at hy
   cases hy
   exact⟨a,by rw[gL (by rw[c])],ha⟩
  .rw[gK c] at hy;rw[gK (fun e=>c (yW e))];exact h.get y r hy
theorem qcg{kvs:List (Key×V)}(d:Rd H a (.dK kvs))(A:FD H kvs φ)(e:φ z=some q)(h:∀b,qb8 H b q->Q (.ref b) H):jsc (.ref a) (.str z) H Q:=by
 obtain⟨b,e1,e2⟩:=A.get z q e;exact⟨a,.ref b,rfl,.inl ⟨kvs,uE z,d,rfl,e1.symm⟩,h b e2⟩
theorem FD.at{kvs:List (Key×V)}(h:FD H kvs φ){i:Nat}{k:Key}{v:V}(e:kvs[i]?=some (k,v)):∃z a q,k=uE z/\v=.ref a/\qb8 H a q/\φ z=some q:=by
 obtain⟨z,a,q,e1,e2,e3⟩:=h.sh _ (zE e);injection e1 with a1 a2
 exact⟨z,a,q,a1,a2,e2,e3⟩
def qct{z:Int}(h:H a=some (.tup [.int z,.int 1])):qb8 H a (z:Rat):=h
def qfj{z:Int}(h:z.natAbs<2^290):RB (z:Rat):=⟨h,by show 1<2^290;decide⟩
noncomputable def qc4(W:List Str)(g:Str->Rat):Str->Option Rat:=fun z=>if z∈W then some (g z) else none
noncomputable def fsD(t dg lw dl dgo:Addr):List (Str×V):=[("tree",.ref t),("weights",.ref dg),("waiting",.ref lw),("left",.ref dl),("goals",.ref dgo)]
noncomputable def fs2(t dg:Addr):List (Str×V):=[("tree",.ref t),("weights",.ref dg)]
noncomputable def fs3(t dg lw:Addr):List (Str×V):=[("tree",.ref t),("weights",.ref dg),("waiting",.ref lw)]
noncomputable def fs4(t dg lw dl:Addr):List (Str×V):=[("tree",.ref t),("weights",.ref dg),("waiting",.ref lw),("left",.ref dl)]
def Sb2(x y:Addr)(H H':Hp):Prop:=∀b u,b≠x->b≠y->H b=some u->H' b=some u
def Sb2.same{x y:Addr}{H H' H'':Hp}(s:Sb2 x y H H')(s':jab H' H''):Sb2 x y H H'':=fun b u n1 n2 e=>s' _ _ (s b u n1 n2 e)
inductive jcc(K:uX)(d:Ad)(vs:List V)(H:Hp)(Q:VK)(E:XK):Prop
 |mk(x dx t dr dw dg:Addr)(D:Dl)(HS:List Str)(kr kw kg:List (Key×V))(_:vs=[.ref x,.ref t,.ref dr,.ref dw,.ref dg])(_:H x=some (.ins d.w00 dx []))(_:jak D)(_:vX D.W0=true)(_:H dr=some (.dK kr))(_:AD kr (qbu HS D.rm))(_:HS.Nodup)(_:HS.length<=60)(_:H dw=some (.dK kw))(_:AD kw (qbu D.W0 D.wa))(_:H dg=some (.dK kg))(_:AD kg (qbu D.W0 D.wt))(_:dg≠dw)(_:∀(lw dl dgo:Addr)(kl kgo:List (Key×V)) H',SameBut x H H'->H lw=none->H dl=none->H dgo=none->dl≠dgo->H' x=some (.ins d.w00 dx (fsD t dg lw dl dgo))->H' lw=some (.lst (D.W0.map V.str))->H' dl=some (.dK kl)->FD H' kl (qc4 HS fun h=>(D.rm h:Rat))->kl.length<=60->H' dgo=some (.dK kgo)->FD H' kgo (qc4 D.W0 (goQ D))->Q .non H')
include T in
theorem w9o:jac P w K mg base (My.CX1 P w) 4 d.w3t d.w3c ["self","tree","rooms","wants","weights"] (jcc K d):=by
 exists okX T.wac w3n
 .right
 obtain⟨x,dx,t,dr,dw,dg,D,HS,kr,kw,kg,rfl,hx,ok,so,hr0,hrA,hnd,h60,hw,hwA,hg,hgA,ngd,q⟩:=h;exists (qa2 (qcj (pv 0) (pv 1) rfl)
  (qa2 (qcj (pv 0) (pv 4) rfl)
  (qa2 (qcj (pv 0) (qaj (qcb rfl) rfl T.w2n wF #[pv 3]) rfl)
  (qa2 (qcj (pv 0) qb7 rfl)
  (qa2 (qcj (pv 0) qb7 rfl)
  (qa2 (qdx (qb1 (qbj rfl rfl) rfl (qck (pv 2)) (qab (i:=5) w3n.nd rfl (uD rfl)) (qa6 (qb2 (qap hr) (qay (pv 0) rfl) (pv 5) (qbc #[pv 2|||pv 5,qa5]) rfl))))
  (qa6 (qdx (qb1 (qbj rfl rfl) rfl (qck (pv 3)) (qab (i:=6) w3n.nd rfl (uD rfl)) (qa6 (qb2 (qap hr) (qay (pv 0) rfl) (pv 6) (qaz ((w3d T).mono ∅) hr rfl T.w42 T.w37.kp T.w41 .nil qau #[pv 3|||pv 6,pv 4|||pv 6]) rfl))))))))))),[sr x,sr t,sr dr,sr dw,sr dg,none,none];have cl:=T.w0f;have n1:qaq K d.w00 "tree":=T.w0e;have n2:qaq K d.w00 "weights":=T.w0a;have n3:qaq K d.w00 "waiting":=T.w04;have n4:qaq K d.w00 "left":=T.w0l;have n5:qaq K d.w00 "goals":=T.w0g;have l8:=ok.l8;have kp:=qdc hwA ok.nd;have kpr:=qdc hrA hnd;have nxw:dw≠x:=fun e=>by subst e;rw[hx] at hw;cases hw
 have nxr:dr≠x:=fun e=>by subst e;rw[hx] at hr0;cases hr0
 have nxg:dg≠x:=fun e=>by subst e;rw[hx] at hg;cases hg
 left;refine qec qa1 cl n2 (by show 1<1000;decide) ?_;have ef:qdw "weights" (.ref dg) (qdw "tree" (.ref t) [])=(fs2 t dg):=rfl;rw[ef,qd1];have sb1:SameBut x H (upd H x (.ins d.w00 dx (fs2 t dg))):=fun b u hb e=>by rw[qa7 hb];exact e
 have ex1:upd H x (.ins d.w00 dx (fs2 t dg)) x=some (.ins d.w00 dx (fs2 t dg)):=qa1;have fr1:∀b,upd H x (.ins d.w00 dx (fs2 t dg)) b=none->H b=none:=fun b hb=>by
  by_cases c:b=x
  .subst c;rw[qa1] at hb;cases hb
  .rw[qa7 c] at hb;exact hb
 generalize upd H x (.ins d.w00 dx (fs2 t dg))=H1 at*;have hw1:=sb1 _ _ nxw hw;left;refine qdg (ss:=qc3 kw) (.inl hw1) hwA.keys (by have:=kp.length_eq;omega) fun lw ss hlw hp hs=>?_;have ess:ss=D.W0:=qeo (hp.trans kp) hs so;subst ess;have s2:=qa4 hlw (.lst (D.W0.map V.str));have ew2:upd H1 lw (.lst (D.W0.map V.str)) lw=some (.lst (D.W0.map V.str)):=qa1;have flw:=fr1 lw hlw;generalize upd H1 lw (.lst (D.W0.map V.str))=H2 at*;have ex2:=s2 _ _ ex1;have nlx:lw≠x:=fun e=>by subst e;rw[ex1] at hlw;cases hlw
 left;refine qec ex2 cl n3 (by show 2<1000;decide) ?_;rw[show qdw "waiting" (.ref lw) (fs2 t dg)=(fs3 t dg lw) from rfl];have sb3:SameBut x H (upd H2 x (.ins d.w00 dx (fs3 t dg lw))):=fun b u hb e=>by rw[qa7 hb];exact s2 _ _ (sb1 _ _ hb e)
 have ex3:upd H2 x (.ins d.w00 dx (fs3 t dg lw)) x=some (.ins d.w00 dx (fs3 t dg lw)):=qa1;have ew3:upd H2 x (.ins d.w00 dx (fs3 t dg lw)) lw=some (.lst (D.W0.map V.str)):=by rw[qa7 nlx];exact ew2
 have fr3:∀b,upd H2 x (.ins d.w00 dx (fs3 t dg lw)) b=none->H b=none:=fun b hb=>by
  by_cases c:b=x
  .subst c;rw[qa1] at hb;cases hb
  .rw[qa7 c] at hb;exact fr1 b (s2.free hb)
 generalize upd H2 x (.ins d.w00 dx (fs3 t dg lw))=H3 at*;clear ex1 ex2 s2 sb1 fr1 hlw ew2 hw1;left;rename_i dl hdl;have s4:=qa4 hdl (.dK []);have el4:upd H3 dl (.dK []) dl=some (.dK []):=qa1;have fdl:=fr3 dl hdl;generalize upd H3 dl (.dK [])=H4 at*;have ex4:=s4 _ _ ex3;have ndx:dl≠x:=fun e=>by subst e;rw[ex3] at hdl;cases hdl
 refine qec ex4 cl n4 (by show 3<1000;decide) ?_;rw[show qdw "left" (.ref dl) (fs3 t dg lw)=(fs4 t dg lw dl) from rfl];have sb5:SameBut x H (upd H4 x (.ins d.w00 dx (fs4 t dg lw dl))):=fun b u hb e=>by rw[qa7 hb];exact s4 _ _ (sb3 _ _ hb e)
 have ex5:upd H4 x (.ins d.w00 dx (fs4 t dg lw dl)) x=some (.ins d.w00 dx (fs4 t dg lw dl)):=qa1;have ew5:upd H4 x (.ins d.w00 dx (fs4 t dg lw dl)) lw=some (.lst (D.W0.map V.str)):=by rw[qa7 nlx];exact s4 _ _ ew3
 have el5:upd H4 x (.ins d.w00 dx (fs4 t dg lw dl)) dl=some (.dK []):=by rw[qa7 ndx];exact el4
 have fr5:∀b,upd H4 x (.ins d.w00 dx (fs4 t dg lw dl)) b=none->H b=none:=fun b hb=>by
  by_cases c:b=x
  .subst c;rw[qa1] at hb;cases hb
  .rw[qa7 c] at hb;exact fr3 b (s4.free hb)
 generalize upd H4 x (.ins d.w00 dx (fs4 t dg lw dl))=H5 at*;clear ex3 ex4 s4 sb3 fr3 hdl ew3 el4;left;rename_i dgo hdgo;have s6:=qa4 hdgo (.dK []);have eg6:upd H5 dgo (.dK []) dgo=some (.dK []):=qa1;have fdgo:=fr5 dgo hdgo;generalize upd H5 dgo (.dK [])=H6 at*;have ex6:=s6 _ _ ex5;have ngx:dgo≠x:=fun e=>by subst e;rw[ex5] at hdgo;cases hdgo
 have ngl:dl≠dgo:=fun e=>by subst e;rw[el5] at hdgo;cases hdgo
 refine qec ex6 cl n5 (by show 4<1000;decide) ?_;rw[show qdw "goals" (.ref dgo) (fs4 t dg lw dl)=fsD t dg lw dl dgo from rfl];have sb7:SameBut x H (upd H6 x (.ins d.w00 dx (fsD t dg lw dl dgo))):=fun b u hb e=>by rw[qa7 hb];exact s6 _ _ (sb5 _ _ hb e)
 have ex7:upd H6 x (.ins d.w00 dx (fsD t dg lw dl dgo)) x=some (.ins d.w00 dx (fsD t dg lw dl dgo)):=qa1;have ew7:upd H6 x (.ins d.w00 dx (fsD t dg lw dl dgo)) lw=some (.lst (D.W0.map V.str)):=by rw[qa7 nlx];exact s6 _ _ ew5
 have el7:upd H6 x (.ins d.w00 dx (fsD t dg lw dl dgo)) dl=some (.dK []):=by rw[qa7 ndx];exact s6 _ _ el5
 have eg7:upd H6 x (.ins d.w00 dx (fsD t dg lw dl dgo)) dgo=some (.dK []):=by rw[qa7 ngx];exact eg6
 have fr7:∀b,upd H6 x (.ins d.w00 dx (fsD t dg lw dl dgo)) b=none->H b=none:=fun b hb=>by
  by_cases c:b=x
  .subst c;rw[qa1] at hb;cases hb
  .rw[qa7 c] at hb;exact fr5 b (s6.free hb)
 generalize upd H6 x (.ins d.w00 dx (fsD t dg lw dl dgo))=H7 at*;clear ex5 ex6 s6 sb5 fr5 hdgo ew5 el5 eg6;have hr7:=sb7 _ _ nxr hr0;have nlr:dl≠dr:=fun e=>by subst e;rw[fdl] at hr0;cases hr0
 have ngr:dgo≠dr:=fun e=>by subst e;rw[fdgo] at hr0;cases hr0
 have nwr:lw≠dr:=fun e=>by subst e;rw[flw] at hr0;cases hr0
 left;refine qf1 hr7 fun o=>?_;refine qe0 (fun i σ H'=>∃(kl:List (Key×V))(w1 w2:Option V),σ=[sr x,sr t,sr dr,sr dw,sr dg,w1,w2]/\Sb2 dr dl H7 H'/\H' dr=some (.frz o (.dK kr))/\H' dl=some (.dK kl)/\FD H' kl (qc4 ((qc3 kr).take i) fun h=>(D.rm h:Rat))/\kl.length<=i)
  ⟨[],none,none,rfl,fun b u n1 _ e=>by rw[qa7 n1];exact e,qa1,by rw[qa7 nlr];exact el7,FD.nil.cast fun z=>rfl,uF _⟩ ?_ ?_ ?_
 .rintro i σ H' _ ⟨kl,w1,w2,rfl,sb,fz,_⟩;exact fz
 .rintro i k v σ H' hk ⟨kl,w1,w2,rfl,sb,fz,el,hF,hlen⟩;obtain⟨z,n,rfl,rfl,hf,hzi⟩:=hrA.at hk;have hi:i<kr.length:=(uL.mp hk).1;have hRd:Rd H' dr (.dK kr):=.inr ⟨o,fz⟩;have ex':=sb _ _ nxr.symm ndx.symm ex7;have hz:z∈HS:=qcz.mp (by rw[hf];simp);have en:n=D.rm z:=by rw[qba hz] at hf;exact(uU hf).symm
  have kl60:kr.length<=60:=by have:=kpr.length_eq;rw[hrA.klen] at this;omega
  have zl:kl.length<sizeLine:=by show _<16777216;omega
  show qe6 _ (.str z) _ _ _;left;rename_i tp htp;have ntl:tp≠dl:=fun e=>by subst e;rw[el] at htp;cases htp
  have lput:=qb0 kl (uE z) (.ref tp);have t1:qav H' (upd H' tp (.tup [V.int n,V.int 1])):=qav.of (qa4 htp _);have t2:qav (upd H' tp (.tup [V.int n,V.int 1])) (upd (upd H' tp (.tup [V.int n,V.int 1])) dl (.dK (qbh kl (uE z) (.ref tp)))):=qav.upd (u:=.dK kl) (by rw[qa7 ntl.symm];exact el) fun xs e=>by cases e
  have hfr:qb8 (upd H' tp (.tup [V.int n,V.int 1])) tp ((n:Int):Rat):=qct qa1;refine⟨_,_,_,rfl,fun b u n1 n2 e=>by rw[qa7 n2];exact qaa (sb b u n1 n2 e) htp,by rw[qa7 nlr.symm];exact qaa fz htp,qa1,(((hF.t t1).put z hfr).t t2).cast fun y=>?_,#[]⟩;unfold qc4;have tk:y∈(qc3 kr).take (i+1)↔y∈(qc3 kr).take i\/y=z:=qat hzi y;by_cases c:y=z
  .rw[gL c,gL (tk.mpr (.inr c)),c,en]
  .rw[gK c];by_cases c2:y∈(qc3 kr).take i
   .rw[gL c2,gL (tk.mpr (.inl c2))]
   .rw[gK c2,gK fun h'=>(tk.mp h').elim c2 c]
 rintro σ H' ⟨kl,w1,w2,rfl,sb,fz,el,hF,hlen⟩;refine qdu (qf0 fz (qce hr0)) ?_;have kl60:kr.length<=60:=by have:=kpr.length_eq;rw[hrA.klen] at this;omega
 rw[<-hrA.klen,zH] at hF;have e8:upd H' dr (.dK kr) dr=some (.dK kr):=qa1;have sb8:∀b u,b≠dl->H7 b=some u->upd H' dr (.dK kr) b=some u:=fun b u n2 e=>by
  by_cases c:b=dr
  .subst c;rw[qa1,<-hr7];exact e
  .rw[qa7 c];exact sb b u c n2 e
 have el8:upd H' dr (.dK kr) dl=some (.dK kl):=by rw[qa7 nlr];exact el
 have hF8:FD (upd H' dr (.dK kr)) kl (qc4 HS fun h=>(D.rm h:Rat)):=(hF.t (qav.upd fz fun xs e=>by cases e)).cast fun z=>by
  unfold qc4;by_cases c:z∈HS
  .rw[gL c,gL (kpr.mem_iff.mpr c)]
  .rw[gK c,gK fun h=>c (kpr.mem_iff.mp h)]
 have fr8:∀b,upd H' dr (.dK kr) b=none->H7 b=none\/b=dl:=fun b hb=>by
  by_cases c:b=dl
  .exact .inr c
  .refine .inl ?_
   cases e:H7 b with
   |none=>rfl
   |some u=>rw[sb8 b u c e] at hb;cases hb
 generalize upd H' dr (.dK kr)=H8 at*;clear sb fz el hF e8 hr7;have hw8:=sb8 _ _ (fun e=>by subst e;rw[fdl] at hw;cases hw) (sb7 _ _ nxw hw);have hg8:=sb8 _ _ (fun e=>by subst e;rw[fdl] at hg;cases hg) (sb7 _ _ nxg hg);have ex8:=sb8 _ _ ndx.symm ex7;have ew8:=sb8 _ _ (fun e=>by subst e;rw[ew7] at el7;cases el7) ew7;have eg8:=sb8 _ _ ngl.symm eg7;clear ex7 ew7 eg7 el7;have ngw:dgo≠dw:=fun e=>by subst e;rw[fdgo] at hw;cases hw
 have ngg:dgo≠dg:=fun e=>by subst e;rw[fdgo] at hg;cases hg
 left;refine qf1 hw8 fun o=>?_;refine qe0 (fun i σ H'=>∃(kgo:List (Key×V))(w1 w2:Option V),σ=[sr x,sr t,sr dr,sr dw,sr dg,w1,w2]/\Sb2 dw dgo H8 H'/\H' dw=some (.frz o (.dK kw))/\H' dgo=some (.dK kgo)/\FD H' kgo (qc4 ((qc3 kw).take i) (goQ D))/\kgo.length<=i)
  ⟨[],_,_,rfl,fun b u n1 _ e=>by rw[qa7 n1];exact e,qa1,by rw[qa7 ngw];exact eg8,FD.nil.cast fun z=>rfl,uF _⟩ ?_ ?_ ?_
 .rintro i σ H' _ ⟨kgo,w1,w2,rfl,sb,fz,_⟩;exact fz
 .rintro i k v σ H' hk ⟨kgo,w1,w2,rfl,sb,fz,eg,hF,hlen⟩;obtain⟨z,n,rfl,rfl,hf,hzi⟩:=hwA.at hk;have hi:i<kw.length:=(uL.mp hk).1;have hRd:Rd H' dw (.dK kw):=.inr ⟨o,fz⟩;have hz:z∈D.W0:=qcz.mp (by rw[hf];simp);have en:n=D.wa z:=by rw[qba hz] at hf;exact(uU hf).symm
  have gw:qbu D.W0 D.wt z=some (D.wt z):=qba hz;have hRg:Rd H' dg (.dK kg):=.inl (sb _ _ ngd ngg.symm hg8);have ex':=sb _ _ nxw.symm ngx.symm ex8;have kw7:kw.length<=7:=by have:=kp.length_eq;rw[hwA.klen] at this;omega
  have zl:kgo.length<sizeLine:=by show _<16777216;omega
  have wa1:=ok.w1 z hz;have wa2:=ok.w2 z hz;have wn:D.wt z≠0:=by omega
  have wb:(D.wt z).natAbs<2^600:=uO (show(D.wt z).natAbs<=1000 by omega) ∅;subst en;show qe6 _ (.str z) _ _ _;left;refine⟨_,_,rfl,wb,wn,fun tp htp=>?_⟩;have s1:=qa4 htp (frO ((D.wa z:Rat) /(D.wt z:Rat)));have hfr:qb8 (upd H' tp (frO ((D.wa z:Rat) /(D.wt z:Rat)))) tp (goQ D z):=qa1;have eg1:=s1 _ _ eg;have ex1:=s1 _ _ ex';have fz1:=s1 _ _ fz;have t1:qav H' (upd H' tp (frO ((D.wa z:Rat) /(D.wt z:Rat)))):=qav.of s1;have sb1:=sb.same s1;generalize upd H' tp (frO ((D.wa z:Rat) /(D.wt z:Rat)))=H9 at*;left;have lput:=qb0 kgo (uE z) (.ref tp);have t2:qav H9 (upd H9 dgo (.dK (qbh kgo (uE z) (.ref tp)))):=qav.upd eg1 fun xs e=>by cases e
  refine⟨_,_,_,rfl,fun b u n1 n2 e=>by rw[qa7 n2];exact sb1 b u n1 n2 e,by rw[qa7 ngw.symm];exact fz1,qa1,(((hF.t t1).put z hfr).t t2).cast fun y=>?_,#[]⟩;unfold qc4;have tk:y∈(qc3 kw).take (i+1)↔y∈(qc3 kw).take i\/y=z:=qat hzi y;by_cases c:y=z
  .rw[gL c,gL (tk.mpr (.inr c)),c]
  .rw[gK c];by_cases c2:y∈(qc3 kw).take i
   .rw[gL c2,gL (tk.mpr (.inl c2))]
   .rw[gK c2,gK fun h'=>(tk.mp h').elim c2 c]
 rintro σ H' ⟨kgo,w1,w2,rfl,sb,fz,eg,hF,hlen⟩;refine qdu (qf0 fz (qce hw)) ?_;rw[<-hwA.klen,zH] at hF;have sb9:∀b u,b≠dgo->H8 b=some u->upd H' dw (.dK kw) b=some u:=fun b u n2 e=>by
  by_cases c:b=dw
  .subst c;rw[qa1,<-hw8];exact e
  .rw[qa7 c];exact sb b u c n2 e
 have nlw:dl≠dw:=fun e=>by subst e;rw[fdl] at hw;cases hw
 have t3:qav H8 (upd H' dw (.dK kw)):=fun a xs e=>sb9 a _ (fun z=>by subst z;rw[eg8] at e;cases e) e;have nlg:lw≠dgo:=fun e=>by subst e;rw[ew8] at eg8;cases eg8
 refine q lw dl dgo kl kgo _ (fun b u hb e=>?_) flw fdl fdgo ngl (sb9 _ _ ngx.symm ex8) (sb9 _ _ nlg ew8) (sb9 _ _ ngl el8) (hF8.t t3) #[] (by rw[qa7 ngw];exact eg) ((hF.t (qav.upd fz fun xs e=>by cases e)).cast fun z=>?_)
 .refine sb9 b u (fun z=>by subst z;rw[fdgo] at e;cases e) (sb8 b u (fun z=>by subst z;rw[fdl] at e;cases e) (sb7 b u hb e))
 .unfold qc4;by_cases c:z∈D.W0
  .rw[gL c,gL (kp.mem_iff.mpr c)]
  .rw[gK c,gK fun h=>c (kp.mem_iff.mp h)]
structure jdw(d:Ad)(H:Hp)(de t dg lw dl dgo:Addr)(S:Ts)(D:Dl)(HS:List Str)(kg kl kgo:List (Key×V))(W:List Str)(lf:Str->Rat):Prop where
 ob:∃dx,H de=some (.ins d.w00 dx (fsD t dg lw dl dgo))
 tz:∃H0,jab H0 H/\H0 de=none/\H0 dl=none/\TrD d H0 t S D
 g:H dg=some (.dK kg)
 gA:AD kg (qbu D.W0 D.wt)
 w:H lw=some (.lst (W.map V.str))
 l:H dl=some (.dK kl)
 lA:FD H kl (qc4 HS lf)
 lz:kl.length<=60
 go:H dgo=some (.dK kgo)
 goA:FD H kgo (qc4 D.W0 (goQ D))
 nlg:dl≠dgo
 nld:dl≠dg
 hs:∀n∈D.W0,∀h∈D.ln n,h∈HS
def jdw.tr{d:Ad}{de t dg lw dl dgo:Addr}{HS:List Str}{kg kl kgo:List (Key×V)}(h:jdw d H de t dg lw dl dgo S D HS kg kl kgo W lf):TrD d H t S D:=h.tz.elim fun _ z=>z.2.2.2.same z.1
def jdw.same{d:Ad}{H H':Hp}{de t dg lw dl dgo:Addr}{S:Ts}{D:Dl}{HS:List Str}{kg kl kgo:List (Key×V)}{W:List Str}{lf:Str->Rat}(h:jdw d H de t dg lw dl dgo S D HS kg kl kgo W lf)(s:jab H H'):jdw d H' de t dg lw dl dgo S D HS kg kl kgo W lf:=
 ⟨h.ob.elim fun dx e=>⟨dx,s _ _ e⟩,h.tz.elim fun H0 z=>⟨H0,z.1.trans s,z.2⟩,s _ _ h.g,h.gA,s _ _ h.w,s _ _ h.l,h.lA.t (qav.of s),h.lz,s _ _ h.go,h.goA.t (qav.of s),h.nlg,h.nld,h.hs⟩
open Classical in
noncomputable def flF(D:Dl)(W:List Str)(lf:Str->Rat):Str->Option Rat:=fun h=>if ∃n∈W,h∈D.ln n then some (lf h /(ldI D W h:Rat)) else none
def qbb(h:z∈W):qc4 W g z=some (g z):=gL h
theorem jod(ok:jak D){W:List Str}(sub:∀n∈W,n∈D.W0){h:Str}(hn:∃n∈W,h∈D.ln n):1<=ldI D W h:=by
 have nn:∀V:List Str,(∀n∈V,n∈D.W0)->0<=ldI D V h:=fun V=>by
  unfold ldI
  induction V with
  |nil=>intro _;exact Int.le_refl _
  |cons m V ih=>
   intro hs;rw[zV,cP];have:=ih fun n hn=>hs n (zD _ hn);have:=ok.w1 m (hs m (zG ..))
   split<;>omega
 induction W with
 |nil=>obtain⟨n,hn,_⟩:=hn;simp at hn
 |cons m W ih=>
  have h0:=nn W fun n hn=>sub n (zD _ hn);have hw:=ok.w1 m (sub m (zG ..));unfold ldI at h0 ih⊢;rw[zV,cP];by_cases c:h∈D.ln m
  .rw[gL c];omega
  .rw[gK c];have:=ih (fun n hn=>sub n (zD _ hn)) (by
    obtain⟨n,hn,hl⟩:=hn;rcases zP.mp hn with rfl|hn
    .exact absurd hl c
    .exact⟨n,hn,hl⟩)
   omega
theorem jry(ok:jak D){W:List Str}(sub:∀n∈W,n∈D.W0)(w7:W.length<=7)(h:Str):ldI D W h<=7000:=by
 have:ldI D W h<=1000*(W.length:Int):=by
  unfold ldI;clear w7
  induction W with
  |nil=>simp
  |cons m W ih=>
   rw[zV,cP,zR];have:=ih fun n hn=>sub n (zD _ hn);have:=ok.w2 m (sub m (zG ..))
   split<;>omega
 omega
inductive jb2(K:uX)(d:Ad)(vs:List V)(H:Hp)(Q:VK)(E:XK):Prop
 |mk(de t dg lw dl dgo:Addr)(S:Ts)(D:Dl)(HS:List Str)(kg kl kgo:List (Key×V))(W:List Str)(lf:Str->Rat)(_:vs=[.ref de])(_:jak D)(_:jdw d H de t dg lw dl dgo S D HS kg kl kgo W lf)(_:(∀n∈W,n∈D.W0))(_:W.length<=7)(_:(∀n∈W,∀h∈D.ln n,RB (lf h)))(_:∀l kf H',jab H H'->H l=none->H' l=some (.dK kf)->FD H' kf (flF D W lf)->kf.length<=200->Q (.ref l) H')
include T in
theorem w8s:jac P w K mg base (My.CX1 P w) 7 d.w39 d.w2y ["self"] (jb2 K d):=by
 exists okX T.wa4 w1u
 .right
 obtain⟨de,t,dg,lw,dl,dgo,S,D,HS,kg,kl,kgo,W,lf,rfl,ok,hD,sub,w7,rb,q⟩:=h;exists (qa2 (qae (i:=1) w1u.nd rfl (uD rfl) (qaz ((wd5 T).mono ∅) hr rfl T.wf5 T.waq.kp T.wf2 .nil qau #[qay (pv 0) rfl,qay (pv 0) rfl,qay (pv 0) rfl]))
  (qa2 (qae (i:=2) w1u.nd rfl (uD rfl) qb7)
  (qa2 (qdx (qb1 (qbj rfl rfl) rfl (qck (pv 1)) (qab (i:=3) w1u.nd rfl (uD rfl)) (qa6 (qb2 (qap hr) (pv 2) (pv 3) (qaz ((wat T).mono ∅) hr rfl T.wc1 T.w9y.kp T.wck .nil qau #[qay (pv 0) rfl|||pv 3,qbc #[pv 1|||pv 3,qa5]]) rfl))))
  (qa6 (qaf (pv 2)))))),[sr de,none,none,none];have cl:=T.w0f;have n1:qaq K d.w00 "tree":=T.w0e;have n2:qaq K d.w00 "weights":=T.w0a;have n3:qaq K d.w00 "waiting":=T.w04;have n4:qaq K d.w00 "left":=T.w0l;obtain⟨dx,ho⟩:=hD.ob;left;refine⟨t,dg,lw,S,D,kg,W,rfl,ok,hD.tr,hD.g,hD.gA,hD.w,sub,w7,fun ll k1 H1 s1 hll el1 hA1 hk1=>?_⟩;left;rename_i l hl;have s2:=s1.trans (qa4 hl (.dK []));have el2:=qaa (o':=.dK []) el1 hl;have e2:upd H1 l (.dK []) l=some (.dK []):=qa1;have hl0:H l=none:=s1.free hl;have nll:l≠ll:=fun e=>by subst e;rw[el1] at hl;cases hl
 generalize upd H1 l (.dK [])=H2 at*;have nlo:l≠dl:=fun e=>by subst e;rw[hD.l] at hl0;cases hl0
 have nod:dl≠ll:=fun e=>by subst e;rw[hD.l] at hll;cases hll
 have noe:de≠ll:=fun e=>by subst e;rw[ho] at hll;cases hll
 have nle:l≠de:=fun e=>by subst e;rw[ho] at hl0;cases hl0
 have ho2:=s2 _ _ ho;have hd2:=s2 _ _ hD.l;have hF2:=hD.lA.t (qav.of s2);have nf2:jhy H ll:=fun o u e=>by rw[hll] at e;cases e
 clear hl el1;refine qf1 el2 fun o=>?_;refine qe0 (fun i σ H'=>∃(kf:List (Key×V))(w:Option V),σ=[sr de,sr ll,sr l,w]/\Sb2 ll l H2 H'/\H' ll=some (.frz o (.dK k1))/\H' l=some (.dK kf)/\FD H' kf (fun h=>if h∈(qc3 k1).take i then flF D W lf h else none)/\kf.length<=i)
  ⟨[],none,rfl,fun b u n1 _ e=>by rw[qa7 n1];exact e,qa1,by rw[qa7 nll];exact e2,FD.nil.cast fun z=>by simp,uF _⟩ ?_ ?_ ?_
 .rintro i σ H' _ ⟨kf,w,rfl,sb,fz,_⟩;exact fz
 .rintro i k v σ H' hk ⟨kf,w,rfl,sb,fz,ef,hF,hlen⟩;obtain⟨z,n,rfl,rfl,hf,hzi⟩:=hA1.at hk;have hi:i<k1.length:=(uL.mp hk).1;have hRd:Rd H' ll (.dK k1):=.inr ⟨o,fz⟩;have ho':=sb _ _ noe nle.symm ho2;have hd':=sb _ _ nod nlo.symm hd2;have hRl:Rd H' dl (.dK kl):=.inl hd';have tS:qav H2 H':=fun a xs e=>sb a _ (fun z=>by subst z;rw[el2] at e;cases e) (fun z=>by subst z;rw[e2] at e;cases e) e;have hFl:=hF2.t tS;have hex:∃m∈W,z∈D.ln m:=by
   refine uR fun c=>?_;unfold ldF at hf;rw[gK c] at hf
   cases hf
  have en:n=ldI D W z:=by
   unfold ldF at hf;rw[gL hex] at hf;exact(uU hf).symm
  obtain⟨m,hm,hml⟩:=id hex;have hzH:z∈HS:=hD.hs m (sub m hm) z hml;have b1:=jod ok sub hex;have b2:=jry ok sub w7 z;have zl:kf.length<sizeLine:=by show _<16777216;omega
  show qe6 _ (.str z) _ _ _;left;refine qcg hRl hFl (qbb hzH) fun bq hbq=>?_;left;rename_i tp htp;have s3:=qa4 htp (.tup [V.int n,V.int 1]);have hfr:qb8 (upd H' tp (.tup [V.int n,V.int 1])) tp ((n:Int):Rat):=qct qa1;generalize upd H' tp (.tup [V.int n,V.int 1])=H3 at*;have nq:((n:Int):Rat)≠0:=fun e=>by
   have:n=0:=by exact_mod_cast e
   omega
  refine⟨bq,tp,_,_,rfl,s3 _ _ hbq,hfr,rb m hm z hml,qfj (uO (show n.natAbs<=7000 by omega) ∅),nq,fun r hr=>?_⟩;have s4:=s3.trans (qa4 hr (frO (lf z /(n:Rat))));have hfq:qb8 (upd H3 r (frO (lf z /(n:Rat)))) r (lf z /(n:Rat)):=qa1;generalize upd H3 r (frO (lf z /(n:Rat)))=H4 at*;have ef4:=s4 _ _ ef;have fz4:=s4 _ _ fz;left;have lput:=qb0 kf (uE z) (.ref r);have t2:qav H4 (upd H4 l (.dK (qbh kf (uE z) (.ref r)))):=qav.upd ef4 fun xs e=>by cases e
  refine⟨_,_,rfl,fun b u n1 n2 e=>by rw[qa7 n2];exact s4 _ _ (sb b u n1 n2 e),by rw[qa7 nll.symm];exact fz4,qa1,(((hF.t (qav.of s4)).put z hfq).t t2).cast fun y=>?_,#[]⟩;have tk:y∈(qc3 k1).take (i+1)↔y∈(qc3 k1).take i\/y=z:=qat hzi y;by_cases c:y=z
  .rw[gL c,gL (tk.mpr (.inr c)),c,en];unfold flF;rw[gL hex]
  .rw[gK c];by_cases c2:y∈(qc3 k1).take i
   .rw[gL c2,gL (tk.mpr (.inl c2))]
   .rw[gK c2,gK fun h'=>(tk.mp h').elim c2 c]
 rintro σ H' ⟨kf,w,rfl,sb,fz,ef,hF,hlen⟩;refine qdu (qf0 fz nf2) ?_;rw[<-hA1.klen,zH] at hF;have sb9:∀b u,b≠l->H2 b=some u->upd H' ll (.dK k1) b=some u:=fun b u n2 e=>by
  by_cases c:b=ll
  .subst c;rw[qa1,<-el2];exact e
  .rw[qa7 c];exact sb b u c n2 e
 left;refine q l kf _ (fun b u e=>sb9 b u (fun z=>by subst z;rw[hl0] at e;cases e) (s2 b u e)) hl0 (by rw[qa7 nll];exact ef) ((hF.t (qav.upd fz fun xs e=>by cases e)).cast fun z=>?_) #[];by_cases c:z∈qc3 k1
 .rw[gL c]
 .rw[gK c];unfold flF;rw[gK fun hex=>c ((hA1.kin z).mpr (by unfold ldF;rw[gL hex];simp))]
theorem jdn{f:Str->Rat}:∀{l:List Str} {m:Str},l.Nodup->m∈l->qbz l (fun n=>if n=m then f n else 0)=f m
 | [],_,_,h=>by simp at h
 |k::l,m,nd,h=>by
  rw[zZ] at nd;show(if k=m then f k else 0)+qbz l _=f m;by_cases c:k=m
  .subst c;rw[gL rfl,qe9 fun n hn=>gK fun e=>nd.1 (by rw[<-e];exact hn)];grind
  .rw[gK c,jdn nd.2 ((zP.mp h).resolve_left fun e=>c e.symm)];grind
theorem qgp{D:Dl}(ok:jak D)(h:Str):∀{W:List Str},W.Nodup->(∀n∈W,n∈D.W0)->ldQ D W h=(ldI D W h:Rat)
 | [],_,_=>by rw[qek fun m hm=>by simp at hm];rfl
 |m::W,nd,sub=>by
  rw[zZ] at nd;have ih:=qgp ok h nd.2 fun n hn=>sub n (zD _ hn);have e1:ldI D (m::W) h=(if h∈D.ln m then D.wt m else 0)+ldI D W h:=by unfold ldI;rw[zV,cP]
  rw[e1,xO,<-ih];have e2:=jdn (f:=fun n=>if h∈D.ln n then(D.wt n:Rat) else 0) ok.nd (sub m (zG ..));have e3:(((if h∈D.ln m then D.wt m else 0:Int)):Rat)=if h∈D.ln m then(D.wt m:Rat) else 0:=by split<;>rfl
  rw[e3,<-e2];unfold ldQ;rw[<-qf8];refine qc9 fun n _=>?_
  try dsimp only
  by_cases c:n=m
  .subst c;by_cases c2:h∈D.ln n
   .rw[gL ⟨zG ..,c2⟩,gL rfl,gL c2,gK fun z=>nd.1 z.1];grind
   .rw[gK fun z=>c2 z.2,gL rfl,gK c2,gK fun z=>c2 z.2];grind
  .rw[gK c];by_cases c2:n∈W/\h∈D.ln n
   .rw[gL ⟨zD _ c2.1,c2.2⟩,gL c2];grind
   .rw[gK fun z=>c2 ⟨(zP.mp z.1).resolve_left c,z.2⟩,gK c2];grind
theorem jjc(ok:jak D){W:List Str}(nd:W.Nodup)(sub:∀n∈W,n∈D.W0)(lf:Str->Rat){h n:Str}(hn:n∈W)(hl:h∈D.ln n):flF D W lf h=some (lf h/ldQ D W h):=by
 unfold flF;rw[gL ⟨n,hn,hl⟩,qgp ok h nd sub]
theorem jma{K:uX}(ha:qb8 H a q)(hb:qb8 H b r):PEq K H 1 (.ref a) (.ref b) (decide (q=r)):=by
 by_cases c:a=b
 .subst c;rw[gM (ha.uniq hb)];exact .same
 .have key:((vK (min [V.int q.num,V.int (q.den:Int)].length [V.int r.num,V.int (r.den:Int)].length)).all (fun j=>if j=0 then eqV (V.int q.num) (V.int r.num) else eqV (V.int (q.den:Int)) (V.int (r.den:Int))) && [V.int q.num,V.int (q.den:Int)].length==[V.int r.num,V.int (r.den:Int)].length)=decide (q=r):=by
   show((eqV (V.int q.num) (V.int r.num) && (eqV (V.int (q.den:Int)) (V.int (r.den:Int)) && true)) && true)=_;show((decide (q.num=r.num) && (decide ((q.den:Int)=(r.den:Int)) && true)) && true)=_;by_cases e1:q.num=r.num
   .by_cases e2:q.den=r.den
    .rw[gM e1,gM (by rw[e2]),gM (Rat.ext e1 e2)];rfl
    .rw[gM e1,gO #[],gO (p:=q=r) (fun z=>e2 (by rw[z]))];rfl
   .rw[gO e1,gO (p:=q=r) (fun z=>e1 (by rw[z]))];rfl
  rw[<-key];refine .ts (SqT.of ha) (SqT.of hb) c fun j h1 h2=>?_;have:j<2:=h1;obtain rfl|rfl:j=0\/j=1:=by omega
  .exact .flat rfl rfl
  .exact .flat rfl rfl
inductive jb3(K:uX)(d:Ad)(vs:List V)(H:Hp)(Q:VK)(E:XK):Prop
 |mk(de t dg lw dl dgo lv ff:Addr)(S:Ts)(D:Dl)(HS:List Str)(kg kl kgo kf:List (Key×V))(W:List Str)(lf:Str->Rat)(L:Rat)(_:vs=[.ref de,.ref lv,.ref ff])(_:jak D)(_:jdw d H de t dg lw dl dgo S D HS kg kl kgo W lf)(_:(∀n∈W,n∈D.W0))(_:W.Nodup)(_:qb8 H lv L)(_:H ff=some (.dK kf))(_:FD H kf (flF D W lf))(_:∀l H',jab H H'->H l=none->H' l=some (.lst ((rdy D W lf L).map V.str))->Q (.ref l) H')
open Classical in
include T in
theorem w8u:jac P w K mg base (My.CX1 P w) 6 d.w3f d.w2t ["self","level","fills"] (jb3 K d):=by
 exists okX T.w9x w1w
 .right
 obtain⟨de,t,dg,lw,dl,dgo,lv,ff,S,D,HS,kg,kl,kgo,kf,W,lf,L,rfl,ok,hD,sub,nd,hL,hff,hF,q⟩:=h;exists (qa2 (qae (i:=3) w1w.nd rfl (uD rfl) (qc2 qa3))
  (qa2 (qb1 (qbj rfl rfl) rfl (qaw (qay (pv 0) rfl)) (qab (i:=4) w1w.nd rfl (uD rfl)) (qa2 (qae (i:=5) w1w.nd rfl (uD rfl) (qag jli (qcm (caps:=[2]) (cn:=["fills"]) (qc8 rfl rfl (by rfl) (by rfl) rfl ⟨rfl,trivial⟩ (by rfl) rfl ⟨⟨rfl,rfl,rfl,rfl,_,rfl⟩,trivial⟩ ∅) rfl (qaw (qb6 (qay (pv 0) rfl) T.w03 T.w0i ((w24 T).mono ∅) hr T.w2i .nil qau #[pv 4])) (fun _ _ _ _=>qdd) (fun _ _ _ _=>(pv 1|||pv 0))) (qc2 #[qay (pv 0) rfl|||pv 4])))
  (qa6 (qca (qb5 (qan (jrk (hu8 hr)) (pv 1) (pv 5) (by rfl)) (qa6 (qbq (qf2 vT wL wM qcf (pv 3) #[pv 4]))) qal)))))
  (qa6 (qaf (pv 3))))),[sr de,sr lv,sr ff,none,none,none];have cl:=T.w0f;have ct:=T.w03;have n1:qaq K d.w00 "tree":=T.w0e;have n3:qaq K d.w00 "waiting":=T.w04;have n5:qaq K d.w00 "goals":=T.w0g;obtain⟨dx,ho⟩:=hD.ob;have w7:W.length<=7:=uY (vM nd sub) ok.l8;left;rename_i l hl;have s1:=qa4 hl (.lst []);have el:upd H l (.lst []) l=some (.lst []):=qa1;have ho1:=s1 _ _ ho;have hw1:=s1 _ _ hD.w;generalize upd H l (.lst [])=H1 at*;left;refine qbp (xs:=W.map V.str) (fun i σ H'=>∃(w1 w2:Option V),σ=[sr de,sr lv,sr ff,sr l,w1,w2]/\jab H H'/\H' l=some (.lst (((W.take i).filter fun n=>decide (n∈rdy D W lf L)).map V.str))) ⟨none,none,rfl,s1,el⟩ ?_ ?_ ?_
 .rintro i σ H' _ ⟨w1,w2,rfl,sm,_⟩;exact SqL.of (sm _ _ hD.w)
 .rintro i v σ H' hv ⟨w1,w2,rfl,sm,el2⟩;rw[zC] at hv;obtain⟨n,hn,rfl⟩:=uH.mp hv;have hnW:=zE hn;have hn0:=sub n hnW;obtain⟨e,ae,ew,hln⟩:=hD.tr.ln n hn0;obtain⟨tx,ht⟩:=id (hD.tr.tr.same sm).1;have lz:=ok.lz n hn0;have etk:W.take (i+1)=W.take i++[n]:=by rw[zM,hn];rfl
  have ho2:=sm _ _ ho;clear hv;left;refine⟨t,S,.str n,rfl,hD.tr.tr.same sm,.inl ⟨n,_,rfl,hln,#[],fun ll hll=>?_⟩⟩;have s2:=sm.trans (qa4 hll (.lst ((D.ln n).map V.str)));have ell:upd H' ll (.lst ((D.ln n).map V.str)) ll=some (.lst ((D.ln n).map V.str)):=qa1;have el3:=qaa (o':=.lst ((D.ln n).map V.str)) el2 hll;generalize upd H' ll (.lst ((D.ln n).map V.str))=H2 at*;clear hll el2 ho2 ht;left;intro C s0 H0 fp acc hacc;refine jef (D.ln n).length (fun j H'=>∃ps:List (Addr×Rat),jab H2 H'/\H' acc=some (.lst (ps.map fun p=>V.ref p.1))/\(∀p∈ps,qb8 H' p.1 p.2)/\ps.map (·.2)=((D.ln n).take j).map fun h=>lf h/ldQ D W h) ⟨[],qa4 hacc _,qa1,fun p hp=>by simp at hp,rfl⟩ ?_ ?_ ?_ ?_
  .rintro j H' hj ⟨ps,sx,_⟩;exact⟨_,.str (D.ln n)[j],SqL.of (sx _ _ ell),by rw[zC,zA hj];rfl⟩
  .rintro H' ⟨ps,sx,_⟩;exact⟨_,SqL.of (sx _ _ ell),by rw[zB];exact uF _⟩
  .rintro j H' v H'' hj ⟨ps,sx,ea,hps,hms⟩ ⟨rfl,hv⟩;have hv:=hv _ (SqL.of (sx _ _ ell));rw[zC,zA hj] at hv
   cases hv
   have hm:=zY hj;have etj:(D.ln n).take (j+1)=(D.ln n).take j++[(D.ln n)[j]]:=by rw[zM,zA hj];rfl
   have hlen:ps.length=j:=by have:=congrArg wG hms;rw[zB,zB,zS] at this;omega
   generalize (D.ln n)[j]=h at*;have hRf:Rd H'' ff (.dK kf):=.inl (sx _ _ (s2 _ _ hff));have hFf:=hF.t (qav.of (s2.trans sx));have zl:(ps.map fun p=>V.ref p.1).length<sizeLine:=by rw[zB];show _<16777216;omega
   clear hv;left;refine qcg hRf hFf (jjc ok nd sub lf hnW hm) fun b hb=>?_;left;have t5:qav H'' (upd H'' acc (.lst ((ps.map fun p=>V.ref p.1)++[V.ref b]))):=qav.upd ea fun xs e=>by cases e
   refine⟨ps++[(b,lf h/ldQ D W h)],qb9 sx hacc,by rw[qa1,zI];rfl,fun p hp=>?_,by rw[zI,hms,etj,zI];rfl⟩;rcases zN.mp hp with h1|h1
   .exact t5 _ _ (hps p h1)
   .rw[zF.mp h1];exact t5 _ _ hb
  rintro H3 ⟨ps,s3,ea,hps,hms⟩;rw[zH] at hms;have s4:=s2.trans s3;have ho3:=s4 _ _ ho;have hRg:Rd H3 dgo (.dK kgo):=.inl (s4 _ _ hD.go);have hFg:=hD.goA.t (qav.of s4);left;refine qcg hRg hFg (qbb hn0) fun b hb=>?_;left;rename_i p1 hp1;have nal:acc≠p1:=fun e=>by subst e;rw[ea] at hp1;cases hp1
  have plen:ps.length=(D.ln n).length:=by have:=congrArg wG hms;rw[zB,zB] at this;exact this
  refine jqu (xs:=ps.map fun p=>V.ref p.1) (by rw[qa7 nal];exact ea) qa1 (by rw[zB];show _+1<=16777216;omega) fun p2 hp2=>?_;have s5:jab H3 (upd (upd H3 p1 (.lst [V.ref b])) p2 (.lst ((ps.map fun p=>V.ref p.1)++[V.ref b]))):=(qa4 hp1 _).trans (qa4 hp2 _);have e5:upd (upd H3 p1 (.lst [V.ref b])) p2 (.lst ((ps.map fun p=>V.ref p.1)++[V.ref b])) p2=some (.lst ((ps.map fun p=>V.ref p.1)++[V.ref b])):=qa1;generalize upd (upd H3 p1 (.lst [V.ref b])) p2 (.lst ((ps.map fun p=>V.ref p.1)++[V.ref b]))=H5 at*;have s6:=s4.trans s5;have el5:=s5 _ _ (s3 _ _ el3);have hL5:qb8 H5 lv L:=s6 _ _ hL;have hb5:qb8 H5 b (goQ D n):=s5 _ _ hb;have hps5:∀p∈ps,qb8 H5 p.1 p.2:=fun p hp=>s5 _ _ (hps p hp);clear hp1 hp2 s5 hRg hFg ho3 hb hps ea s3 s4;left;refine qd4 ?_;left;refine⟨p2,_,fun v=>decide (∃a,v=.ref a/\qb8 H5 a L),rfl,SqL.of e5,fun v hv=>⟨1,∅,?_⟩,?_⟩
  .have:∃a q,v=.ref a/\qb8 H5 a q:=by
    rcases zN.mp hv with h1|h1
    .obtain⟨p,hp,rfl⟩:=zJ.mp h1;exact⟨_,_,rfl,hps5 p hp⟩
    .exact⟨b,_,zF.mp h1,hb5⟩
   obtain⟨a,r,rfl,ha⟩:=this;have e6:decide (∃a',V.ref a=.ref a'/\qb8 H5 a' L)=decide (r=L):=by
    refine decide_eq_decide.mpr ⟨?_,fun e=>⟨a,rfl,e▸ha⟩⟩;rintro⟨a',e,h'⟩
    cases e
    exact ha.uniq h'
   show PEq K H5 1 (V.ref a) (V.ref lv) (decide (∃a',V.ref a=.ref a'/\qb8 H5 a' L));rw[e6];exact jma ha hL5
  have e7:(((ps.map fun p=>V.ref p.1)++[V.ref b]).any fun v=>decide (∃a,v=.ref a/\qb8 H5 a L))=decide (n∈rdy D W lf L):=by
   rw[xE,yF,decide_eq_true_iff,qd2];constructor
   .rintro⟨v,hv,he⟩;obtain⟨a,rfl,ha⟩:=of_decide_eq_true he;refine⟨hnW,?_⟩;rcases zN.mp hv with h1|h1
    .obtain⟨p,hp,e⟩:=zJ.mp h1
     cases e
     have h2:=(hps5 p hp).uniq ha;have h3:p.2∈ps.map (·.2):=zJ.mpr ⟨p,hp,rfl⟩;rw[hms] at h3;obtain⟨h,hh,e⟩:=zJ.mp h3;exact .inl ⟨h,hh,by rw[e,h2]⟩
    .have e:=zF.mp h1
     cases e
     exact .inr (hb5.uniq ha)
   .rintro⟨_,⟨h,hh,e⟩|e⟩
    .have h3:L∈ps.map (·.2):=by rw[hms];exact zJ.mpr ⟨h,hh,e⟩
     obtain⟨p,hp,e2⟩:=zJ.mp h3;exact⟨.ref p.1,zO _ (zJ.mpr ⟨p,hp,rfl⟩),gM ⟨p.1,rfl,e2▸hps5 p hp⟩⟩
    .exact⟨.ref b,zK _ (zF.mpr rfl),gM ⟨b,rfl,e▸hb5⟩⟩
  rw[e7];have zl:(((W.take i).filter fun n=>decide (n∈rdy D W lf L)).map V.str).length<sizeLine:=by
   rw[zB];have h1:=yC (fun n=>decide (n∈rdy D W lf L)) (W.take i);rw[zS] at h1;show _<16777216;omega
  by_cases c:n∈rdy D W lf L
  .rw[gM c];left;refine⟨_,_,rfl,qb9 s6 hl,?_⟩;rw[qa1,etk,yE,zI,cR (p:=fun n=>decide (n∈rdy D W lf L)) (gM c)];rfl
  .rw[gO c];left;refine⟨_,_,rfl,s6,?_⟩;rw[el5,etk,yE,zI,aO (by rw[gO c];simp)];simp
 rintro σ H' ⟨w1,w2,rfl,sm,el2⟩;left;refine q l H' sm hl ?_;rw[el2,zB,zH]
 congr 3
 refine(List.filter_congr fun n hn=>?_);exact decide_eq_decide.mpr ((qd2).trans ⟨fun z=>z.2,fun z=>⟨hn,z⟩⟩)
theorem qel(L:List Str):((L.map V.str).all fun v=>qdb v)=true:=by
 rw[yO];exact zQ.mpr fun _ _=>rfl
theorem jmb(x:Str):∀L:List Str,inV (.str x) (L.map V.str)=decide (x∈L)
 | []=>rfl
 |y::L=>by
  have ih:=jmb x L;unfold inV at ih⊢;rw[zV,yM,ih];by_cases c:y=x
  .subst c;rw[show eqV (V.str y) (V.str y)=true from beq_self_eq_true _,gM (zG ..)];rfl
  .rw[show eqV (V.str y) (V.str x)=false from beq_false_of_ne c,eP];by_cases m:x∈L
   .rw[gM m,gM (zD _ m)]
   .rw[gO m,gO fun z=>(zP.mp z).elim (fun e=>c e.symm) m]
def jjd{K:uX}{p:Addr}{x:Str}(h:SqL K H p (L.map V.str))(q:Q (.bl (!decide (x∈L))) H):rIn K true (.str x) (.ref p) H Q:=⟨p,_,rfl,.inl h,rfl,qel L,by rw[jmb];exact q⟩
theorem joe(ok:jak D){V:List Str}{n:Str}(nd:(V++[n]).Nodup)(sub:∀m∈V++[n],m∈D.W0)(h:Str):ldQ D (V++[n]) h=ldQ D V h+if h∈D.ln n then(D.wt n:Rat) else 0:=by
 rw[qgp ok h nd sub,qgp ok h (aW.mp nd).1 fun m hm=>sub m (zO _ hm),jjb,xO]
 split<;>rfl
theorem jk5{kvs:List (Key×V)}{k:Key}{v w:V}(h:qcp kvs k=some w):(qbh kvs k v).length=kvs.length:=by
 have:=congrArg wG (qed (kvs:=kvs) (k:=k) (v:=v) (by rw[h];simp));rw[zB,zB] at this;exact this
def jof(W R:List Str):(wls W R).length<=W.length:=yC _ _
inductive jbx(K:uX)(d:Ad)(vs:List V)(H:Hp)(Q:VK)(E:XK):Prop
 |mk(de t dg lw dl dgo lv ln:Addr)(S:Ts)(D:Dl)(HS:List Str)(kg kl kgo:List (Key×V))(W R:List Str)(lf:Str->Rat)(L:Rat)(_:vs=[.ref de,.ref lv,.ref ln])(_:jak D)(_:jdw d H de t dg lw dl dgo S D HS kg kl kgo W lf)(_:(∀n∈W,n∈D.W0))(_:W.Nodup)(_:qb8 H lv L)(_:RB L)(_:H ln=some (.lst (R.map V.str)))(_:(∀n∈R,n∈W))(_:R.Nodup)(_:(∀n∈R,RB (L*(D.wt n:Rat))))(_:(∀i,∀n∈D.W0,∀h∈D.ln n,RB (lf h-L*ldQ D (R.take i) h)))(_:∀lw' kl' H',Sb2 de dl H H'->H lw'=none->jdw d H' de t dg lw' dl dgo S D HS kg kl' kgo (wls W R) (lfN D lf L R)->Q .non H')
include T in
theorem w7d:jac P w K mg base (My.CX1 P w) 6 d.w2v d.w2j ["self","level","names"] (jbx K d):=by
 exists okX T.w8m w1n
 .right
 obtain⟨de,t,dg,lw,dl,dgo,lv,ln,S,D,HS,kg,kl,kgo,W,R,lf,L,rfl,ok,hD,sub,nd,hL,rL,hln,hRW,ndR,rLw,rLf,q⟩:=h;refine⟨_,(qa2 (qb1 (qbj rfl rfl) rfl (qaw (pv 2)) (qab (i:=3) w1n.nd rfl (uD rfl)) (qa2 (qae (i:=4) w1n.nd rfl (uD rfl) (qaz ((wea T).mono ∅) hr rfl T.wfd T.wcy.kp T.wfw .nil qau #[pv 1,qbc #[qay (pv 0) rfl|||pv 3,qa5]]))
  (qa6 (qb1 (qbj rfl rfl) rfl (qaw (qb6 (qay (pv 0) rfl) T.w03 T.w0i ((w24 T).mono ∅) hr T.w2i .nil qau #[pv 3])) (qab (i:=5) w1n.nd rfl (uD rfl)) (qa6 (qb2 (qap hr) (qay (pv 0) rfl) (pv 5) (qaz ((wgr T).mono ∅) hr rfl T.wi9 T.wfu.kp T.wim .nil qau #[qay (pv 0) rfl|||pv 5,pv 4]) rfl))))))
  (qa6 (qcj (pv 0) (qcm (caps:=[2]) (cn:=["names"]) (qc8 rfl rfl (by rfl) (by rfl) rfl ⟨rfl,trivial⟩ (by rfl) rfl ⟨⟨rfl,rfl,rfl,rfl,_,rfl⟩,trivial⟩ ∅) rfl (qaw (qay (pv 0) rfl)) (fun _ _ _ _=>(jho (qan qcx (pv 0) (pv 1) (by rfl)))) (fun _ _ _ _=>(pv 0))) rfl))),?_⟩
 walk_at"d"
 try dsimp only[cxC]
 refine qad (σ:=[sr de,sr lv,sr ln,none,none,none]) rfl ?_;have cl:=T.w0f;have ct:=T.w03;have n1:qaq K d.w00 "tree":=T.w0e;have n2:qaq K d.w00 "weights":=T.w0a;have n3:qaq K d.w00 "waiting":=T.w04;have n4:qaq K d.w00 "left":=T.w0l;obtain⟨dx,ho⟩:=hD.ob;obtain⟨H0,s0,f0e,f0l,hT0⟩:=hD.tz;have w7:W.length<=7:=uY (vM nd sub) ok.l8;have nel:de≠dl:=fun e=>by subst e;rw[hD.l] at ho;cases ho
 have nll:ln≠dl:=fun e=>by subst e;rw[hD.l] at hln;cases hln
 have nvl:lv≠dl:=fun e=>by subst e;unfold qb8 at hL;rw[hD.l] at hL;cases hL
 have nwl:lw≠dl:=fun e=>by subst e;have:=hD.w;rw[hD.l] at this;cases this
 left;refine qbp (xs:=R.map V.str) (fun i σ H'=>∃(kl':List (Key×V))(w1 w2 w3:Option V),σ=[sr de,sr lv,sr ln,w1,w2,w3]/\SameBut dl H H'/\H' dl=some (.dK kl')/\FD H' kl' (qc4 HS fun h=>lf h-L*ldQ D (R.take i) h)/\kl'.length=kl.length) ⟨kl,none,none,none,rfl,fun b u _ e=>e,hD.l,hD.lA.cast fun z=>?_,rfl⟩ ?_ ?_ ?_
 .congr 1
  funext h
  rw[List.take_zero,qek fun m hm=>by simp at hm];grind
 .rintro i σ H' _ ⟨kl',w1,w2,w3,rfl,sm,_⟩;exact SqL.of (sm _ _ nll hln)
 .rintro i v σ H' hv ⟨kl',w1,w2,w3,rfl,sm,el,hF,hkl⟩;rw[zC] at hv;obtain⟨n,hn,rfl⟩:=uH.mp hv;have hnR:=zE hn;have hn0:=sub n (hRW n hnR);obtain⟨e,ae,ew,hlN⟩:=hD.tr.ln n hn0;have sT:jab H0 H':=fun b u e=>sm b u (fun z=>by subst z;rw[f0l] at e;cases e) (s0 b u e);obtain⟨tx,ht⟩:=id (hT0.tr.same sT).1;have lz:=ok.lz n hn0;have lnd:=ok.ld n hn0;have etk:R.take (i+1)=R.take i++[n]:=by rw[zM,hn];rfl
  have ho2:=sm _ _ nel ho;have hRg:Rd H' dg (.dK kg):=.inl (sm _ _ hD.nld.symm hD.g);have gw:qbu D.W0 D.wt n=some (D.wt n):=qba hn0;have hgA:=hD.gA;clear hv;left;rename_i tp htp;have s3:=qa4 htp (.tup [V.int (D.wt n),V.int 1]);have hfr:qb8 (upd H' tp (.tup [V.int (D.wt n),V.int 1])) tp ((D.wt n:Int):Rat):=qct qa1;generalize upd H' tp (.tup [V.int (D.wt n),V.int 1])=H3 at*;have wa1:=ok.w1 n hn0;have wa2:=ok.w2 n hn0;refine⟨lv,tp,_,_,rfl,s3 _ _ (sm _ _ nvl hL),hfr,rL,qfj (uO (show(D.wt n).natAbs<=1000 by omega) ∅),fun r hr=>?_⟩;have s4:=s3.trans (qa4 hr (frO (L*(D.wt n:Rat))));have hsh:qb8 (upd H3 r (frO (L*(D.wt n:Rat)))) r (L*(D.wt n:Rat)):=qa1;generalize upd H3 r (frO (L*(D.wt n:Rat)))=H4 at*;have ho4:=s4 _ _ ho2;have ht4:=s4 _ _ ht;have el4:=s4 _ _ el;clear ho2 ht hRg hr htp s3 hfr;left;refine⟨t,S,.str n,rfl,hT0.tr.same (sT.trans s4),.inl ⟨n,_,rfl,hlN,#[],fun ll hll=>?_⟩⟩;have s5:=s4.trans (qa4 hll (.lst ((D.ln n).map V.str)));have ell:upd H4 ll (.lst ((D.ln n).map V.str)) ll=some (.lst ((D.ln n).map V.str)):=qa1;have el5:=qaa (o':=.lst ((D.ln n).map V.str)) el4 hll;have hsh5:qb8 (upd H4 ll (.lst ((D.ln n).map V.str))) r (L*(D.wt n:Rat)):=qaa hsh hll;have nl5:ll≠dl:=fun z=>by subst z;rw[el4] at hll;cases hll
  generalize upd H4 ll (.lst ((D.ln n).map V.str))=H5 at*;have ho5:=s5 _ _ (sm _ _ nel ho);have nrl:r≠dl:=fun z=>by subst z;unfold qb8 at hsh5;rw[el5] at hsh5;cases hsh5
  clear hll el4 ht4 ho4 hsh s4;left;refine qbp (xs:=(D.ln n).map V.str) (fun j σ H'=>∃(k2:List (Key×V))(w3:Option V),σ=[sr de,sr lv,sr ln,some (.str n),sr r,w3]/\SameBut dl H5 H'/\H' dl=some (.dK k2)/\FD H' k2 (qc4 HS fun h=>if h∈(D.ln n).take j then lf h-L*ldQ D (R.take i) h-L*(D.wt n:Rat) else lf h-L*ldQ D (R.take i) h)/\k2.length=kl.length) ⟨kl',_,rfl,fun b u _ e=>e,el5,(hF.t (qav.of s5)).cast fun z=>by simp,hkl⟩ ?_ ?_ ?_
  .rintro j σ H' _ ⟨k2,w3,rfl,s6,_⟩;exact SqL.of (s6 _ _ nl5 ell)
  .rintro j v σ H6 hv ⟨k2,w3,rfl,s6,el6,hF6,hk6⟩;rw[zC] at hv;obtain⟨h,hh,rfl⟩:=uH.mp hv;have hhl:=zE hh;have hnt:h∉(D.ln n).take j:=qgo lnd hh;have hRl:Rd H6 dl (.dK k2):=.inl el6;have ho6:=s6 _ _ nel ho5;have hhH:h∈HS:=hD.hs n hn0 h hhl;clear hv;left;refine qcg hRl hF6 (qbb hhH) fun bq hbq=>?_;rw[gK hnt] at hbq;obtain⟨w0,hw0,_⟩:=hF6.get h _ (qbb hhH);left;refine⟨bq,r,_,_,rfl,hbq,s6 _ _ nrl hsh5,rLf i n hn0 h hhl,rLw n hnR,fun r2 hr2=>?_⟩;have s7:=qa4 hr2 (frO (lf h-L*ldQ D (R.take i) h-L*(D.wt n:Rat)));have hfq:qb8 (upd H6 r2 (frO (lf h-L*ldQ D (R.take i) h-L*(D.wt n:Rat)))) r2 (lf h-L*ldQ D (R.take i) h-L*(D.wt n:Rat)):=qa1;generalize upd H6 r2 (frO (lf h-L*ldQ D (R.take i) h-L*(D.wt n:Rat)))=H7 at*;have el7:=s7 _ _ el6;have ho7:=s7 _ _ ho6;have hlz:=hD.lz;have zl:k2.length<sizeLine:=by show _<16777216;omega
   clear hr2 el6 ho6;left;have t2:qav H7 (upd H7 dl (.dK (qbh k2 (uE h) (.ref r2)))):=qav.upd el7 fun xs e=>by cases e
   refine⟨_,_,rfl,fun b u n2 e=>by rw[qa7 n2];exact s7 _ _ (s6 b u n2 e),qa1,(((hF6.t (qav.of s7)).put h hfq).t t2).cast fun y=>?_,by rw[jk5 hw0];exact hk6⟩;have tk:y∈(D.ln n).take (j+1)↔y∈(D.ln n).take j\/y=h:=qat hh y;unfold qc4;dsimp only;by_cases c:y=h
   .rw[gL c,gL (by rw[c];exact hhH),gL (tk.mpr (.inr c)),c]
   .rw[gK c];by_cases c2:y∈(D.ln n).take j
    .rw[gL c2,gL (tk.mpr (.inl c2))]
    .rw[gK c2,gK fun h'=>(tk.mp h').elim c2 c]
  .rintro σ H6 ⟨k2,w3',rfl,s6,el6,hF6,hk6⟩;rw[zB,zH] at hF6;refine⟨k2,_,_,_,rfl,fun b u n2 e=>s6 _ _ n2 (s5 _ _ (sm b u n2 e)),el6,hF6.cast fun z=>?_,hk6⟩
   congr 1
   funext h
   have e8:=joe ok (V:=R.take i) (n:=n) (by rw[<-etk];exact ndR.sublist (fL _ _)) (fun m hm=>sub m (hRW m (zX (by rw[<-etk] at hm;exact hm)))) h;rw[etk,e8];by_cases c:h∈D.ln n
   .rw[gL c,gL c];grind
   .rw[gK c,gK c];grind
 rintro σ H' ⟨kl',w1,w2,w3,rfl,sm,el,hF,hkl⟩;have ho2:=sm _ _ nel ho;have hw2:=sm _ _ nwl hD.w;have hln2:=sm _ _ nll hln;left;intro C s9 H9 fp acc hacc;refine jef W.length (fun j Hx=>jab H' Hx/\Hx acc=some (.lst ((wls (W.take j) R).map V.str))) ⟨qa4 hacc _,qa1⟩ ?_ ?_ ?_ ?_
 .rintro j Hx hj ⟨sx,_⟩;exact⟨_,.str W[j],SqL.of (sx _ _ hw2),by rw[zC,zA hj];rfl⟩
 .rintro Hx ⟨sx,_⟩;exact⟨_,SqL.of (sx _ _ hw2),by rw[zB];exact uF _⟩
 .rintro j Hx v H'' hj ⟨sx,ea⟩ ⟨rfl,hv⟩;have hv:=hv _ (SqL.of (sx _ _ hw2));rw[zC,zA hj] at hv
  cases hv
  have etj:W.take (j+1)=W.take j++[W[j]]:=by rw[zM,zA hj];rfl
  generalize W[j]=n at*;have hln3:=sx _ _ hln2;have zl:((wls (W.take j) R).map V.str).length<sizeLine:=by
   rw[zB];have h1:=jof (W.take j) R;rw[zS] at h1;show _<16777216;omega
  clear hv;left;refine jjd (SqL.of hln3) ?_;by_cases c:n∈R
  .rw[gM c];left;refine⟨sx,?_⟩;rw[ea,etj];unfold wls;rw[yE,bI,gK (by simp[c]),dI,yA]
  .rw[gO c];left;refine⟨qb9 sx hacc,?_⟩;rw[qa1,etj];unfold wls;rw[yE,bI,gL (by simp[c]),zI];rfl
 rintro H3 ⟨s3,ea⟩;rw[zH] at ea;have ho3:=s3 _ _ ho2;have hF3:=hF.t (qav.of s3);have el3:=s3 _ _ el;have ne3:acc≠de:=fun e=>by subst e;rw[ho2] at hacc;cases hacc
 left;refine qec ho3 cl n3 (by show 5<1000;decide) ?_;rw[show qdw "waiting" (.ref acc) (fsD t dg lw dl dgo)=fsD t dg acc dl dgo from rfl];have hacc0:H acc=none:=by
  cases e:H acc with
  |none=>rfl
  |some u=>
   by_cases c:acc=dl
   .subst c;rw[el] at hacc;cases hacc
   .rw[sm _ _ c e] at hacc;cases hacc
 have sb:Sb2 de dl H (upd H3 de (.ins d.w00 dx (fsD t dg acc dl dgo))):=fun b u h1 h2 e=>by rw[qa7 h1];exact s3 _ _ (sm _ _ h2 e)
 have t4:qav H3 (upd H3 de (.ins d.w00 dx (fsD t dg acc dl dgo))):=qav.upd ho3 fun xs e=>by cases e
 have sH0:jab H0 (upd H3 de (.ins d.w00 dx (fsD t dg acc dl dgo))):=fun b u e=>sb b u (fun z=>by subst z;rw[f0e] at e;cases e) (fun z=>by subst z;rw[f0l] at e;cases e) (s0 b u e);have tS:qav H (upd H3 de (.ins d.w00 dx (fsD t dg acc dl dgo))):=fun a xs e=>sb a _ (fun z=>by subst z;rw[ho] at e;cases e) (fun z=>by subst z;rw[hD.l] at e;cases e) e;have ngd:dg≠de:=fun z=>by subst z;have:=hD.g;rw[ho] at this;cases this
 have ngo:dgo≠de:=fun z=>by subst z;have:=hD.go;rw[ho] at this;cases this
 have hlz:=hD.lz;refine q acc kl' _ sb hacc0 ⟨⟨dx,qa1⟩,⟨H0,sH0,f0e,f0l,hT0⟩,sb _ _ ngd hD.nld.symm hD.g,hD.gA,by rw[qa7 ne3];exact ea,by rw[qa7 nel.symm];exact el3,(hF3.t t4).cast fun z=>?_,#[],sb _ _ ngo hD.nlg.symm hD.go,hD.goA.t tS,hD.nlg,hD.nld,hD.hs⟩;rw[zB,zH];rfl
section
variable{D:Dl}
theorem RdI.hi(ok:jak D){W:List Str}{lf lv:Str->Rat}{M:Rat}{N:Nat}(I:RdI D W lf lv M N){n h:Str}(hn:n∈D.W0)(hl:h∈D.ln n):lf h<=(B31:Rat):=by
 have h1:=I.sum h;have h2:0<=qbz D.W0 fun n=>if n∉W/\h∈D.ln n then lv n*(D.wt n:Rat) else 0:=qfg fun m hm=>by
  try dsimp only
  split
  .next c=>exact wT (I.st m hm c.1).1 (by have:=(wtQ ok hm).1;grind)
  .grind
 have h3:(D.rm h:Rat)<=(B31:Rat):=by
  have h:D.rm h<=((B31:Nat):Int):=ok.r1 n hn h hl;rw[<-uN];exact_mod_cast h
 grind
def nb7{k:Nat}(h:N<=10000^(7-k)):N<=10000^7:=uY h (xD ∅ #[])
def nb8(h:N<=10000^7):N<=10000^8:=uY h (xD ∅ ∅)
theorem jdo:B31<=10^40:=by show 10^31<=10^40;exact xD ∅ ∅
theorem jje:(0:Rat)<=(B31:Rat):=by exact_mod_cast wR B31
def RdI.rb(ok:jak D){W:List Str}{lf lv:Str->Rat}{M:Rat}{N:Nat}(I:RdI D W lf lv M N){n h:Str}(hn:n∈D.W0)(hl:h∈D.ln n):RB (lf h):=
 jdm I.n0 (nb8 (nb7 I.nb)) jdo (I.dl h) (by have:=I.nn n hn h hl;have:=jje;grind) (I.hi ok hn hl)
theorem jjf{z:Int}(h:0<=z):((z.toNat:Nat):Rat)=(z:Rat):=by
 have:((z.toNat:Nat):Int)=z:=by omega
 rw[<-uN,this]
theorem RdI.rbF(ok:jak D){W:List Str}{lf lv:Str->Rat}{M:Rat}{N:Nat}(I:RdI D W lf lv M N){n h:Str}(hn:n∈W)(hl:h∈D.ln n):RB (lf h/ldQ D W h):=by
 obtain⟨z,hz⟩:=qft (D:=D) W h;have b1:=jev ok hn (I.sub n hn) hl;have b2:=jja ok W h;have l0:=I.nn n (I.sub n hn) h hl;have lh:=I.hi ok (I.sub n hn) hl;rw[hz] at b1 b2⊢;have b1':(1:Int)<=z:=by exact_mod_cast b1
 have b2':z<=7000:=by exact_mod_cast b2
 obtain⟨y,hy⟩:=I.dl h;have e:lf h /(z:Rat)*(z:Rat)=lf h:=xB (by grind);have p:(0:Rat) <(z:Rat):=by grind
 have g0:0<=lf h /(z:Rat):=(jf1 p).mpr (by grind);have g1:lf h /(z:Rat)<=lf h:=by
  have:=vR b1 g0;grind
 have bb:=jje;refine jdm (N:=N*z.toNat) (B:=B31) (bT I.n0 #[]) ?_ jdo ⟨y,?_⟩ (by grind) (by grind)
 .have h1:N*z.toNat<=10000^7*10000:=wP (nb7 I.nb) #[];rw[<-Nat.pow_succ] at h1;exact h1
 .rw[wV,jjf #[],<-hy];grind
theorem jrz(ok:jak D){n:Str}(hn:n∈D.W0):RB (goQ D n):=by
 have h1:=joc ok hn;have h2:=qfx ok hn;have w1:=ok.w1 n hn;have w2:=ok.w2 n hn;have bb:=jje;refine jdm (N:=(D.wt n).toNat) (B:=B31) #[] (uY (show(D.wt n).toNat<=1000 by omega) ∅) jdo ⟨D.wa n,?_⟩ (by grind) h1.2;rw[jjf #[],h2]
theorem qgx:(((10^36:Nat)):Rat)=100000*(B31:Rat):=by
 have:(10^36:Nat)=100000*B31:=by show(10^36:Nat)=100000*10^31;decide
 rw[this,wV];rfl
structure Sz(D:Dl)(W:List Str)(lf:Str->Rat)(L:Rat):Prop where
 l:RB L
 w:∀n∈rdy D W lf L,RB (L*(D.wt n:Rat))
 f:∀i,∀n∈D.W0,∀h∈D.ln n,RB (lf h-L*ldQ D ((rdy D W lf L).take i) h)
theorem RdI.sz(ok:jak D){W:List Str}{lf lv:Str->Rat}{M L:Rat}{N:Nat}(I:RdI D W lf lv M N)(il:IsL D W lf L):Sz D W lf L:=by
 obtain⟨ML,Lb,_,N',_,kv,I'⟩:=I.next ok il;have L0:0<=L:=by have:=I.m0;grind
 have bb:=jje;have n8:=nb8 (nb7 I'.nb);refine⟨jdm I'.n0 n8 jdo kv (by grind) Lb,fun n hn=>?_,fun i n hn h hl=>?_⟩
 .have hw:=wtQ ok (I.sub n (qd2.mp hn).1);have w0:(0:Rat)<=(D.wt n:Rat):=by grind
  have h1:=wT L0 w0;have h2:=vR hw.2 L0;refine jdm (B:=10^36) I'.n0 n8 ∅ (kv.ints _) ?_ ?_<;>rw[qgx]<;>grind
 .obtain⟨z1,e1⟩:=qft (D:=D) ((rdy D W lf L).take i) h;obtain⟨z2,e2⟩:=qft (D:=D) (rdy D W lf L) h;have n1:=jl9 ok ((rdy D W lf L).take i) h;have n2:=jja ok ((rdy D W lf L).take i) h;have h1:=wT L0 n1;have h2:=vR n2 L0;have l0:=I.nn n hn h hl;have lh:=I.hi ok hn hl;have dv:Dv N' (lf h-L*ldQ D ((rdy D W lf L).take i) h):=by
   have:=(I'.dl h).sub (kv.ints (z1-z2));have e:lfN D lf L (rdy D W lf L) h-L*((z1-z2:Int):Rat)=lf h-L*ldQ D ((rdy D W lf L).take i) h:=by
    unfold lfN;rw[e1,e2,dJ];grind
   rw[e] at this;exact this
  refine jdm (B:=10^36) I'.n0 n8 ∅ dv ?_ ?_<;>rw[qgx]<;>grind
end
theorem jmc{H:Hp}{φ:Str->Option Rat}:∀{kvs:List (Key×V)},(∀p∈kvs,∃z a q,p=(uE z,V.ref a)/\qb8 H a q/\φ z=some q)->∃ps:List (Addr×Rat),kvs.map (·.2)=ps.map (fun p=>V.ref p.1)/\(∀p∈ps,qb8 H p.1 p.2/\∃z,φ z=some p.2)/\∀k a,(k,V.ref a)∈kvs->∃p∈ps,p.1=a
 | [],_=>⟨[],rfl,fun p hp=>by simp at hp,fun k a h=>by simp at h⟩
 |p::kvs,h=>by
  obtain⟨ps,e1,e2,e3⟩:=jmc (kvs:=kvs) fun p hp=>h p (zD _ hp);obtain⟨z,a,q,rfl,hf,hz⟩:=h p (zG ..);refine⟨(a,q)::ps,by rw[zV,zV,e1],fun p hp=>?_,fun k b hb=>?_⟩
  .rcases zP.mp hp with rfl|hp
   .exact⟨hf,z,hz⟩
   .exact e2 p hp
  .rcases zP.mp hb with e|hb
   .injection e with _ e
    injection e with e
    exact⟨(a,q),zG ..,e.symm⟩
   .obtain⟨p,hp,e⟩:=e3 k b hb;exact⟨p,zD _ hp,e⟩
theorem FD.row{kvs:List (Key×V)}(h:FD H kvs φ):∃ps:List (Addr×Rat),kvs.map (·.2)=ps.map (fun p=>V.ref p.1)/\(∀p∈ps,qb8 H p.1 p.2/\∃z,φ z=some p.2)/\∀z q,φ z=some q->∃p∈ps,p.2=q:=by
 obtain⟨ps,e1,e2,e3⟩:=jmc h.sh;refine⟨ps,e1,e2,fun z q hz=>?_⟩;obtain⟨a,ha,hf⟩:=h.get z q hz;obtain⟨p,hp,rfl⟩:=e3 _ a (qf7 ha);exact⟨p,hp,(e2 p hp).1.uniq hf⟩
inductive ja8(K:uX)(d:Ad)(vs:List V)(H:Hp)(Q:VK)(E:XK):Prop
 |mk(de t dg lw dl dgo:Addr)(S:Ts)(D:Dl)(HS:List Str)(kg kl kgo:List (Key×V))(W:List Str)(lf lv:Str->Rat)(M:Rat)(N:Nat)(_:vs=[.ref de])(_:jak D)(_:jdw d H de t dg lw dl dgo S D HS kg kl kgo W lf)(_:RdI D W lf lv M N)(_:W≠ [])(_:∀(L:Rat)(rt la ln lw':Addr)(kl':List (Key×V)) H',IsL D W lf L->Sb2 de dl H H'->H ln=none->H lw'=none->H' rt=some (.tup [.ref la,.ref ln])->qb8 H' la L->H' ln=some (.lst ((rdy D W lf L).map V.str))->jdw d H' de t dg lw' dl dgo S D HS kg kl' kgo (wls W (rdy D W lf L)) (lfN D lf L (rdy D W lf L))->Q (.ref rt) H')
include T in
theorem w5i:jac P w K mg base (My.CX1 P w) 8 d.w1q d.w1m ["self"] (ja8 K d):=by
 exists okX T.w5x w0p
 .right
 obtain⟨de,t,dg,lw,dl,dgo,S,D,HS,kg,kl,kgo,W,lf,lv,M,N,rfl,ok,hD,I,wn,q⟩:=h;refine⟨_,(qa2 (qae (i:=1) w0p.nd rfl (uD rfl) (jdg (pv 0) T.w0f T.w1h ((w8s T).mono ∅) hr T.w9h .nil qau))
  (qa2 (qae (i:=2) w0p.nd rfl (uD rfl) (qac ((wd2 T).mono ∅) hr rfl T.wf3 T.wam.kp T.wet .nil qas #[qag jli (qbr (jgi rfl) rfl T.wec aY #[jpp PySem.F.plainAttrs_dict PySem.F.slot_dict_values PySem.F.type_dict_values jnt (pv 1)]) (qcm (caps:=[0]) (cn:=["self"]) (qc8 rfl rfl (by rfl) (by rfl) rfl ⟨rfl,trivial⟩ (by rfl) rfl ⟨⟨rfl,rfl,rfl,rfl,_,rfl⟩,trivial⟩ ∅) rfl (qaw (qay (pv 0) rfl)) (fun _ _ _ _=>qdd) (fun _ _ _ _=>(qay (pv 1) rfl|||pv 0)))]))
  (qa2 (qae (i:=3) w0p.nd rfl (uD rfl) (qb6 (pv 0) T.w0f T.w1g ((w8u T).mono ∅) hr T.w9w .nil qau #[pv 2,pv 1]))
  (qa2 (qbq (qb6 (pv 0) T.w0f T.w0x ((w7d T).mono ∅) hr T.w8o .nil qau #[pv 2,pv 3]))
  (qa6 (qaf (qbc #[pv 2,pv 3]))))))),?_⟩
 walk_at"d"
 try dsimp only[cxC]
 refine qad (σ:=[sr de,none,none,none]) rfl ?_;have cl:=T.w0f;have n3:qaq K d.w00 "waiting":=T.w04;have n5:qaq K d.w00 "goals":=T.w0g;obtain⟨dx,ho⟩:=hD.ob;have w7:W.length<=7:=uY (vM I.nd I.sub) ok.l8;left;refine⟨de,t,dg,lw,dl,dgo,S,D,HS,kg,kl,kgo,W,lf,rfl,ok,hD,I.sub,w7,fun n hn h hl=>I.rb ok (I.sub n hn) hl,fun lf' kf H1 s1 hlf el1 hF1 hk1=>?_⟩;have ho1:=s1 _ _ ho;have hR1:Rd H1 lf' (.dK kf):=.inl el1;left;refine jrg hR1 fun v hv=>?_;have s2:=s1.trans (qa4 hv (jid v lf'));have el2:=qaa (o':=jid v lf') el1 hv;have ev2:upd H1 v (jid v lf') v=some (jid v lf'):=qa1;have hF2:=hF1.t (qav.of (qa4 hv (jid v lf')));generalize upd H1 v (jid v lf')=H2 at*;clear hv hR1 el1 hF1 ho1;left;refine jnx ev2 (.inl el2) fun l1 hl1=>?_;have s3:=s2.trans (qa4 hl1 (.lst (kf.map (·.2))));have el3:=qaa (o':=.lst (kf.map (·.2))) el2 hl1;have e13:upd H2 l1 (.lst (kf.map (·.2))) l1=some (.lst (kf.map (·.2))):=qa1;have hF3:=hF2.t (qav.of (qa4 hl1 (.lst (kf.map (·.2)))));generalize upd H2 l1 (.lst (kf.map (·.2)))=H3 at*;clear hl1 el2 ev2 hF2;have ho3:=s3 _ _ ho;have hw3:=s3 _ _ hD.w;left;intro C s9 H9 fp acc hacc;refine jef W.length (fun j Hx=>∃ps:List (Addr×Rat),jab H3 Hx/\Hx acc=some (.lst (ps.map fun p=>V.ref p.1))/\(∀p∈ps,qb8 Hx p.1 p.2)/\ps.map (·.2)=(W.take j).map (goQ D)) ⟨[],qa4 hacc _,qa1,fun p hp=>by simp at hp,rfl⟩ ?_ ?_ ?_ ?_
 .rintro j Hx hj ⟨ps,sx,_⟩;exact⟨_,.str W[j],SqL.of (sx _ _ hw3),by rw[zC,zA hj];rfl⟩
 .rintro Hx ⟨ps,sx,_⟩;exact⟨_,SqL.of (sx _ _ hw3),by rw[zB];exact uF _⟩
 .rintro j Hx v H'' hj ⟨ps,sx,ea,hps,hms⟩ ⟨rfl,hv⟩;have hv:=hv _ (SqL.of (sx _ _ hw3));rw[zC,zA hj] at hv
  cases hv
  have hm:=I.sub _ (zY hj);have etj:W.take (j+1)=W.take j++[W[j]]:=by rw[zM,zA hj];rfl
  have hlen:ps.length=j:=by have:=congrArg wG hms;rw[zB,zB,zS] at this;omega
  generalize W[j]=n at*;have hRg:Rd H'' dgo (.dK kgo):=.inl (sx _ _ (s3 _ _ hD.go));have hFg:=hD.goA.t (qav.of (s3.trans sx));have ho4:=sx _ _ ho3;have zl:(ps.map fun p=>V.ref p.1).length<sizeLine:=by rw[zB];show _<16777216;omega
  clear hv;left;refine qcg hRg hFg (qbb hm) fun b hb=>?_;left;have t5:qav H'' (upd H'' acc (.lst ((ps.map fun p=>V.ref p.1)++[V.ref b]))):=qav.upd ea fun xs e=>by cases e
  refine⟨ps++[(b,goQ D n)],qb9 sx hacc,by rw[qa1,zI];rfl,fun p hp=>?_,by rw[zI,hms,etj,zI];rfl⟩;rcases zN.mp hp with h1|h1
  .exact t5 _ _ (hps p h1)
  .rw[zF.mp h1];exact t5 _ _ hb
 rintro H4 ⟨ps,s4,ea,hps,hms⟩;rw[zH] at hms;obtain⟨pf,ef,hpf,hpa⟩:=(hF3.t (qav.of s4)).row;have e14:=s4 _ _ e13;rw[ef] at e14;have plen:ps.length=W.length:=by have:=congrArg wG hms;rw[zB,zB] at this;exact this
 have flen:pf.length=kf.length:=by have:=congrArg wG ef;rw[zB,zB] at this;exact this.symm
 refine jqu e14 ea (by rw[zB,zB];show _<=16777216;omega) fun l2 hl2=>?_;rw[<-zI];have s5:=s4.trans (qa4 hl2 (.lst ((pf++ps).map fun p=>V.ref p.1)));have s5':jab H4 (upd H4 l2 (.lst ((pf++ps).map fun p=>V.ref p.1))):=qa4 hl2 _;have e5:upd H4 l2 (.lst ((pf++ps).map fun p=>V.ref p.1)) l2=some (.lst ((pf++ps).map fun p=>V.ref p.1)):=qa1;generalize upd H4 l2 (.lst ((pf++ps).map fun p=>V.ref p.1))=H5 at*;have s6:=s3.trans s5;have hD5:=hD.same s6;have ho5:=s6 _ _ ho;have el5:=s5 _ _ el3;have hF5:=hF3.t (qav.of s5);have hpos:∀n∈W,∀h∈D.ln n,∃p∈pf,p.2=lf h/ldQ D W h:=fun n hn h hl=>hpa h _ (jjc ok I.nd I.sub lf hn hl);have hfl:∀p∈pf,∃n∈W,∃h∈D.ln n,p.2=lf h/ldQ D W h:=fun p hp=>by
  obtain⟨z,hz⟩:=(hpf p hp).2;by_cases c:∃n∈W,z∈D.ln n
  .obtain⟨n,hn,hl⟩:=c;rw[jjc ok I.nd I.sub lf hn hl] at hz;exact⟨n,hn,z,hl,(uU hz).symm⟩
  .unfold flF at hz;rw[gK c] at hz
   cases hz
 have hgo:∀p∈ps,∃n∈W,p.2=goQ D n:=fun p hp=>by
  have h1:p.2∈ps.map (·.2):=zJ.mpr ⟨p,hp,rfl⟩;rw[hms] at h1;obtain⟨n,hn,e⟩:=zJ.mp h1;exact⟨n,hn,e.symm⟩
 have hog:∀n∈W,∃p∈ps,p.2=goQ D n:=fun n hn=>by
  have h1:goQ D n∈ps.map (·.2):=by rw[hms];exact zJ.mpr ⟨n,hn,rfl⟩
  obtain⟨p,hp,e⟩:=zJ.mp h1;exact⟨p,hp,e⟩
 have hFr:FrL H5 (pf++ps):=fun p hp=>by
  rcases zN.mp hp with h1|h1
  .obtain⟨n,hn,h,hl,e⟩:=hfl p h1;exact⟨s5' _ _ (hpf p h1).1,by rw[e];exact I.rbF ok hn hl⟩
  .obtain⟨n,hn,e⟩:=hgo p h1;exact⟨s5' _ _ (hps p h1),by rw[e];exact jrz ok (I.sub n hn)⟩
 have hne:pf++ps≠ []:=fun e=>by
  have:=bY.mpr wn;have:=congrArg wG e;rw[zT,yK] at this;omega
 clear hl2 ea e14 s4 s5 s5' el3 hF3 e13 hw3 ho3;left;refine⟨l2,pf++ps,rfl,e5,hFr,hne,fun p hp hle=>?_⟩;have il:IsL D W lf p.2:=by
  refine⟨fun n hn=>⟨fun h hl=>?_,?_⟩,?_⟩
  .obtain⟨p',hp',e⟩:=hpos n hn h hl;rw[<-e];exact hle p' (zO _ hp')
  .obtain⟨p',hp',e⟩:=hog n hn;rw[<-e];exact hle p' (zK _ hp')
  .rcases zN.mp hp with h1|h1
   .obtain⟨n,hn,h,hl,e⟩:=hfl p h1;exact⟨n,hn,.inl ⟨h,hl,e.symm⟩⟩
   .obtain⟨n,hn,e⟩:=hgo p h1;exact⟨n,hn,.inr e.symm⟩
 have hLa:=(hFr p hp).1;have sz:=I.sz ok il;generalize p.2=L at*;generalize p.1=la at*;left;refine⟨de,t,dg,lw,dl,dgo,la,lf',S,D,HS,kg,kl,kgo,kf,W,lf,L,rfl,ok,hD5,I.sub,I.nd,hLa,el5,hF5,fun ln H6 s7 hln eln=>?_⟩;have ho6:=s7 _ _ ho5;have hLa6:qb8 H6 la L:=s7 _ _ hLa;left;refine⟨de,t,dg,lw,dl,dgo,la,ln,S,D,HS,kg,kl,kgo,W,_,lf,L,rfl,ok,hD5.same s7,I.sub,I.nd,hLa6,sz.l,eln,fun n hn=>(qd2.mp hn).1,I.nd.filter _,sz.w,sz.f,fun lw' kl' H7 sb7 hlw' hD7=>?_⟩;have nae:la≠de:=fun e=>by subst e;unfold qb8 at hLa6;rw[ho6] at hLa6;cases hLa6
 have nal:la≠dl:=fun e=>by subst e;unfold qb8 at hLa;rw[hD5.l] at hLa;cases hLa
 have nne:ln≠de:=fun e=>by subst e;rw[ho6] at eln;cases eln
 have nnl:ln≠dl:=fun e=>by subst e;rw[(hD5.same s7).l] at eln;cases eln
 have eln7:=sb7 _ _ nne nnl eln;have hLa7:qb8 H7 la L:=sb7 _ _ nae nal hLa6;left;rename_i rt hrt;have s8:=qa4 hrt (.tup [V.ref la,V.ref ln]);exact q L rt la ln lw' kl' _ il (fun b u h1 h2 e=>s8 _ _ (sb7 b u h1 h2 (s7 _ _ (s6 _ _ e)))) (s6.free hln) ((s6.trans s7).free hlw') qa1 (s8 _ _ hLa7) (s8 _ _ eln7) (hD7.same s8)
structure Rnd where
 a:Addr
 la:Addr
 ln:Addr
 L:Rat
 ns:List Str
structure jb4(H:Hp)(r:Rnd):Prop where
 t:H r.a=some (.tup [.ref r.la,.ref r.ln])
 l:qb8 H r.la r.L
 n:H r.ln=some (.lst (r.ns.map V.str))
theorem jb4.sb{r:Rnd}{C dx:Addr}{fs:List (Str×V)}{kvs:List (Key×V)}(h:jb4 H r)(ea:H a=some (.ins C dx fs))(eb:H b=some (.dK kvs))(s:Sb2 a b H H'):jb4 H' r:=by
 have hl:=h.l;unfold qb8 at hl;exact⟨s _ _ (fun e=>by have:=h.t;rw[e,ea] at this;cases this) (fun e=>by have:=h.t;rw[e,eb] at this;cases this) h.t,
  s _ _ (fun e=>by rw[e,ea] at hl;cases hl) (fun e=>by rw[e,eb] at hl;cases hl) hl,
  s _ _ (fun e=>by have:=h.n;rw[e,ea] at this;cases this) (fun e=>by have:=h.n;rw[e,eb] at this;cases this) h.n⟩
theorem jb4.put{r:Rnd}{xs ys:List V}(h:jb4 H r)(el:H l=some (.lst xs))(n:r.ln≠l):jb4 (upd H l (.lst ys)) r:=by
 have hl:=h.l;unfold qb8 at hl;refine⟨?_,?_,?_⟩
 .rw[qa7 fun e=>by have:=h.t;rw[e,el] at this;cases this];exact h.t
 .show upd H l (.lst ys) r.la=_;rw[qa7 fun e=>by rw[e,el] at hl;cases hl];exact hl
 .rw[qa7 n];exact h.n
structure jex(D:Dl)(W:List Str)(lv:Str->Rat)(N:Nat)(rs:List Rnd):Prop where
 m:∀r∈rs,∀n∈r.ns,n∈D.W0/\n∉W/\r.L=lv n
 e:∀n∈D.W0,n∉W->∃r∈rs,n∈r.ns
 rb:∀r∈rs,RB r.L
 dv:∀r∈rs,Dv N r.L
 z:rs.length+W.length<=D.W0.length
open Classical in
theorem jex.next{D:Dl}{W:List Str}{lf lv:Str->Rat}{N N':Nat}{rs:List Rnd}{r:Rnd}(h:jex D W lv N rs)(hk:∃k:Nat,N'=N*k)(kv:Dv N' r.L)(sub:∀n∈W,n∈D.W0)(e:r.ns=rdy D W lf r.L)(rb:RB r.L)(len:(wls W (rdy D W lf r.L)).length<W.length):
  jex D (wls W (rdy D W lf r.L)) (fun n=>if n∈rdy D W lf r.L then r.L else lv n) N' (rs++[r]):=by
 refine⟨fun r' hr' n hn=>?_,fun n hn hnw=>?_,fun r' hr'=>?_,fun r' hr'=>?_,?_⟩
 .rcases zN.mp hr' with h1|h1
  .obtain⟨a1,a2,a3⟩:=h.m r' h1 n hn;refine⟨a1,fun z=>a2 (qc7.mp z).1,?_⟩;rw[gK fun z=>a2 (qd2.mp z).1];exact a3
  .have:=zF.mp h1;subst this;rw[e] at hn;exact⟨sub n (qd2.mp hn).1,fun z=>(qc7.mp z).2 hn,by rw[gL hn]⟩
 .by_cases c:n∈W
  .refine⟨r,zK _ (zF.mpr rfl),?_⟩;rw[e];exact uR fun z=>hnw (qc7.mpr ⟨c,z⟩)
  .obtain⟨r',h1,h2⟩:=h.e n hn c;exact⟨r',zO _ h1,h2⟩
 .rcases zN.mp hr' with h1|h1
  .exact h.rb r' h1
  .rw[zF.mp h1];exact rb
 .obtain⟨k,rfl⟩:=hk;rcases zN.mp hr' with h1|h1
  .exact(h.dv r' h1).mul k
  .rw[zF.mp h1];exact kv
 .have:=h.z;rw[zT,yD];omega
open Classical in
theorem RdI.start(ok:jak D):RdI D D.W0 (fun h=>(D.rm h:Rat)) (fun _=>0) 0 1:=by
 refine⟨fun n h=>h,ok.nd,fun h=>?_,fun n hn h hl=>?_,fun n hn h hl=>?_,fun n hn=>(joc ok hn).1,dX,fun n hn hnw=>absurd hn hnw,∅,fun h=>⟨D.rm h,?_⟩,Nat.one_le_pow _ _ ∅⟩
 .rw[qe9 fun n hn=>gK fun z=>z.1 hn];grind
 .have:(0:Rat)<=(D.rm h:Rat):=by exact_mod_cast ok.r0 n hn h hl
  grind
 .exact_mod_cast ok.r0 n hn h hl
 .show(D.rm h:Rat)*((1:Nat):Rat)=_;grind
theorem jdw.lst{d:Ad}{H:Hp}{de t dg lw dl dgo:Addr}{S:Ts}{D:Dl}{HS:List Str}{kg kl kgo:List (Key×V)}{W:List Str}{lf:Str->Rat}{H0:Hp}{lt:Addr}{xs ys:List V}(h:jdw d H de t dg lw dl dgo S D HS kg kl kgo W lf)(el:H lt=some (.lst xs))(n:lw≠lt)(s:jab H0 (upd H lt (.lst ys)))(f1:H0 de=none)(f2:H0 dl=none)(hT:TrD d H0 t S D):jdw d (upd H lt (.lst ys)) de t dg lw dl dgo S D HS kg kl kgo W lf:=by
 obtain⟨dx,ho⟩:=h.ob;have t1:qav H (upd H lt (.lst ys)):=qav.upd el fun xs e=>by cases e
 refine⟨⟨dx,?_⟩,⟨H0,s,f1,f2,hT⟩,?_,h.gA,?_,?_,h.lA.t t1,h.lz,?_,h.goA.t t1,h.nlg,h.nld,h.hs⟩
 .rw[qa7 fun e=>by rw[e,el] at ho;cases ho];exact ho
 .rw[qa7 fun e=>by have:=h.g;rw[e,el] at this;cases this];exact h.g
 .rw[qa7 n];exact h.w
 .rw[qa7 fun e=>by have:=h.l;rw[e,el] at this;cases this];exact h.l
 .rw[qa7 fun e=>by have:=h.go;rw[e,el] at this;cases this];exact h.go
inductive jdp(K:uX)(d:Ad)(vs:List V)(H:Hp)(Q:VK)(E:XK):Prop
 |mk(t dr dw dg:Addr)(S:Ts)(D:Dl)(HS:List Str)(kr kw kg:List (Key×V))(_:vs=[.ref t,.ref dr,.ref dw,.ref dg])(_:jak D)(_:vX D.W0=true)(_:TrD d H t S D)(_:H dr=some (.dK kr))(_:AD kr (qbu HS D.rm))(_:HS.Nodup)(_:HS.length<=60)(_:H dw=some (.dK kw))(_:AD kw (qbu D.W0 D.wa))(_:H dg=some (.dK kg))(_:AD kg (qbu D.W0 D.wt))(_:dg≠dw)(_:(∀n∈D.W0,∀h∈D.ln n,h∈HS))(_:∀(lt:Addr)(rs:List Rnd)(lf lv:Str->Rat)(M:Rat)(N:Nat) H',jab H H'->H lt=none->H' lt=some (.lst (rs.map fun r=>V.ref r.a))->(∀r∈rs,jb4 H' r)->RdI D [] lf lv M N->jex D [] lv N rs->Q (.ref lt) H')
include T in
theorem wc5:jac P w K mg base (My.CX1 P w) 9 d.w6u d.w54 ["tree","rooms","wants","weights"] (jdp K d):=by
 exists okX T.w94 w5f
 .right
 obtain⟨t,dr,dw,dg,S,D,HS,kr,kw,kg,rfl,ok,srt,hT,hr0,hrA,hsn,hsl,hw,hwA,hg,hgA,ngw,hs,q⟩:=h;refine⟨_,(qa2 (qae (i:=4) w5f.nd rfl (uD rfl) (qf9 T.w3x ((w9o T).mono ∅) hr rfl T.wgi T.wa8 .nil qau #[pv 0,pv 1,pv 2,pv 3]))
  (qa2 (qae (i:=5) w5f.nd rfl (uD rfl) (qc2 qa3))
  (qa2 (qee (qbj rfl rfl) (qan qg6 (qaj qbm rfl T.w45 vY #[qay (pv 4) rfl]) qa5 (qar _)) (qa6 (qbq (qf2 vT wL wM qcf (pv 5) #[jdg (pv 4) T.w0f T.w0d ((w5i T).mono ∅) hr T.w5u .nil qau]))))
  (qa6 (qaf (pv 5)))))),?_⟩
 walk_at"d"
 try dsimp only[cxC]
 refine qad (σ:=[sr t,sr dr,sr dw,sr dg,none,none]) rfl ?_;have cl:=T.w0f;have n3:qaq K d.w00 "waiting":=T.w04;left;intro x dx hx hdx ndx;have sH:jab H (upd (upd H dx (.own x)) x (.ins d.w00 dx [])):=(qa4 hdx _).trans (qa4 (by rw[qa7 ndx.symm];exact hx) _);refine⟨x,dx,t,dr,dw,dg,D,HS,kr,kw,kg,rfl,qa1,ok,srt,sH _ _ hr0,hrA,hsn,hsl,sH _ _ hw,hwA,sH _ _ hg,hgA,ngw,fun lw dl dgo kl kgo H2 sb hlw hdl hdgo nlg ex ew el hFl kl60 eg hFg=>⟨rfl,?_⟩⟩;have s2:jab H H2:=fun b u e=>sb b u (fun z=>by subst z;rw[hx] at e;cases e) (sH b u e);have hD:jdw d H2 x t dg lw dl dgo S D HS kg kl kgo D.W0 (fun h=>(D.rm h:Rat)):=⟨⟨dx,ex⟩,⟨H,s2,hx,sH.free hdl,hT⟩,s2 _ _ hg,hgA,ew,el,hFl,kl60,eg,hFg,nlg,(fun e=>by have:=sH.free hdl;rw[e,hg] at this;cases this),hs⟩;clear sb hlw hdgo ex ew el hFl eg hFg;have hdl0:=sH.free hdl;clear hdl sH;left;rename_i lt hlt;have s3:=s2.trans (qa4 hlt (.lst []));have et:upd H2 lt (.lst []) lt=some (.lst []):=qa1;have hD3:=hD.same (qa4 hlt (.lst []));have hlt0:=s2.free hlt;have hwlt:=hD.w;generalize upd H2 lt (.lst [])=H3 at*;clear hD;refine qe8 (fun σ H'=>∃(W:List Str)(rs:List Rnd)(lf lv:Str->Rat)(M:Rat)(N:Nat)(lw:Addr)(kl:List (Key×V)),σ=[sr t,sr dr,sr dw,sr dg,sr x,sr lt]/\jab H H'/\H' lt=some (.lst (rs.map fun r=>V.ref r.a))/\jdw d H' x t dg lw dl dgo S D HS kg kl kgo W lf/\lw≠lt/\RdI D W lf lv M N/\jex D W lv N rs/\∀r∈rs,jb4 H' r/\r.ln≠lt) (fun _ H'=>D.W0.length+1-jes lt H') ?_ ?_ ?_
 .refine⟨D.W0,[],_,fun _=>0,0,1,lw,kl,rfl,s3,et,hD3,fun e=>?_,RdI.start ok,⟨fun r hr=>by simp at hr,fun n hn h=>absurd hn h,fun r hr=>by simp at hr,fun r hr=>by simp at hr,by simp⟩,fun r hr=>by simp at hr⟩;subst e;rw[hwlt] at hlt
  cases hlt
 .rintro σ H' ⟨W,rs,lf,lv,M,N,lw,kl,rfl,sm,el,hD,nlt,I,R,hrs⟩;obtain⟨dx',ho⟩:=hD.ob;have hw':=hD.w;have wl7:W.length<=7:=uY (vM I.nd I.sub) ok.l8;have lr:jes lt H'=rs.length:=by rw[qfb el,zB]
  have rz:=R.z;have l8:=ok.l8;left;by_cases c:W=[]
  .subst c;rw[gK ∅];left;exact q lt rs lf lv M N H' sm hlt0 el (fun r hr=>(hrs r hr).1) I R
  .have w0:=bY.mpr c;rw[gL (gM (by rw[zB];omega))];have zl:(rs.map fun r=>V.ref r.a).length<sizeLine:=by rw[zB];show _<16777216;omega
   left;refine⟨x,t,dg,lw,dl,dgo,S,D,HS,kg,kl,kgo,W,lf,lv,M,N,rfl,ok,hD,I,c,fun L rt la ln lw' kl' H4 il sb4 fln flw' ert hLa eln hD4=>?_⟩;obtain⟨ML,Lb,len,N',hk',kv,I'⟩:=I.next ok il;have sz:=I.sz ok il;have nxl:lt≠x:=fun e=>by subst e;rw[ho] at el;cases el
   have ndl:lt≠dl:=fun e=>by subst e;rw[hD.l] at el;cases el
   have el4:=sb4 _ _ nxl ndl el;have nln:ln≠lt:=fun e=>by subst e;rw[el] at fln;cases fln
   have nlw:lw'≠lt:=fun e=>by subst e;rw[el] at flw';cases flw'
   have s4:jab H H4:=fun b u e=>sb4 b u (fun z=>by subst z;rw[hx] at e;cases e) (fun z=>by subst z;rw[hdl0] at e;cases e) (sm b u e);left;have s5:jab H (upd H4 lt (.lst ((rs.map fun r=>V.ref r.a)++[V.ref rt]))):=qb9 s4 hlt0;have R':jex D (wls W (rdy D W lf L)) (fun n=>if n∈rdy D W lf L then L else lv n) N' (rs++[⟨rt,la,ln,L,rdy D W lf L⟩]):=R.next (r:=⟨rt,la,ln,L,rdy D W lf L⟩) hk' kv I.sub rfl sz.l len;refine⟨⟨_,rs++[⟨rt,la,ln,L,rdy D W lf L⟩],_,_,L,N',lw',kl',rfl,s5,by rw[qa1,zI];rfl,hD4.lst el4 nlw s5 hx hdl0 hT,nlw,I',R',fun r hr=>?_⟩,?_⟩
   .rcases zN.mp hr with h1|h1
    .exact⟨((hrs r h1).1.sb ho hD.l sb4).put el4 (hrs r h1).2,(hrs r h1).2⟩
    .rw[zF.mp h1];exact⟨jb4.put ⟨ert,hLa,eln⟩ el4 nln,nln⟩
   .have g2:jes lt (upd H4 lt (.lst ((rs.map fun r=>V.ref r.a)++[V.ref rt])))=_:=qfb qa1;rw[zT,zB,yD] at g2;rw[g2,lr];omega
 .rintro σ H' Q1 Q2 hm ⟨v,hv,a,C,dx,fs,w,e1,e2,e3,e4,e5,p,ys,e6,e7,i,j,e8,e9,k,e10,e11⟩;exact⟨v,hv,a,C,dx,fs,w,e1,e2,e3,e4,e5,p,ys,e6,e7,i,j,e8,e9,k,e10,hm _ _ e11⟩
section
variable(D:Dl)
noncomputable def shQ(lv:Str->Rat)(n:Str):Rat:=lv n*(D.wt n:Rat)
noncomputable def toQ(lv:Str->Rat)(V:List Str)(h:Str):Rat:=qbz V fun n=>if h∈D.ln n then shQ D lv n else 0
open Classical in
noncomputable def onF(V:List Str)(g:Str->Rat):Str->Option Rat:=fun h=>if ∃n∈V,h∈D.ln n then some (g h) else none
structure Top(V:List Str)(lv tp:Str->Rat):Prop where
 ex:∀h,(∃n∈V,h∈D.ln n)->∃n∈V,h∈D.ln n/\tp h=lv n
 ge:∀h,∀n∈V,h∈D.ln n->lv n<=tp h
open Classical in
noncomputable def tpN(V:List Str)(lv tp:Str->Rat)(n h:Str):Rat:=if ∃m∈V,h∈D.ln m then(if tp h<lv n then lv n else tp h) else lv n
end
theorem jjg{K:uX}(ha:qb8 H a q)(hb:qb8 H b r)(c:a≠b):DEq K H 1 (.ref a) (.ref b) (decide (q=r)):=by
 have key:((vK (min [V.int q.num,V.int (q.den:Int)].length [V.int r.num,V.int (r.den:Int)].length)).all (fun j=>if j=0 then eqV (V.int q.num) (V.int r.num) else eqV (V.int (q.den:Int)) (V.int (r.den:Int))) && [V.int q.num,V.int (q.den:Int)].length==[V.int r.num,V.int (r.den:Int)].length)=decide (q=r):=by
  show((eqV (V.int q.num) (V.int r.num) && (eqV (V.int (q.den:Int)) (V.int (r.den:Int)) && true)) && true)=_;show((decide (q.num=r.num) && (decide ((q.den:Int)=(r.den:Int)) && true)) && true)=_;by_cases e1:q.num=r.num
  .by_cases e2:q.den=r.den
   .rw[gM e1,gM (by rw[e2]),gM (Rat.ext e1 e2)];rfl
   .rw[gM e1,gO #[],gO (p:=q=r) (fun z=>e2 (by rw[z]))];rfl
  .rw[gO e1,gO (p:=q=r) (fun z=>e1 (by rw[z]))];rfl
 rw[<-key];refine .ts (SqT.of ha) (SqT.of hb) c fun j h1 h2=>?_;have:j<2:=h1;obtain rfl|rfl:j=0\/j=1:=by omega
 .exact .flat rfl rfl
 .exact .flat rfl rfl
theorem qgi{f:Str->Rat}:∀{l:List Str} {n:Str},qbz (l++[n]) f=qbz l f+f n
 | [],n=>by show f n+0=0+f n;grind
 |m::l,n=>by
  show f m+qbz (l++[n]) f=f m+qbz l f+f n;rw[qgi];grind
theorem jdq{f:Str->Rat}{l l':List Str}(h:l.Perm l'):qbz l f=qbz l' f:=by
 induction h with
 |nil=>rfl
 |cons x _ ih=>show f x+qbz _ f=f x+qbz _ f;rw[ih]
 |swap x y l=>show f y+(f x+qbz l f)=f x+(f y+qbz l f);grind
 |trans _ _ a b=>rw[a,b]
section
variable{D:Dl}
theorem jog(lv:Str->Rat)(V:List Str)(n h:Str):toQ D lv (V++[n]) h=toQ D lv V h+if h∈D.ln n then shQ D lv n else 0:=by unfold toQ;rw[qgi]
def jf3{V:List Str}{h:Str}(hn:¬∃n∈V,h∈D.ln n):toQ D lv V h=0:=qe9 fun n hv=>gK fun z=>hn ⟨n,hv,z⟩
theorem qfz{V:List Str}{n h:Str} :(∃m∈V++[n],h∈D.ln m)↔(∃m∈V,h∈D.ln m)\/h∈D.ln n:=by
 constructor
 .rintro⟨m,hm,hl⟩;rcases zN.mp hm with h1|h1
  .exact .inl ⟨m,h1,hl⟩
  .rw[zF.mp h1] at hl;exact .inr hl
 .rintro(⟨m,hm,hl⟩|hl)
  .exact⟨m,zO _ hm,hl⟩
  .exact⟨n,zK _ (zF.mpr rfl),hl⟩
open Classical in
theorem Top.app{V:List Str}{tp:Str->Rat}(h:Top D V lv tp)(n:Str):Top D (V++[n]) lv (fun x=>if x∈D.ln n then tpN D V lv tp n x else tp x):=by
 refine⟨fun x hx=>?_,fun x m hm hl=>?_⟩
 .have hx:=qfz.mp hx
  try dsimp only
  by_cases c:x∈D.ln n
  .rw[gL c];unfold tpN;by_cases c2:∃m∈V,x∈D.ln m
   .rw[gL c2];by_cases c3:tp x<lv n
    .rw[gL c3];exact⟨n,zK _ (zF.mpr rfl),c,rfl⟩
    .rw[gK c3];obtain⟨m,hm,hl,e⟩:=h.ex x c2;exact⟨m,zO _ hm,hl,e⟩
   .rw[gK c2];exact⟨n,zK _ (zF.mpr rfl),c,rfl⟩
  .rw[gK c];obtain⟨m,hm,hl,e⟩:=h.ex x (hx.resolve_right c);exact⟨m,zO _ hm,hl,e⟩
 .try dsimp only
  by_cases c:x∈D.ln n
  .rw[gL c];unfold tpN;rcases zN.mp hm with h1|h1
   .have:=h.ge x m h1 hl;rw[gL ⟨m,h1,hl⟩]
    split<;>grind
   .rw[zF.mp h1]
    split
    .split<;>grind
    .exact dX
  .rw[gK c];rcases zN.mp hm with h1|h1
   .exact h.ge x m h1 hl
   .rw[zF.mp h1] at hl;exact absurd hl c
end
noncomputable def fsS(t dr dlv dto dtp:Addr):List (Str×V):=[("tree",.ref t),("rooms",.ref dr),("levels",.ref dlv),("totals",.ref dto),("tops",.ref dtp)]
structure LvB(D:Dl)(lv:Str->Rat):Prop where
 l0:∀n∈D.W0,0<=lv n
 rl:∀n∈D.W0,RB (lv n)
 rs:∀n∈D.W0,RB (shQ D lv n)
 rt:∀V:List Str,V.Nodup->(∀n∈V,n∈D.W0)->∀h,RB (toQ D lv V h)
theorem jr0(ok:jak D){lv:Str->Rat}{n:Str}(hn:n∈D.W0):shQ D lv n /(D.wt n:Rat)=lv n:=by
 have:=(wtQ ok hn).1;unfold shQ;exact(jdl (by grind)).mpr rfl
theorem jey{H Hk:Hp}{x dx C dl:Addr}{fs fs':List (Str×V)}(sb:SameBut x H Hk)(ex:Hk x=some (.ins C dx fs))(fr:∀b,Hk b=none->H b=none)(hd:Hk dl=none):
  SameBut x H (upd (upd Hk dl (.dK [])) x (.ins C dx fs'))/\upd (upd Hk dl (.dK [])) x (.ins C dx fs') x=some (.ins C dx fs')/\upd (upd Hk dl (.dK [])) x (.ins C dx fs') dl=some (.dK [])/\(∀b,upd (upd Hk dl (.dK [])) x (.ins C dx fs') b=none->H b=none)/\dl≠x/\H dl=none:=by
 have ne:dl≠x:=fun e=>by subst e;rw[ex] at hd;cases hd
 refine⟨fun b u hb e=>?_,qa1,?_,fun b hb=>?_,ne,fr _ hd⟩
 .rw[qa7 hb];exact qaa (sb b u hb e) hd
 .rw[qa7 ne];exact qa1
 .by_cases c:b=x
  .subst c;rw[qa1] at hb;cases hb
  .rw[qa7 c] at hb;by_cases c2:b=dl
   .subst c2;exact fr _ hd
   .rw[qa7 c2] at hb;exact fr _ hb
theorem jmd{dz:Addr}{kvs:List (Key×V)}{q0:Rat}(d:Rd H a (.dK kvs))(A:FD H kvs φ)(e:qb8 H dz q0)(h:∀b,qb8 H b ((φ z).getD q0)->Q (.ref b) H):rDG a (.str z) (.ref dz) H Q:=by
 refine⟨qcp kvs (uE z),.inl ⟨kvs,uE z,d,rfl,rfl⟩,?_⟩
 cases c:φ z with
 |none=>rw[A.no z c];rw[c] at h;exact h dz e
 |some q=>
  obtain⟨b,e1,e2⟩:=A.get z q c;rw[e1];rw[c] at h;exact h b e2
theorem joh{V:List Str}{h:Str}{q0:Rat}(e:(¬∃n∈V,h∈D.ln n)->g h=q0):(onF D V g h).getD q0=g h:=by
 unfold onF;by_cases c:∃n∈V,h∈D.ln n
 .rw[gL c];rfl
 .rw[gK c];exact(e c).symm
def Sb4(a b c e:Addr)(H H':Hp):Prop:=∀y u,y≠a->y≠b->y≠c->y≠e->H y=some u->H' y=some u
inductive jdr(K:uX)(d:Ad)(vs:List V)(H:Hp)(Q:VK)(E:XK):Prop
 |mk(x dx t dr ds dg:Addr)(S:Ts)(D:Dl)(lv:Str->Rat)(ks kg:List (Key×V))(_:vs=[.ref x,.ref t,.ref dr,.ref ds,.ref dg])(_:H x=some (.ins d.w02 dx []))(_:jak D)(_:(∃H0,jab H0 H/\H0 x=none/\H0 ds=none/\TrD d H0 t S D))(_:LvB D lv)(_:H ds=some (.dK ks))(_:FD H ks (qc4 D.W0 (shQ D lv)))(_:(∃fs:List Str,ks.map (·.1)=fs.map uE/\fs.Perm D.W0))(_:H dg=some (.dK kg))(_:AD kg (qbu D.W0 D.wt))(_:dg≠ds)(_:∀(dlv dto dtp:Addr)(klv kto ktp:List (Key×V))(tp:Str->Rat) H',SameBut x H H'->H' x=some (.ins d.w02 dx (fsS t dr dlv dto dtp))->H' dlv=some (.dK klv)->FD H' klv (qc4 D.W0 lv)->H' dto=some (.dK kto)->FD H' kto (onF D D.W0 (toQ D lv D.W0))->H' dtp=some (.dK ktp)->FD H' ktp (onF D D.W0 tp)->Top D D.W0 lv tp->H dlv=none->H dto=none->H dtp=none->Q .non H')
include T in
theorem w87:jac P w K mg base (My.CX1 P w) 6 d.w6p d.w4x ["self","tree","rooms","shares","weights"] (jdr K d):=by
 exists okX T.we8 w3r
 .right
 obtain⟨x,dx,t,dr,ds,dg,S,D,lv,ks,kg,rfl,hx,ok,⟨H0,s0,f0x,f0s,hT0⟩,hB,hs,hsF,⟨fs,efs,pfs⟩,hg,hgA,ngs,q⟩:=h;refine⟨_,(qa2 (qcj (pv 0) (pv 1) rfl)
  (qa2 (qcj (pv 0) (pv 2) rfl)
  (qa2 (qcj (pv 0) qb7 rfl)
  (qa2 (qcj (pv 0) qb7 rfl)
  (qa2 (qcj (pv 0) qb7 rfl)
  (qa6 (qdx (qb1 (qbj rfl rfl) rfl (qck (pv 3)) (qab (i:=5) w3r.nd rfl (uD rfl)) (qa2 (qae (i:=6) w3r.nd rfl (uD rfl) (qaz ((wat T).mono ∅) hr rfl T.wc1 T.w9y.kp T.wck .nil qau #[pv 3|||pv 5,qbc #[pv 4|||pv 5,qa5]]))
  (qa2 (qb2 (qap hr) (qay (pv 0) rfl) (pv 5) (pv 6) rfl)
  (qa6 (qb1 (qbj rfl rfl) rfl (qaw (qb6 (pv 1) T.w03 T.w0i ((w24 T).mono ∅) hr T.w2i .nil qau #[pv 5])) (qab (i:=7) w3r.nd rfl (uD rfl)) (qa2 (qb2 (qap hr) (qay (pv 0) rfl) (pv 7) (qaz ((wi7 T).mono ∅) hr rfl T.wj1 T.whk.kp T.wiz .nil qau #[qfa (qap hr) (qay (pv 0) rfl) (pv 7) (qbc #[qa5,qa5]) ⟨rfl,rfl,rfl,rfl⟩,pv 3|||pv 5]) rfl)
  (qa6 (qca (qb5 (qbd (qac ((w5q T).mono ∅) hr rfl T.w85 T.w68.kp T.w7w .nil qas #[qfa (qap hr) (qay (pv 0) rfl) (pv 7) (qbc #[jmq jgw qa5,qa5]) ⟨rfl,rfl,rfl,rfl⟩,pv 6])) (qa6 (qb2 (qap hr) (qay (pv 0) rfl) (pv 7) (pv 6) rfl)) qal)))))))))))))))),?_⟩
 walk_at"d"
 try dsimp only[cxC]
 refine qad (σ:=[sr x,sr t,sr dr,sr ds,sr dg,none,none,none]) rfl ?_;have cl:=T.w2f;have ct:=T.w03;have n1:qaq K d.w02 "tree":=T.w23;have n2:qaq K d.w02 "rooms":=T.w1d;have n3:qaq K d.w02 "levels":=T.w1j;have n4:qaq K d.w02 "totals":=T.w0s;have n5:qaq K d.w02 "tops":=T.w25;have nxs:ds≠x:=fun e=>by subst e;rw[hx] at hs;cases hs
 have nxg:dg≠x:=fun e=>by subst e;rw[hx] at hg;cases hg
 left;refine qec qa1 cl n2 (by show 1<1000;decide) ?_;rw[show qdw "rooms" (.ref dr) (qdw "tree" (.ref t) [])=(fsS t dr x x x).take 2 from rfl,qd1];have sb1:SameBut x H (upd H x (.ins d.w02 dx ((fsS t dr x x x).take 2))):=fun b u hb e=>by rw[qa7 hb];exact e
 have ex1:upd H x (.ins d.w02 dx ((fsS t dr x x x).take 2)) x=some (.ins d.w02 dx ((fsS t dr x x x).take 2)):=qa1;have fr1:∀b,upd H x (.ins d.w02 dx ((fsS t dr x x x).take 2)) b=none->H b=none:=fun b hb=>by
  by_cases c:b=x
  .subst c;rw[qa1] at hb;cases hb
  .rw[qa7 c] at hb;exact hb
 generalize upd H x (.ins d.w02 dx ((fsS t dr x x x).take 2))=H1 at*;left;rename_i dlv hdlv;obtain⟨sb2,ex2,e12,fr2,g1,fdlv⟩:=jey (fs':=(fsS t dr dlv x x).take 3) sb1 ex1 fr1 hdlv;refine qec (qaa ex1 hdlv) cl n3 (by show 2<1000;decide) ?_;rw[show qdw "levels" (.ref dlv) ((fsS t dr x x x).take 2)=(fsS t dr dlv x x).take 3 from rfl];generalize upd (upd H1 dlv (.dK [])) x (.ins d.w02 dx ((fsS t dr dlv x x).take 3))=H2 at*;clear sb1 ex1 fr1 hdlv;left;rename_i dto hdto;obtain⟨sb3,ex3,e23,fr3,g2,fdto⟩:=jey (fs':=(fsS t dr dlv dto x).take 4) sb2 ex2 fr2 hdto;have ntl:dto≠dlv:=fun e=>by subst e;rw[e12] at hdto;cases hdto
 have e13:upd (upd H2 dto (.dK [])) x (.ins d.w02 dx ((fsS t dr dlv dto x).take 4)) dlv=some (.dK []):=by rw[qa7 g1];exact qaa e12 hdto
 refine qec (qaa ex2 hdto) cl n4 (by show 3<1000;decide) ?_;rw[show qdw "totals" (.ref dto) ((fsS t dr dlv x x).take 3)=(fsS t dr dlv dto x).take 4 from rfl];generalize upd (upd H2 dto (.dK [])) x (.ins d.w02 dx ((fsS t dr dlv dto x).take 4))=H3 at*;clear sb2 ex2 fr2 hdto e12;left;rename_i dtp hdtp;obtain⟨sb4,ex4,e34,fr4,g3,fdtp⟩:=jey (fs':=fsS t dr dlv dto dtp) sb3 ex3 fr3 hdtp;have npl:dtp≠dlv:=fun e=>by subst e;rw[e13] at hdtp;cases hdtp
 have npt:dtp≠dto:=fun e=>by subst e;rw[e23] at hdtp;cases hdtp
 have e14:upd (upd H3 dtp (.dK [])) x (.ins d.w02 dx (fsS t dr dlv dto dtp)) dlv=some (.dK []):=by rw[qa7 g1];exact qaa e13 hdtp
 have e24:upd (upd H3 dtp (.dK [])) x (.ins d.w02 dx (fsS t dr dlv dto dtp)) dto=some (.dK []):=by rw[qa7 g2];exact qaa e23 hdtp
 refine qec (qaa ex3 hdtp) cl n5 (by show 4<1000;decide) ?_;rw[show qdw "tops" (.ref dtp) ((fsS t dr dlv dto x).take 4)=fsS t dr dlv dto dtp from rfl];generalize upd (upd H3 dtp (.dK [])) x (.ins d.w02 dx (fsS t dr dlv dto dtp))=H4 at*;clear sb3 ex3 fr3 hdtp e13 e23 fr4;have hs4:=sb4 _ _ nxs hs;have hg4:=sb4 _ _ nxg hg;have nsl:dlv≠ds:=fun e=>by subst e;rw[fdlv] at hs;cases hs
 have nst:dto≠ds:=fun e=>by subst e;rw[fdto] at hs;cases hs
 have nsp:dtp≠ds:=fun e=>by subst e;rw[fdtp] at hs;cases hs
 have ngl:dg≠dlv:=fun e=>by subst e;rw[fdlv] at hg;cases hg
 have ngt:dg≠dto:=fun e=>by subst e;rw[fdto] at hg;cases hg
 have ngp:dg≠dtp:=fun e=>by subst e;rw[fdtp] at hg;cases hg
 have klen:ks.length=fs.length:=by have:=congrArg wG efs;rw[zB,zB] at this;exact this
 have fsnd:fs.Nodup:=pfs.nodup_iff.mpr ok.nd;have fsub:∀n∈fs,n∈D.W0:=fun n hn=>pfs.mem_iff.mp hn;have f7:fs.length<=7:=by rw[pfs.length_eq];exact ok.l8
 have f0l:H0 dlv=none:=s0.free fdlv;have f0t:H0 dto=none:=s0.free fdto;have f0p:H0 dtp=none:=s0.free fdtp;left;refine qf1 hs4 fun o=>?_;refine qe0 (fun i σ H'=>∃(klv kto ktp:List (Key×V))(tp:Str->Rat)(w1 w2 w3:Option V),σ=[sr x,sr t,sr dr,sr ds,sr dg,w1,w2,w3]/\Sb4 ds dlv dto dtp H4 H'/\H' ds=some (.frz o (.dK ks))/\H' dlv=some (.dK klv)/\H' dto=some (.dK kto)/\H' dtp=some (.dK ktp)/\FD H' klv (qc4 (fs.take i) lv)/\FD H' kto (onF D (fs.take i) (toQ D lv (fs.take i)))/\FD H' ktp (onF D (fs.take i) tp)/\Top D (fs.take i) lv tp/\klv.length<=i/\kto.length<=20*i/\ktp.length<=20*i)
  ⟨[],[],[],fun _=>0,none,none,none,rfl,fun b u n1 _ _ _ e=>by rw[qa7 n1];exact e,qa1,by rw[qa7 nsl];exact e14,by rw[qa7 nst];exact e24,by rw[qa7 nsp];exact e34,FD.nil.cast fun z=>rfl,FD.nil.cast fun z=>(gK fun⟨n,hn,_⟩=>by simp at hn).symm,FD.nil.cast fun z=>(gK fun⟨n,hn,_⟩=>by simp at hn).symm,⟨fun h ⟨n,hn,_⟩=>by simp at hn,fun h n hn=>by simp at hn⟩,uF _,uF _,uF _⟩ ?_ ?_ ?_
 .rintro i σ H' _ ⟨klv,kto,ktp,tp,w1,w2,w3,rfl,sb,fz,_⟩;exact fz
 .rintro i k v σ H' hk ⟨klv,kto,ktp,tp,w1,w2,w3,rfl,sb,fz,elv,eto,etp,hlv,hto,htp,hT,z1,z2,z3⟩;obtain⟨n,a,q0,rfl,rfl,hfr,hf⟩:=hsF.at hk;have hi:i<fs.length:=by rw[<-klen];exact(uL.mp hk).1
  have hni:fs[i]?=some n:=by
   have h1:(ks.map (·.1))[i]?=some (uE n):=by rw[zC,hk];rfl
   rw[efs,zC] at h1;obtain⟨m,hm,e⟩:=uH.mp h1;rw[hm,yW e]
  have hn0:=fsub n (zE hni);have eq0:q0=shQ D lv n:=by rw[qbb hn0] at hf;exact(uU hf).symm
  subst eq0;have etk:fs.take (i+1)=fs.take i++[n]:=by rw[zM,hni];rfl
  have hRs:Rd H' ds (.dK ks):=.inr ⟨o,fz⟩;have t4:qav H H':=fun a xs e=>sb a _ (fun z=>by subst z;rw[hs] at e;cases e) (fun z=>by subst z;rw[fdlv] at e;cases e) (fun z=>by subst z;rw[fdto] at e;cases e) (fun z=>by subst z;rw[fdtp] at e;cases e) (sb4 _ _ (fun z=>by subst z;rw[hx] at e;cases e) e);have hFs:=hsF.t t4;have hRg:Rd H' dg (.dK kg):=.inl (sb _ _ ngs ngl ngt ngp hg4);have gw:qbu D.W0 D.wt n=some (D.wt n):=qba hn0;have ex':=sb _ _ nxs.symm g1.symm g2.symm g3.symm ex4;have wa1:=ok.w1 n hn0;have wa2:=ok.w2 n hn0;have zl:klv.length<sizeLine:=by show _<16777216;omega
  show qe6 _ (.str n) _ _ _;left;refine qcg hRs hFs (qbb hn0) fun sa hsa=>?_;left;rename_i tp1 htp1;have s5:=qa4 htp1 (.tup [V.int (D.wt n),V.int 1]);have hfr5:qb8 (upd H' tp1 (.tup [V.int (D.wt n),V.int 1])) tp1 ((D.wt n:Int):Rat):=qct qa1;generalize upd H' tp1 (.tup [V.int (D.wt n),V.int 1])=H5 at*;have wq:=(wtQ ok hn0).1;refine⟨sa,tp1,_,_,rfl,s5 _ _ hsa,hfr5,hB.rs n hn0,qfj (uO (show(D.wt n).natAbs<=1000 by omega) ∅),by grind,fun r hr=>?_⟩;rw[jr0 ok hn0];have s6:=s5.trans (qa4 hr (frO (lv n)));have hl6:qb8 (upd H5 r (frO (lv n))) r (lv n):=qa1;generalize upd H5 r (frO (lv n))=H6 at*;have ex6:=s6 _ _ ex';have elv6:=s6 _ _ elv;clear hr htp1 s5 hfr5 hsa;obtain⟨e,ae,ew,hlN⟩:=hT0.ln n hn0;have lz:=ok.lz n hn0;have lnd:=ok.ld n hn0;have sT:jab H0 (upd H6 dlv (.dK (qbh klv (uE n) (.ref r)))):=fun b u e=>by
   rw[qa7 fun z=>by subst z;rw[f0l] at e;cases e];exact s6 _ _ (sb b u (fun z=>by subst z;rw[f0s] at e;cases e) (fun z=>by subst z;rw[f0l] at e;cases e) (fun z=>by subst z;rw[f0t] at e;cases e) (fun z=>by subst z;rw[f0p] at e;cases e) (sb4 b u (fun z=>by subst z;rw[f0x] at e;cases e) (s0 b u e)))
  obtain⟨tx,ht⟩:=id (hT0.tr.same sT).1;have lput:=qb0 klv (uE n) (.ref r);have t6:qav H' (upd H6 dlv (.dK (qbh klv (uE n) (.ref r)))):=(qav.of s6).trans (qav.upd elv6 fun xs e=>by cases e);have hlv7:FD (upd H6 dlv (.dK (qbh klv (uE n) (.ref r)))) (qbh klv (uE n) (.ref r)) (qc4 (fs.take (i+1)) lv):=(((hlv.t (qav.of s6)).put n hl6).t (qav.upd elv6 fun xs e=>by cases e)).cast fun y=>by
   have tk:y∈fs.take (i+1)↔y∈fs.take i\/y=n:=qat hni y;unfold qc4;by_cases c:y=n
   .rw[gL c,gL (tk.mpr (.inr c)),c]
   .rw[gK c];by_cases c2:y∈fs.take i
    .rw[gL c2,gL (tk.mpr (.inl c2))]
    .rw[gK c2,gK fun h'=>(tk.mp h').elim c2 c]
  have sb7:Sb4 ds dlv dto dtp H4 (upd H6 dlv (.dK (qbh klv (uE n) (.ref r)))):=fun y u a1 a2 a3 a4 e=>by rw[qa7 a2];exact s6 _ _ (sb y u a1 a2 a3 a4 e)
  have fz7:upd H6 dlv (.dK (qbh klv (uE n) (.ref r))) ds=some (.frz o (.dK ks)):=by rw[qa7 nsl.symm];exact s6 _ _ fz
  have eto7:upd H6 dlv (.dK (qbh klv (uE n) (.ref r))) dto=some (.dK kto):=by rw[qa7 ntl];exact s6 _ _ eto
  have etp7:upd H6 dlv (.dK (qbh klv (uE n) (.ref r))) dtp=some (.dK ktp):=by rw[qa7 npl];exact s6 _ _ etp
  have ex7:upd H6 dlv (.dK (qbh klv (uE n) (.ref r))) x=some (.ins d.w02 dx (fsS t dr dlv dto dtp)):=by rw[qa7 g1.symm];exact ex6
  have elv7:upd H6 dlv (.dK (qbh klv (uE n) (.ref r))) dlv=some (.dK (qbh klv (uE n) (.ref r))):=qa1;have hl7:qb8 (upd H6 dlv (.dK (qbh klv (uE n) (.ref r)))) r (lv n):=qav.upd elv6 (fun xs e=>by cases e) _ _ hl6;left;generalize upd H6 dlv (.dK (qbh klv (uE n) (.ref r)))=H7 at*;have hto7:=hto.t t6;have htp7:=htp.t t6;clear sb s6 ex6 elv6 hl6 ex' hRs hFs t4 hRg hlv elv fz eto etp zl hto htp t6;refine⟨t,S,.str n,rfl,hT0.tr.same sT,.inl ⟨n,_,rfl,hlN,#[],fun ll hll=>?_⟩⟩;have s8:=qa4 hll (.lst ((D.ln n).map V.str));have ell:upd H7 ll (.lst ((D.ln n).map V.str)) ll=some (.lst ((D.ln n).map V.str)):=qa1;have sb8:Sb4 ds dlv dto dtp H4 (upd H7 ll (.lst ((D.ln n).map V.str))):=fun y u a1 a2 a3 a4 e=>s8 _ _ (sb7 y u a1 a2 a3 a4 e);have fz8:=s8 _ _ fz7;have eto8:=s8 _ _ eto7;have etp8:=s8 _ _ etp7;have ex8:=s8 _ _ ex7;have elv8:=s8 _ _ elv7;have hl8:qb8 _ r (lv n):=s8 _ _ hl7;have hlv8:=hlv7.t (qav.of s8);have hto8:=hto7.t (qav.of s8);have htp8:=htp7.t (qav.of s8);generalize upd H7 ll (.lst ((D.ln n).map V.str))=H8 at*;clear sb7 fz7 eto7 etp7 ex7 elv7 hl7 hlv7 hto7 htp7 s8 hll ht sT;have t8:qav H H8:=fun a xs e=>sb8 a _ (fun z=>by subst z;rw[hs] at e;cases e) (fun z=>by subst z;rw[fdlv] at e;cases e) (fun z=>by subst z;rw[fdto] at e;cases e) (fun z=>by subst z;rw[fdtp] at e;cases e) (sb4 _ _ (fun z=>by subst z;rw[hx] at e;cases e) e);have hFs8:=hsF.t t8;have nlo:ll≠dto:=fun z=>by subst z;rw[ell] at eto8;cases eto8
  have nlp:ll≠dtp:=fun z=>by subst z;rw[ell] at etp8;cases etp8
  have nrt:r≠dto:=fun z=>by subst z;unfold qb8 at hl8;rw[eto8] at hl8;cases hl8
  have nrp:r≠dtp:=fun z=>by subst z;unfold qb8 at hl8;rw[etp8] at hl8;cases hl8
  left;refine qbp (xs:=(D.ln n).map V.str) (fun j σ Hx=>∃(kto' ktp':List (Key×V))(w3:Option V),σ=[sr x,sr t,sr dr,sr ds,sr dg,some (.str n),sr r,w3]/\Sb2 dto dtp H8 Hx/\Hx dto=some (.dK kto')/\Hx dtp=some (.dK ktp')/\FD Hx kto' (fun h=>if h∈(D.ln n).take j then some (toQ D lv (fs.take i) h+shQ D lv n) else onF D (fs.take i) (toQ D lv (fs.take i)) h)/\FD Hx ktp' (fun h=>if h∈(D.ln n).take j then some (tpN D (fs.take i) lv tp n h) else onF D (fs.take i) tp h)/\kto'.length<=20*i+j/\ktp'.length<=20*i+j) ⟨kto,ktp,_,rfl,fun b u _ _ e=>e,eto8,etp8,hto8.cast fun z=>by simp,htp8.cast fun z=>by simp,#[],#[]⟩ ?_ ?_ ?_
  .rintro j σ Hx _ ⟨kto',ktp',w3,rfl,s9,_⟩;exact SqL.of (s9 _ _ nlo nlp ell)
  .rintro j v σ Hx hv ⟨kto',ktp',w3,rfl,s9,eto9,etp9,hto9,htp9,z4,z5⟩;rw[zC] at hv;obtain⟨h,hh,rfl⟩:=uH.mp hv;have hj:=(uL.mp hh).1;have hhl:=zE hh;have hnt:h∉(D.ln n).take j:=qgo lnd hh;have tk:∀y,y∈(D.ln n).take (j+1)↔y∈(D.ln n).take j\/y=h:=qat hh;have ex9:=s9 _ _ g2.symm g3.symm ex8;have hRt:Rd Hx dto (.dK kto'):=.inl eto9;have ftk:∀m∈fs.take i,m∈D.W0:=fun m hm=>fsub m (zX hm);have rto:=hB.rt (fs.take i) (fsnd.sublist (fL _ _)) ftk h;have rsh:=hB.rs n hn0;have rlv:=hB.rl n hn0;have rlA:=hB.rl;have lv0:=hB.l0 n hn0;have fz9:=s9 _ _ nst.symm nsp.symm fz8;have tS9:qav H8 Hx:=fun a xs e=>s9 a _ (fun z=>by subst z;rw[eto8] at e;cases e) (fun z=>by subst z;rw[etp8] at e;cases e) e;have hFs9:=hFs8.t tS9;have hl9:qb8 Hx r (lv n):=tS9 _ _ hl8;have z6:kto'.length<sizeLine:=by show _<16777216;omega
   have z7:ktp'.length<sizeLine:=by show _<16777216;omega
   have lput1:=fun v=>qb0 kto' (uE h) v;have lput2:=fun v=>qb0 ktp' (uE h) v;clear hv hlv8 hto8 htp8 hFs8 hl8 elv8 ex8 sb8 etk hni hk hgA hg4 hs4 sb4 ex4 e14 e24 e34 t8 tS9 fz8 eto8 etp8 q;clear hB hsF hT0 f0x f0s s0 f0l f0t f0p efs pfs klen fsnd fsub hf hfr gw hlN ae ew ngl ngt ngp nsl;left;rename_i p1 hp1;have s10:=qa4 hp1 (.tup [V.int 0,V.int 1]);have hz1:qb8 (upd Hx p1 (.tup [V.int 0,V.int 1])) p1 ((0:Int):Rat):=qct qa1;generalize upd Hx p1 (.tup [V.int 0,V.int 1])=Hy at*;refine jmd (.inl (s10 _ _ eto9)) (hto9.t (qav.of s10)) hz1 fun b hb=>?_;rw[gK hnt,joh (q0:=((0:Int):Rat)) fun c=>(jf3 c).trans rfl] at hb;left;refine qcg (.inr ⟨o,s10 _ _ fz9⟩) (hFs9.t (qav.of s10)) (qbb hn0) fun sa hsa=>?_;left;refine⟨b,sa,_,_,rfl,hb,hsa,rto,rsh,fun r2 hr2=>?_⟩;have s11:=s10.trans (qa4 hr2 (frO (toQ D lv (fs.take i) h+shQ D lv n)));have hq2:qb8 (upd Hy r2 (frO (toQ D lv (fs.take i) h+shQ D lv n))) r2 (toQ D lv (fs.take i) h+shQ D lv n):=qa1;generalize upd Hy r2 (frO (toQ D lv (fs.take i) h+shQ D lv n))=Hz at*;clear hr2 hp1 hz1 hb hsa s10 hRt rto rsh fz9 hFs9;have ex11:=s11 _ _ ex9;have eto11:=s11 _ _ eto9;have etp11:=s11 _ _ etp9;have hto11:=(hto9.t (qav.of s11)).put h hq2;have htp11:=htp9.t (qav.of s11);have hl11:qb8 Hz r (lv n):=s11 _ _ hl9;clear ex9 eto9 etp9 hto9 htp9 hl9;have z8:=lput1 (.ref r2);clear lput1;left;have t12:qav Hz (upd Hz dto (.dK (qbh kto' (uE h) (.ref r2)))):=qav.upd eto11 fun xs e=>by cases e
   have sb12:Sb2 dto dtp H8 (upd Hz dto (.dK (qbh kto' (uE h) (.ref r2)))):=fun b u a1 a2 e=>by rw[qa7 a1];exact s11 _ _ (s9 b u a1 a2 e)
   have eto12:upd Hz dto (.dK (qbh kto' (uE h) (.ref r2))) dto=some (.dK (qbh kto' (uE h) (.ref r2))):=qa1;have etp12:upd Hz dto (.dK (qbh kto' (uE h) (.ref r2))) dtp=some (.dK ktp'):=by rw[qa7 npt];exact etp11
   have ex12:upd Hz dto (.dK (qbh kto' (uE h) (.ref r2))) x=some (.ins d.w02 dx (fsS t dr dlv dto dtp)):=by rw[qa7 g2.symm];exact ex11
   have hto12:FD (upd Hz dto (.dK (qbh kto' (uE h) (.ref r2)))) (qbh kto' (uE h) (.ref r2)) (fun h=>if h∈(D.ln n).take (j+1) then some (toQ D lv (fs.take i) h+shQ D lv n) else onF D (fs.take i) (toQ D lv (fs.take i)) h):=(hto11.t t12).cast fun y=>by
    try dsimp only
    by_cases c:y=h
    .rw[gL c,gL ((tk y).mpr (.inr c)),c]
    .rw[gK c];by_cases c2:y∈(D.ln n).take j
     .rw[gL c2,gL ((tk y).mpr (.inl c2))]
     .rw[gK c2,gK fun h'=>((tk y).mp h').elim c2 c]
   have htp12:=htp11.t t12;have hl12:qb8 _ r (lv n):=t12 _ _ hl11;generalize upd Hz dto (.dK (qbh kto' (uE h) (.ref r2)))=H9 at*;generalize qbh kto' (uE h) (.ref r2)=kto9 at*;clear ex11 eto11 etp11 hto11 htp11 hl11 t12 s11 hq2 s9;have hRp:Rd H9 dtp (.dK ktp'):=.inl etp12;refine qd4 ?_;left;rename_i p2 hp2;have s13:=qa4 hp2 (.tup [V.int (-1),V.int 1]);have hz2:qb8 (upd H9 p2 (.tup [V.int (-1),V.int 1])) p2 (((-1:Int)):Rat):=qct qa1;generalize upd H9 p2 (.tup [V.int (-1),V.int 1])=Hw at*;refine jmd (.inl (s13 _ _ etp12)) (htp12.t (qav.of s13)) hz2 fun b hb=>?_;rw[gK hnt] at hb;have hl13:qb8 Hw r (lv n):=s13 _ _ hl12;have ex13:=s13 _ _ ex12;have etp13:=s13 _ _ etp12;have htp13:=htp12.t (qav.of s13);have m1:(((-1:Int)):Rat)<lv n:=by
    have:(((-1:Int)):Rat)<0:=∅
    grind
   have rtp:RB ((onF D (fs.take i) tp h).getD (((-1:Int)):Rat)):=by
    unfold onF;by_cases c:∃n∈fs.take i,h∈D.ln n
    .rw[gL c];obtain⟨m,hm,_,e⟩:=hT.ex h c;show RB (tp h);rw[e];exact rlA m (ftk m hm)
    .rw[gK c];exact qfj (z:=-1) ∅
   clear hp2 hz2 hl12 ex12 etp12 hRp;left;refine⟨b,r,_,_,rfl,hb,hl13,rtp,rlv,?_⟩;by_cases c:(onF D (fs.take i) tp h).getD (((-1:Int)):Rat)<lv n
   .rw[gM c];have tn:tpN D (fs.take i) lv tp n h=lv n:=by
     unfold tpN;by_cases c2:∃m∈fs.take i,h∈D.ln m
     .unfold onF at c;rw[gL c2] at c;have c:tp h<lv n:=c;rw[gL c2,gL c]
     .rw[gK c2]
    have z9:=lput2 (.ref r);clear lput2 htp12 rtp hb;left;have t14:qav Hw (upd Hw dtp (.dK (qbh ktp' (uE h) (.ref r)))):=qav.upd etp13 fun xs e=>by cases e
    refine⟨kto9,_,_,rfl,fun b u a1 a2 e=>by rw[qa7 a2];exact s13 _ _ (sb12 b u a1 a2 e),by rw[qa7 npt.symm];exact s13 _ _ eto12,qa1,(hto12.t (qav.of s13)).t t14,((htp13.put h hl13).t t14).cast fun y=>?_,#[],#[]⟩
    try dsimp only
    by_cases c3:y=h
    .rw[gL c3,gL ((tk y).mpr (.inr c3)),c3,tn]
    .rw[gK c3];by_cases c2:y∈(D.ln n).take j
     .rw[gL c2,gL ((tk y).mpr (.inl c2))]
     .rw[gK c2,gK fun h'=>((tk y).mp h').elim c2 c3]
   .rw[gO c];have c2:∃m∈fs.take i,h∈D.ln m:=uR fun c2=>c (by unfold onF;rw[gK c2];exact m1);have tn:onF D (fs.take i) tp h=some (tpN D (fs.take i) lv tp n h):=by
     unfold onF at c⊢;unfold tpN;rw[gL c2] at c;have c:¬tp h<lv n:=c;rw[gL c2,gL c2,gK c]
    clear lput2 htp12 rtp hb;left;refine⟨kto9,ktp',_,rfl,fun b u a1 a2 e=>s13 _ _ (sb12 b u a1 a2 e),s13 _ _ eto12,etp13,hto12.t (qav.of s13),htp13.cast fun y=>?_,#[],#[]⟩
    try dsimp only
    by_cases c3:y=h
    .rw[c3,gK hnt,gL ((tk h).mpr (.inr rfl)),tn]
    .by_cases c2:y∈(D.ln n).take j
     .rw[gL c2,gL ((tk y).mpr (.inl c2))]
     .rw[gK c2,gK fun h'=>((tk y).mp h').elim c2 c3]
  .rintro σ Hx ⟨kto',ktp',w3',rfl,s9,eto9,etp9,hto9,htp9,z4,z5⟩;rw[zB,zH] at hto9 htp9;rw[zB] at z4 z5;have tS9:qav H8 Hx:=fun a xs e=>s9 a _ (fun z=>by subst z;rw[eto8] at e;cases e) (fun z=>by subst z;rw[etp8] at e;cases e) e;refine⟨_,kto',ktp',fun h=>if h∈D.ln n then tpN D (fs.take i) lv tp n h else tp h,_,_,_,rfl,fun y u a1 a2 a3 a4 e=>s9 _ _ a3 a4 (sb8 y u a1 a2 a3 a4 e),s9 _ _ nst.symm nsp.symm fz8,s9 _ _ ntl.symm npl.symm elv8,eto9,etp9,hlv8.t tS9,hto9.cast fun h=>?_,htp9.cast fun h=>?_,?_,#[],#[],#[]⟩
   .unfold onF;rw[etk,jog];by_cases c:h∈D.ln n
    .rw[gL c,gL (qfz.mpr (.inr c)),gL c]
    .rw[gK c,gK c];by_cases c2:∃m∈fs.take i,h∈D.ln m
     .rw[gL c2,gL (qfz.mpr (.inl c2))];congr 1;grind
     .rw[gK c2,gK fun z=>(qfz.mp z).elim c2 c]
   .unfold onF;dsimp only;rw[etk];by_cases c:h∈D.ln n
    .rw[gL c,gL (qfz.mpr (.inr c)),gL c]
    .rw[gK c,gK c];by_cases c2:∃m∈fs.take i,h∈D.ln m
     .rw[gL c2,gL (qfz.mpr (.inl c2))]
     .rw[gK c2,gK fun z=>(qfz.mp z).elim c2 c]
   .rw[etk];exact hT.app n
 rintro σ H' ⟨klv,kto,ktp,tp,w1,w2,w3,rfl,sb,fz,elv,eto,etp,hlv,hto,htp,hT,z1,z2,z3⟩;refine qdu (qf0 fz (qce hs)) ?_;rw[klen,zH] at hlv hto htp hT;have t1:qav H' (upd H' ds (.dK ks)):=qav.upd fz fun xs e=>by cases e
 refine q dlv dto dtp klv kto ktp tp _ (fun b u hb e=>?_) (by rw[qa7 nxs.symm];exact sb _ _ nxs.symm g1.symm g2.symm g3.symm ex4) (by rw[qa7 nsl];exact elv) ((hlv.t t1).cast fun z=>?_) (by rw[qa7 nst];exact eto) ((hto.t t1).cast fun z=>?_) (by rw[qa7 nsp];exact etp) ((htp.t t1).cast fun z=>?_) ?_ fdlv fdto fdtp
 .by_cases c:b=ds
  .subst c;rw[qa1,<-hs];exact e
  .rw[qa7 c];exact sb b u c (fun z=>by subst z;rw[fdlv] at e;cases e) (fun z=>by subst z;rw[fdto] at e;cases e) (fun z=>by subst z;rw[fdtp] at e;cases e) (sb4 b u hb e)
 .unfold qc4;by_cases c:z∈D.W0
  .rw[gL c,gL (pfs.mem_iff.mpr c)]
  .rw[gK c,gK fun h=>c (pfs.mem_iff.mp h)]
 .unfold onF;rw[show toQ D lv fs z=toQ D lv D.W0 z from jdq pfs];by_cases c:∃n∈D.W0,z∈D.ln n
  .rw[gL c,gL (c.elim fun n h=>⟨n,pfs.mem_iff.mpr h.1,h.2⟩)]
  .rw[gK c,gK fun h=>c (h.elim fun n h=>⟨n,pfs.mem_iff.mp h.1,h.2⟩)]
 .unfold onF;by_cases c:∃n∈D.W0,z∈D.ln n
  .rw[gL c,gL (c.elim fun n h=>⟨n,pfs.mem_iff.mpr h.1,h.2⟩)]
  .rw[gK c,gK fun h=>c (h.elim fun n h=>⟨n,pfs.mem_iff.mp h.1,h.2⟩)]
 .exact⟨fun h ⟨n,hn,hl⟩=>(hT.ex h ⟨n,pfs.mem_iff.mpr hn,hl⟩).elim fun m hm=>⟨m,pfs.mem_iff.mp hm.1,hm.2⟩,fun h n hn hl=>hT.ge h n (pfs.mem_iff.mpr hn) hl⟩
open Classical in
noncomputable def stB(D:Dl)(lv:Str->Rat)(n h:Str):Bool:=decide (toQ D lv D.W0 h=(D.rm h:Rat)/\∀m∈D.W0,h∈D.ln m->lv m<=lv n)
structure jme(d:Ad)(H:Hp)(sm t dr dlv dto dtp:Addr)(S:Ts)(D:Dl)(HS:List Str)(kr klv kto ktp:List (Key×V))(lv tp:Str->Rat):Prop where
 ob:∃dx,H sm=some (.ins d.w02 dx (fsS t dr dlv dto dtp))
 tr:TrD d H t S D
 r:H dr=some (.dK kr)
 rA:AD kr (qbu HS D.rm)
 l:H dlv=some (.dK klv)
 lA:FD H klv (qc4 D.W0 lv)
 o:H dto=some (.dK kto)
 oA:FD H kto (onF D D.W0 (toQ D lv D.W0))
 p:H dtp=some (.dK ktp)
 pA:FD H ktp (onF D D.W0 tp)
 top:Top D D.W0 lv tp
 b:LvB D lv
 hs:∀n∈D.W0,∀h∈D.ln n,h∈HS
theorem jme.same{d:Ad}{H H':Hp}{sm t dr dlv dto dtp:Addr}{S:Ts}{D:Dl}{HS:List Str}{kr klv kto ktp:List (Key×V)}{lv tp:Str->Rat}(h:jme d H sm t dr dlv dto dtp S D HS kr klv kto ktp lv tp)(s:jab H H'):jme d H' sm t dr dlv dto dtp S D HS kr klv kto ktp lv tp:=
 ⟨h.ob.elim fun dx e=>⟨dx,s _ _ e⟩,h.tr.same s,s _ _ h.r,h.rA,s _ _ h.l,h.lA.t (qav.of s),s _ _ h.o,h.oA.t (qav.of s),s _ _ h.p,h.pA.t (qav.of s),h.top,h.b,h.hs⟩
def jjh{V:List Str}{h n:Str}(hn:n∈V)(hl:h∈D.ln n):onF D V g h=some (g h):=gL ⟨n,hn,hl⟩
inductive jb5(K:uX)(d:Ad)(vs:List V)(H:Hp)(Q:VK)(E:XK):Prop
 |mk(sm t dr dlv dto dtp:Addr)(S:Ts)(D:Dl)(HS:List Str)(kr klv kto ktp:List (Key×V))(lv tp:Str->Rat)(n:Str)(_:vs=[.ref sm,.str n])(_:jak D)(_:jme d H sm t dr dlv dto dtp S D HS kr klv kto ktp lv tp)(_:n∈D.W0)(_:∀l H',jab H H'->H l=none->H' l=some (.lst (((D.ln n).filter (stB D lv n)).map V.str))->Q (.ref l) H')
include T in
theorem w4p:jac P w K mg base (My.CX1 P w) 6 d.w3i d.w2s ["self","name"] (jb5 K d):=by
 exists okX T.w9t w1x
 .right
 obtain⟨sm,t,dr,dlv,dto,dtp,S,D,HS,kr,klv,kto,ktp,lv,tp,n,rfl,ok,hS,hn0,q⟩:=h;refine⟨_,(qa2 (qae (i:=2) w1x.nd rfl (uD rfl) (qc2 qa3))
  (qa2 (qb1 (qbj rfl rfl) rfl (qaw (qb6 (qay (pv 0) rfl) T.w03 T.w0i ((w24 T).mono ∅) hr T.w2i .nil qau #[pv 1])) (qab (i:=3) w1x.nd rfl (uD rfl)) (qa2 (qae (i:=4) w1x.nd rfl (uD rfl) (qcr (jhw (hu8 hr)) (qay (pv 0) rfl|||pv 3) (qbc #[qay (pv 0) rfl|||pv 3,qa5]) (qar _)))
  (qa6 (qca (qb5 (PW.pt (qg7 (qbd (pv 4)) (qep (qc1 (qbd (qac ((w5q T).mono ∅) hr rfl T.w85 T.w68.kp T.w7w .nil qas #[qay (pv 0) rfl|||pv 1,qay (pv 0) rfl|||pv 3])))))) (qa6 (qbq (qf2 vT wL wM qcf (pv 2) #[pv 3]))) qal)))))
  (qa6 (qaf (pv 2))))),?_⟩
 walk_at"d"
 try dsimp only[cxC]
 refine qad (σ:=[sr sm,some (.str n),none,none,none]) rfl ?_;have cl:=T.w2f;have ct:=T.w03;have n1:qaq K d.w02 "tree":=T.w23;have n2:qaq K d.w02 "rooms":=T.w1d;have n3:qaq K d.w02 "levels":=T.w1j;have n4:qaq K d.w02 "totals":=T.w0s;have n5:qaq K d.w02 "tops":=T.w25;obtain⟨dx,ho⟩:=hS.ob;obtain⟨e,ae,ew,hlN⟩:=hS.tr.ln n hn0;have lz:=ok.lz n hn0;left;rename_i l hl;have s1:=qa4 hl (.lst []);have el1:upd H l (.lst []) l=some (.lst []):=qa1;have ho1:=s1 _ _ ho;have hS1:=hS.same s1;generalize upd H l (.lst [])=H1 at*;obtain⟨tx,ht⟩:=id hS1.tr.tr.1;left;refine⟨t,S,.str n,rfl,hS1.tr.tr,.inl ⟨n,_,rfl,hlN,#[],fun ll hll=>?_⟩⟩;have s2:=s1.trans (qa4 hll (.lst ((D.ln n).map V.str)));have ell:upd H1 ll (.lst ((D.ln n).map V.str)) ll=some (.lst ((D.ln n).map V.str)):=qa1;have el2:=qaa (o':=.lst ((D.ln n).map V.str)) el1 hll;have nll:ll≠l:=fun z=>by subst z;rw[el1] at hll;cases hll
 generalize upd H1 ll (.lst ((D.ln n).map V.str))=H2 at*;clear hll el1 ht ho1 hS1;left;refine qbp (xs:=(D.ln n).map V.str) (fun i σ H'=>∃(w1 w2:Option V),σ=[sr sm,some (.str n),sr l,w1,w2]/\jab H H'/\H' ll=some (.lst ((D.ln n).map V.str))/\H' l=some (.lst ((((D.ln n).take i).filter (stB D lv n)).map V.str))) ⟨none,none,rfl,s2,ell,el2⟩ ?_ ?_ ?_
 .rintro i σ H' _ ⟨w1,w2,rfl,_,e,_⟩;exact SqL.of e
 .rintro i v σ H' hv ⟨w1,w2,rfl,sm',ell',el'⟩;rw[zC] at hv;obtain⟨h,hh,rfl⟩:=uH.mp hv;have hi:=(uL.mp hh).1;have hhl:=zE hh;have etk:(D.ln n).take (i+1)=(D.ln n).take i++[h]:=by rw[zM,hh];rfl
  have hS':=hS.same sm';have ho':=sm' _ _ ho;have hRo:Rd H' dto (.dK kto):=.inl hS'.o;have hRr:Rd H' dr (.dK kr):=.inl hS'.r;have hrA:=hS.rA;have gr:qbu HS D.rm h=some (D.rm h):=qba (hS.hs n hn0 h hhl);have zl:((((D.ln n).take i).filter (stB D lv n)).map V.str).length<sizeLine:=by
   rw[zB];have h1:=yC (stB D lv n) ((D.ln n).take i);rw[zS] at h1;show _<16777216;omega
  have hnl:l≠sm:=fun z=>by subst z;rw[ho] at hl;cases hl
  clear hv s2 ell el2 s1;left;refine qcg hRo hS'.oA (jjh hn0 hhl) fun b hb=>?_;left;rename_i tp1 htp1;have hb1:=hb;unfold qb8 at hb1;have nb:b≠tp1:=fun z=>by subst z;rw[htp1] at hb1;cases hb1
  have s3:=qa4 htp1 (.tup [V.int (D.rm h),V.int 1]);have hfr:qb8 (upd H' tp1 (.tup [V.int (D.rm h),V.int 1])) tp1 ((D.rm h:Int):Rat):=qct qa1;generalize upd H' tp1 (.tup [V.int (D.rm h),V.int 1])=H3 at*;refine jnj nb ∅ (jjg (s3 _ _ hb) hfr nb) ?_;have ho3:=s3 _ _ ho';have el3:=s3 _ _ el';have ell3:=s3 _ _ ell';have hS3:=hS'.same s3;have s4:=sm'.trans s3;have hRl:Rd H3 dlv (.dK klv):=.inl hS3.l;clear hRo hRr hb hb1 hfr htp1 ho' el' ell' hS';have hle:(∀m∈D.W0,h∈D.ln m->lv m<=lv n)↔¬lv n<tp h:=by
   obtain⟨m,hm,hml,e⟩:=hS.top.ex h ⟨n,hn0,hhl⟩;constructor
   .intro h1 h2;have:=h1 m hm hml;grind
   .intro h1 m' hm' hl';have:=hS.top.ge h m' hm' hl';grind
  have rtp:RB (tp h):=by
   obtain⟨m,hm,hml,e⟩:=hS.top.ex h ⟨n,hn0,hhl⟩;rw[e];exact hS.b.rl m hm
  by_cases c:toQ D lv D.W0 h=(D.rm h:Rat)
  .rw[gM c];left;refine qd4 ?_;left;refine qcg hRl hS3.lA (qbb hn0) fun b1 hb1=>?_;have hRp:Rd H3 dtp (.dK ktp):=.inl hS3.p;left;refine qcg hRp hS3.pA (jjh hn0 hhl) fun b2 hb2=>?_;left;refine⟨b1,b2,_,_,rfl,hb1,hb2,hS.b.rl n hn0,rtp,?_⟩;by_cases c2:lv n<tp h
   .rw[gM c2];have st:stB D lv n h=false:=gO fun z=>hle.mp z.2 c2;left;refine⟨_,_,rfl,s4,ell3,?_⟩;rw[el3,etk,yE,aO (by rw[st];simp),dI,yA]
   .rw[gO c2];have st:stB D lv n h=true:=gM ⟨c,hle.mpr c2⟩;left;refine⟨_,_,rfl,qb9 s4 hl,by rw[qa7 nll];exact ell3,?_⟩;rw[qa1,etk,yE,cR st,zI];rfl
  .rw[gO c];have st:stB D lv n h=false:=gO fun z=>c z.1;left;refine qd4 ?_;left;refine⟨_,_,rfl,s4,ell3,?_⟩;rw[el3,etk,yE,aO (by rw[st];simp),dI,yA]
 rintro σ H' ⟨w1,w2,rfl,sm',ell',el'⟩;rw[zB,zH] at el';left;exact q l H' sm' hl el'
theorem Dv.add{a b:Rat}(h:Dv N a)(h':Dv N b):Dv N (a+b):=by
 obtain⟨x,hx⟩:=h;obtain⟨y,hy⟩:=h';exact⟨x+y,by rw[xO,<-hx,<-hy];grind⟩
theorem qgh{N:Nat}{f:Str->Rat}:∀{l:List Str},(∀n∈l,Dv N (f n))->Dv N (qbz l f)
 | [],_=>⟨0,by show(0:Rat)*_=_;rw[fW];rfl⟩
 |n::l,h=>(h n (zG ..)).add (qgh fun m hm=>h m (zD _ hm))
theorem RdI.sh(ok:jak D){lf lv:Str->Rat}{M:Rat}{N:Nat}(I:RdI D [] lf lv M N){n:Str}(hn:n∈D.W0):0<=shQ D lv n/\shQ D lv n<=(D.wa n:Rat)/\(D.wa n:Rat)<=(B31:Rat):=by
 have h1:=(wtQ ok hn).1;obtain⟨h0,_,h2,_⟩:=I.st n hn (by simp);have h3:=qfx ok hn;have a1:(D.wa n:Rat)<=(B31:Rat):=by
  have h:D.wa n<=((B31:Nat):Int):=ok.a1 n hn;rw[<-uN];exact_mod_cast h
 have p:(0:Rat)<=(D.wt n:Rat):=by grind
 have m1:=wT h0 p;have m2:=wT (show 0<=goQ D n-lv n by grind) p;unfold shQ;exact⟨m1,by grind,a1⟩
theorem LvB.of(ok:jak D){lf lv:Str->Rat}{M:Rat}{N:Nat}{rs:List Rnd}(I:RdI D [] lf lv M N)(R:jex D [] lv N rs):LvB D lv:=by
 have n8:=nb8 (nb7 I.nb);have dv:∀n∈D.W0,Dv N (lv n):=fun n hn=>by
  obtain⟨r,hr,hn2⟩:=R.e n hn (by simp);rw[<-(R.m r hr n hn2).2.2];exact R.dv r hr
 have sv:∀n∈D.W0,Dv N (shQ D lv n):=fun n hn=>(dv n hn).ints _;have bb:=jje;refine⟨fun n hn=>(I.st n hn (by simp)).1,fun n hn=>?_,fun n hn=>?_,fun V nd sub h=>?_⟩
 .obtain⟨r,hr,hn2⟩:=R.e n hn (by simp);rw[<-(R.m r hr n hn2).2.2];exact R.rb r hr
 .obtain⟨a,b,c⟩:=I.sh ok hn;exact jdm I.n0 n8 jdo (sv n hn) (by grind) (by grind)
 .have h7:V.length<=7:=uY (vM nd sub) ok.l8;have h7q:((V.length:Nat):Rat)<=7:=by exact_mod_cast h7
  have d:Dv N (toQ D lv V h):=qgh fun n hn=>by
   split
   .exact sv n (sub n hn)
   .exact⟨0,by rw[fW];rfl⟩
  have lo:0<=toQ D lv V h:=qfg fun n hn=>by
   have:=(I.sh ok (sub n hn)).1
   split<;>grind
  have hi:toQ D lv V h<=((V.length:Nat):Rat)*(B31:Rat):=qdf fun n hn=>by
   obtain⟨a,b,c⟩:=I.sh ok (sub n hn)
   split<;>grind
  have m:=wT (show(0:Rat)<=7-((V.length:Nat):Rat) by grind) bb;refine jdm (B:=10^36) I.n0 n8 ∅ d ?_ ?_<;>rw[qgx]<;>grind
theorem RdI.full{M:Rat}(I:RdI D [] lf lv M N)(h:Str):lf h=(D.rm h:Rat)-toQ D lv D.W0 h:=by
 rw[I.sum h]
 congr 1
 exact qc9 fun n hn=>by
  by_cases c:h∈D.ln n
  .rw[gL ⟨by simp,c⟩,gL c];rfl
  .rw[gK fun z=>c z.2,gK c]
open Classical in
noncomputable def jez(D:Dl)(lv:Str->Rat)(n:Str):V:=if shQ D lv n=(D.wa n:Rat) then .non else match (D.ln n).filter (stB D lv n) with
 |h::_=> .str h
 | []=> .non
theorem RdI.stop(ok:jak D){lf lv:Str->Rat}{M:Rat}{N:Nat}(I:RdI D [] lf lv M N){n:Str}(hn:n∈D.W0)(c:shQ D lv n≠(D.wa n:Rat)):∃h hs,(D.ln n).filter (stB D lv n)=h::hs/\jez D lv n=.str h:=by
 have hne:(D.ln n).filter (stB D lv n)≠ []:=by
  rcases(I.st n hn (by simp)).2.2.2 with e|⟨h,hl,b1,_,b3⟩
  .exact absurd (by unfold shQ;rw[e,qfx ok hn]) c
  .refine List.ne_nil_of_mem (a:=h) (zW.mpr ⟨hl,gM ⟨?_,b3⟩⟩);have:=I.full h;grind
 cases e:(D.ln n).filter (stB D lv n) with
 |nil=>exact absurd e hne
 |cons h hs=>exact⟨h,hs,rfl,by unfold jez;rw[gK c,e]⟩
theorem FD.keys{kvs:List (Key×V)}(h:FD H kvs (qc4 W g))(nd:W.Nodup):∃fs:List Str,kvs.map (·.1)=fs.map uE/\fs.Perm W:=by
 have ex:∃fs:List Str,kvs.map (·.1)=fs.map uE:=by
  have:=h.sh;clear h nd
  induction kvs with
  |nil=>exact⟨[],rfl⟩
  |cons p l ih=>
   obtain⟨fs,e⟩:=ih fun p hp=>this p (zD _ hp);obtain⟨z,a,q,e2,_⟩:=this p (zG ..);exact⟨z::fs,by rw[zV,e,e2];rfl⟩
 obtain⟨fs,e⟩:=ex;refine⟨fs,e,?_⟩;have nf:fs.Nodup:=by
  have:=h.nd;rw[e] at this;exact(aV.mp this).imp fun a b=>a (congrArg _ b)
 refine(cD nf nd).mpr fun z=>⟨fun hz=>?_,fun hz=>?_⟩
 .have h1:(uE z:Key)∈kvs.map (·.1):=by rw[e];exact zJ.mpr ⟨z,hz,rfl⟩
  obtain⟨p,hp,e3⟩:=zJ.mp h1;obtain⟨z',a,q,e2,_,e4⟩:=h.sh p hp;rw[e2] at e3;have:z'=z:=yW e3;subst this;unfold qc4 at e4;by_cases c:z'∈W
  .exact c
  .rw[gK c] at e4;cases e4
 .obtain⟨a,e1,_⟩:=h.get z (g z) (gL hz);have h1:(uE z:Key)∈kvs.map (·.1):=zJ.mpr ⟨_,qf7 e1,rfl⟩;rw[e] at h1;obtain⟨z',hz',e3⟩:=zJ.mp h1;rw[<-yW e3];exact hz'
theorem FD.len{kvs:List (Key×V)}{V:List Str}(h:FD H kvs (qc4 V g))(sub:∀n∈V,n∈W):kvs.length<=W.length:=by
 have h1:(kvs.map (·.1)).length<=(W.map (uE:Str->Key)).length:=vM h.nd fun k hk=>by
  obtain⟨p,hp,e3⟩:=zJ.mp hk;obtain⟨z',a,q,e2,_,e4⟩:=h.sh p hp;unfold qc4 at e4;by_cases c:z'∈V
  .rw[<-e3,e2];exact zJ.mpr ⟨z',sub _ c,rfl⟩
  .rw[gK c] at e4;cases e4
 rwa [zB,zB] at h1
theorem jb4.sb1{r:Rnd}{kvs:List (Key×V)}(h:jb4 H r)(eb:H b=some (.dK kvs))(s:SameBut b H H'):jb4 H' r:=by
 have hl:=h.l;unfold qb8 at hl;exact⟨s _ _ (fun e=>by have:=h.t;rw[e,eb] at this;cases this) h.t,
  s _ _ (fun e=>by rw[e,eb] at hl;cases hl) hl,
  s _ _ (fun e=>by have:=h.n;rw[e,eb] at this;cases this) h.n⟩
theorem qfd{V:List Str}{n:Str} :qc4 (V++[n]) g y=if y=n then some (g n) else qc4 V g y:=by
 unfold qc4;by_cases c:y=n
 .rw[gL c,gL (by rw[c];simp),c]
 .rw[gK c];by_cases c2:y∈V
  .rw[gL c2,gL (zO _ c2)]
  .rw[gK c2,gK fun z=>(zN.mp z).elim c2 fun h=>c (zF.mp h)]
noncomputable def nsL(rs:List Rnd):List Str:=rs.flatMap fun r=>r.ns
structure jji(H:Hp)(D:Dl)(lv:Str->Rat)(W:List Str)(l:Addr)(as:List (Addr×Addr)):Prop where
 l:H l=some (.lst (as.map fun p=>V.ref p.1))
 n:as.length=W.length
 r:∀(i:Nat)(n:Str)(p:Addr×Addr),W[i]?=some n->as[i]?=some p->H p.1=some (.tup [.str n,.ref p.2,jez D lv n])/\qb8 H p.2 (shQ D lv n)
theorem jji.app{tr:Addr}{as:List (Addr×Addr)}{n:Str}(h:jji H D lv W l as)(t:qav H H')(el:H' l=some (.lst ((as.map fun p=>V.ref p.1)++[V.ref tr])))(et:H' tr=some (.tup [.str n,.ref b,jez D lv n]))(ef:qb8 H' b (shQ D lv n)):jji H' D lv (W++[n]) l (as++[(tr,b)]):=by
 refine⟨by rw[el,zI];rfl,by rw[zT,zT,h.n];rfl,fun i m p hm hp=>?_⟩;by_cases c:i<W.length
 .rw[xM c] at hm;rw[xM (by rw[h.n];exact c)] at hp;obtain⟨a1,a2⟩:=h.r i m p hm hp;exact⟨t _ _ a1,t _ _ a2⟩
 .rw[xK #[]] at hm;rw[xK (by rw[h.n];omega),h.n] at hp;have e0:i-W.length=0:=by
   have:=(uL.mp hm).1;rw[yD] at this;omega
  rw[e0] at hm hp;obtain rfl:n=m:=uU hm;obtain rfl:(tr,b)=p:=uU hp;exact⟨et,ef⟩
inductive joi(K:uX)(d:Ad)(vs:List V)(H:Hp)(Q:VK)(E:XK):Prop
 |mk(t dr dw:Addr)(wv:V)(S:Ts)(D:Dl)(HS:List Str)(kr kw:List (Key×V))(_:vs=[.ref t,.ref dr,.ref dw,wv])(_:jak D)(_:vX D.W0=true)(_:TrD d H t S D)(_:Wgh H S D wv)(_:H dr=some (.dK kr))(_:AD kr (qbu HS D.rm))(_:HS.Nodup)(_:HS.length<=60)(_:H dw=some (.dK kw))(_:AD kw (qbu D.W0 D.wa))(_:(∀n∈D.W0,∀h∈D.ln n,h∈HS))(_:∀(l:Addr)(as:List (Addr×Addr))(lf lv:Str->Rat)(M:Rat)(N:Nat) H',jab H H'->H l=none->RdI D [] lf lv M N->LvB D lv->(∀n∈D.W0,Dv N (lv n))->jji H' D lv D.W0 l as->Q (.ref l) H')
include T in
theorem wi3:jac P w K mg base (My.CX1 P w) 10 d.wfm d.waw ["tree","rooms","wants","weigh"] (joi K d):=by
 exists jsd T.whi w4j
 .right
 obtain⟨t,dr,dw,wv,S,D,HS,kr,kw,rfl,ok,srt,hT,hg,hr0,hrA,hsn,hsl,hw,hwA,hs,q⟩:=h;refine⟨_,(qa2 (qae (i:=4) w4j.nd rfl (uD rfl) (qaz ((w77 T).mono ∅) hr rfl T.w8j T.w58.kp T.w8d .nil qau #[pv 0,pv 2,pv 3]))
  (qa2 (qae (i:=5) w4j.nd rfl (uD rfl) qb7)
  (qa2 (qb1 (qbj rfl rfl) rfl (qaw (qaz ((wc5 T).mono ∅) hr rfl T.we0 T.w94.kp T.wdl .nil qau #[pv 0,pv 1,pv 2,pv 4])) (qab (i:=6) w4j.nd rfl (uD rfl)) (qa6 (qb1 (qbj rfl rfl) rfl (qaw (~~~6)) (qab (i:=7) w4j.nd rfl (uD rfl)) (qa6 (qb2 (qap hr) (pv 5) (pv 7) (qaz ((wea T).mono ∅) hr rfl T.wfd T.wcy.kp T.wfw .nil qau #[~~~6,qbc #[pv 4|||pv 7,qa5]]) rfl)))))
  (qa2 (qae (i:=8) w4j.nd rfl (uD rfl) (qf9 T.w7j ((w87 T).mono ∅) hr rfl T.whj T.w91 .nil qau #[pv 0,pv 1,pv 5,pv 4]))
  (qa2 (qae (i:=9) w4j.nd rfl (uD rfl) (qc2 qa3))
  (qa2 (qb1 (qbj rfl rfl) rfl (qaw (qaj (qcb rfl) rfl T.w2n wF #[pv 2])) (qab (i:=7) w4j.nd rfl (uD rfl)) (qa2 (qae (i:=10) w4j.nd rfl (uD rfl) (jfa (qan (jhw (hu8 hr)) (pv 5|||pv 7) (qbc #[pv 2|||pv 7,qa5]) (qar _)) qcq (qam qax (qb6 (pv 8) T.w2f T.w0n ((w4p T).mono ∅) hr T.w4w .nil qau #[pv 7]) qa5 nofun)))
  (qa6 (qbq (qf2 vT wL wM qcf (pv 9) #[qbc #[pv 7,pv 5|||pv 7,pv 10]])))))
  (qa6 (qaf (pv 9))))))))),?_⟩
 walk_at"d"
 try dsimp only[cxC]
 refine qad (σ:=[sr t,sr dr,sr dw,some (wv),none,none,none,none,none,none,none]) rfl ?_;have cl:=T.w2f;have l8:=ok.l8;have kp:=qdc hwA ok.nd;left;refine⟨t,dw,wv,S,D,kw,rfl,ok,srt,hT,hg,hw,hwA,fun lg kg H1 s1 flg elg hgA=>?_⟩;left;rename_i ds hds;have s2:=s1.trans (qa4 hds (.dK []));have eds:upd H1 ds (.dK []) ds=some (.dK []):=qa1;have elg2:=qaa (o':=.dK []) elg hds;have fds:=s1.free hds;have ngs:lg≠ds:=fun e=>by subst e;rw[elg] at hds;cases hds
 have ngw:lg≠dw:=fun e=>by subst e;rw[flg] at hw;cases hw
 generalize upd H1 ds (.dK [])=H2 at*;clear hds elg s1;refine⟨t,dr,dw,lg,S,D,HS,kr,kw,kg,rfl,ok,srt,hT.same s2,s2 _ _ hr0,hrA,hsn,hsl,s2 _ _ hw,hwA,elg2,hgA,ngw,hs,fun lt rs lf lv M N H3 s3 flt elt hrs I R=>?_⟩;have hB:=LvB.of ok I R;have hDv:∀n∈D.W0,Dv N (lv n):=fun n hn=>by
  obtain⟨r,hr,hm⟩:=R.e n hn (by simp);rw[<-(R.m r hr n hm).2.2];exact R.dv r hr
 have eds3:=s3 _ _ eds;have elg3:=s3 _ _ elg2;have sm3:=s2.trans s3;have nts:lt≠ds:=fun e=>by subst e;rw[eds3] at elt;cases elt
 clear s3 s2 eds elg2 flt;have hmem:∀n,n∈nsL rs↔n∈D.W0:=fun n=>by
  constructor
  .intro h;obtain⟨r,hr,hn⟩:=cS.mp h;exact(R.m r hr n hn).1
  .intro h;obtain⟨r,hr,hn⟩:=R.e n h (by simp);exact cS.mpr ⟨r,hr,hn⟩
 have hmt:∀i,∀n∈nsL (rs.take i),n∈D.W0:=fun i n h=>by
  obtain⟨r,hr,hn⟩:=cS.mp h;exact(R.m r (zX hr) n hn).1
 left;refine qbp (xs:=rs.map fun r=>V.ref r.a) (fun i σ H'=>∃(ks:List (Key×V))(w1 w2:Option V),σ=[sr t,sr dr,sr dw,some wv,sr lg,sr ds,w1,w2,none,none,none]/\SameBut ds H3 H'/\H' ds=some (.dK ks)/\FD H' ks (qc4 (nsL (rs.take i)) (shQ D lv))) ⟨[],none,none,rfl,fun b u _ e=>e,eds3,FD.nil.cast fun z=>rfl⟩ ?_ ?_ ?_
 .rintro i σ H' _ ⟨ks,w1,w2,rfl,sb,_⟩;exact SqL.of (sb _ _ nts elt)
 .rintro i v σ H' hv ⟨ks,w1,w2,rfl,sb,ed,hF⟩;rw[zC] at hv;obtain⟨r,hr,rfl⟩:=uH.mp hv;have hrm:=zE hr;have hR:=(hrs r hrm).sb1 eds3 sb;have ert:=hR.t;have ern:=hR.n;have etk:nsL (rs.take (i+1))=nsL (rs.take i)++r.ns:=by
   unfold nsL;rw[zM,hr];show(rs.take i++[r]).flatMap _=_;rw[List.flatMap_append,List.flatMap_cons,List.flatMap_nil,yA]
  clear hv;left;refine qbp (xs:=r.ns.map V.str) (fun j σ Hx=>∃(k':List (Key×V))(w2:Option V),σ=[sr t,sr dr,sr dw,some wv,sr lg,sr ds,sr r.a,w2,none,none,none]/\SameBut ds H3 Hx/\Hx ds=some (.dK k')/\FD Hx k' (qc4 (nsL (rs.take i)++r.ns.take j) (shQ D lv))) ⟨ks,w2,rfl,sb,ed,hF.cast fun z=>by rw[List.take_zero,yA]⟩ ?_ ?_ ?_
  .rintro j σ Hx _ ⟨k',w2,rfl,sb',_⟩;exact SqL.of ((hrs r hrm).sb1 eds3 sb').n
  .rintro j v σ Hx hv ⟨k',w2,rfl,sb',ed',hF'⟩;rw[zC] at hv;obtain⟨n,hn,rfl⟩:=uH.mp hv;have hnr:=zE hn;obtain⟨hn0,_,eL⟩:=R.m r hrm n hnr;have hR':=(hrs r hrm).sb1 eds3 sb';have ert':=hR'.t;have hL:=hR'.l;have gw:qbu D.W0 D.wt n=some (D.wt n):=qba hn0;have hRg:Rd Hx lg (.dK kg):=.inl (sb' _ _ ngs elg3);have wa1:=ok.w1 n hn0;have wa2:=ok.w2 n hn0;have kl:=hF'.len (W:=D.W0) fun m hm=>by
    rcases zN.mp hm with h1|h1
    .exact hmt i m h1
    .exact(R.m r hrm m (zX h1)).1
   have zl:k'.length<sizeLine:=by show _<16777216;omega
   have rbL:=R.rb r hrm;have etk2:r.ns.take (j+1)=r.ns.take j++[n]:=by rw[zM,hn];rfl
   clear hv hF hR ert ern ed hB;left;rename_i tp1 htp1;have s5:=qa4 htp1 (.tup [V.int (D.wt n),V.int 1]);have hfr5:qb8 (upd Hx tp1 (.tup [V.int (D.wt n),V.int 1])) tp1 ((D.wt n:Int):Rat):=qct qa1;generalize upd Hx tp1 (.tup [V.int (D.wt n),V.int 1])=H5 at*;refine⟨r.la,tp1,_,_,rfl,hL.same s5,hfr5,rbL,qfj (uO (show(D.wt n).natAbs<=1000 by omega) ∅),fun sa hsa=>?_⟩;have esh:r.L*((D.wt n:Int):Rat)=shQ D lv n:=by rw[eL];rfl
   have esh:(fun a b:Rat=>a*b) r.L ((D.wt n:Int):Rat)=shQ D lv n:=esh;rw[esh];have s6:=s5.trans (qa4 hsa (frO (shQ D lv n)));have hl6:qb8 (upd H5 sa (frO (shQ D lv n))) sa (shQ D lv n):=qa1;generalize upd H5 sa (frO (shQ D lv n))=H6 at*;have ed6:=s6 _ _ ed';clear s5 hfr5 hsa htp1;left;have t6:qav H6 (upd H6 ds (.dK (qbh k' (uE n) (.ref sa)))):=qav.upd ed6 fun xs e=>by cases e
   refine⟨_,_,rfl,fun b u hb e=>by rw[qa7 hb];exact s6 _ _ (sb' b u hb e),qa1,(((hF'.t (qav.of s6)).put n hl6).t t6).cast fun y=>?_⟩;rw[etk2,<-cI,qfd]
  .rintro σ Hx ⟨k',w2,rfl,sb',ed',hF'⟩;rw[zB,zH] at hF';exact⟨k',_,_,rfl,sb',ed',by rw[etk];exact hF'⟩
 rintro σ H4 ⟨ks,w1,w2,rfl,sb,ed,hF⟩;rw[zB,zH] at hF;have hF:FD H4 ks (qc4 D.W0 (shQ D lv)):=hF.cast fun z=>by
  unfold qc4;by_cases c:z∈D.W0
  .rw[gL c,gL ((hmem z).mpr c)]
  .rw[gK c,gK fun h=>c ((hmem z).mp h)]
 have s4:jab H H4:=fun b u e=>sb b u (fun z=>by subst z;rw[fds] at e;cases e) (sm3 b u e);have elg4:=sb _ _ ngs elg3;clear sb eds3 elg3 elt hrs sm3 hmem hmt nts R;left;intro x dx hx hdx ndx;have sH:jab H4 (upd (upd H4 dx (.own x)) x (.ins d.w02 dx [])):=(qa4 hdx _).trans (qa4 (by rw[qa7 ndx.symm];exact hx) _);have hTo:upd (upd H4 dx (.own x)) x (.ins d.w02 dx []) x=some (.ins d.w02 dx []):=qa1;have hx0:=s4.free hx;generalize upd (upd H4 dx (.own x)) x (.ins d.w02 dx [])=H5 at*;refine⟨x,dx,t,dr,ds,lg,S,D,lv,ks,kg,rfl,hTo,ok,⟨H,s4.trans sH,hx0,fds,hT⟩,hB,sH _ _ ed,hF.t (qav.of sH),hF.keys ok.nd,sH _ _ elg4,hgA,ngs,fun dlv dto dtp klv kto ktp tp H6 sb6 ex6 elv6 hlv6 eto6 hto6 etp6 htp6 hTp fdlv fdto fdtp=>⟨rfl,?_⟩⟩;have s6:jab H4 H6:=fun b u e=>sb6 b u (fun z=>by subst z;rw[hx] at e;cases e) (sH b u e);have s06:=s4.trans s6;have hS:jme d H6 x t dr dlv dto dtp S D HS kr klv kto ktp lv tp:=⟨⟨dx,ex6⟩,hT.same s06,s06 _ _ hr0,hrA,elv6,hlv6,eto6,hto6,etp6,htp6,hTp,hB,hs⟩;have ed6:=s6 _ _ ed;have hF6:=hF.t (qav.of s6);clear sb6 ex6 elv6 hlv6 eto6 hto6 etp6 htp6 fdlv fdto fdtp hTo sH hx hdx ed hF s4 s6 elg4;left;rename_i l hl;have s7:=qa4 hl (.lst []);have el7:upd H6 l (.lst []) l=some (.lst []):=qa1;have hl0:=s06.free hl;generalize upd H6 l (.lst [])=H7 at*;refine qdg (ss:=qc3 kw) (.inl (s7 _ _ (s06 _ _ hw))) hwA.keys (by have:=kp.length_eq;omega) fun ls ss hls hp hss=>?_;have ess:ss=D.W0:=qeo (hp.trans kp) hss srt;subst ess;have s8:=s7.trans (qa4 hls (.lst (D.W0.map V.str)));have els:upd H7 ls (.lst (D.W0.map V.str)) ls=some (.lst (D.W0.map V.str)):=qa1;have el8:=qaa (o':=.lst (D.W0.map V.str)) el7 hls;have nls:ls≠l:=fun e=>by subst e;rw[el7] at hls;cases hls
 generalize upd H7 ls (.lst (D.W0.map V.str))=H8 at*;clear el7 s7 hls hp hss;left;refine qbp (xs:=D.W0.map V.str) (fun i σ H'=>∃(as:List (Addr×Addr))(w1 w2 w3:Option V),σ=[sr t,sr dr,sr dw,some wv,sr lg,sr ds,w1,w2,sr x,sr l,w3]/\jab H6 H'/\H' ls=some (.lst (D.W0.map V.str))/\jji H' D lv (D.W0.take i) l as) ⟨[],_,_,none,rfl,s8,els,el8,rfl,fun i n p h=>by simp at h⟩ ?_ ?_ ?_
 .rintro i σ H' _ ⟨as,w1,w2,w3,rfl,_,e,_⟩;exact SqL.of e
 .rintro i v σ H' hv ⟨as,w1,w2,w3,rfl,s',els',hE⟩;rw[zC] at hv;obtain⟨n,hn,rfl⟩:=uH.mp hv;have hi:=(uL.mp hn).1;have hn0:=zE hn;have etk:D.W0.take (i+1)=D.W0.take i++[n]:=by rw[zM,hn];rfl
  have gw:qbu D.W0 D.wa n=some (D.wa n):=qba hn0;have hRw:Rd H' dw (.dK kw):=.inl (s' _ _ (s06 _ _ hw));have hRs:Rd H' ds (.dK ks):=.inl (s' _ _ ed6);have hF':=hF6.t (qav.of s');have el':=hE.l;have zl:(as.map fun p=>V.ref p.1).length<sizeLine:=by rw[zB,hE.n,zS];show _<16777216;omega
  clear hv;left;refine qcg hRs hF' (qbb hn0) fun b hb=>?_;left;rename_i tp1 htp1;have hb1:=hb;unfold qb8 at hb1;have nb:b≠tp1:=fun z=>by subst z;rw[htp1] at hb1;cases hb1
  have s3:=qa4 htp1 (.tup [V.int (D.wa n),V.int 1]);have hfr:qb8 (upd H' tp1 (.tup [V.int (D.wa n),V.int 1])) tp1 ((D.wa n:Int):Rat):=qct qa1;generalize upd H' tp1 (.tup [V.int (D.wa n),V.int 1])=H9 at*;refine jnj nb ∅ (jjg (s3 _ _ hb) hfr nb) ?_;have s9:=s'.trans s3;have el9:=s3 _ _ el';have els9:=s3 _ _ els';have t9:=qav.of s3;clear hb hb1 hfr htp1 nb hRw hRs hF' s' el' els';by_cases c:shQ D lv n=(D.wa n:Rat)
  .rw[gM c];have ep:jez D lv n=.non:=by unfold jez;rw[gL c]
   left;refine qcg (.inl (s9 _ _ ed6)) (hF6.t (qav.of s9)) (qbb hn0) fun b2 hb2=>?_;left;rename_i tr htr;have nl:tr≠l:=fun z=>by subst z;rw[el9] at htr;cases htr
   have s10:=qa4 htr (.tup [.str n,.ref b2,.non]);refine⟨as++[(tr,b2)],_,_,_,rfl,qb9 (s9.trans s10) hl,by rw[qa7 nls];exact s10 _ _ els9,?_⟩;rw[etk];have t11:qav (upd H9 tr (.tup [.str n,.ref b2,.non])) (upd (upd H9 tr (.tup [.str n,.ref b2,.non])) l (.lst ((as.map fun p=>V.ref p.1)++[V.ref tr]))):=qav.upd (s10 _ _ el9) fun xs e=>by cases e
   exact hE.app (t9.trans ((qav.of s10).trans t11)) qa1 (by rw[qa7 nl,qa1,ep]) (t11 _ _ (s10 _ _ hb2))
  .rw[gO c];obtain⟨h,hs2,e1,ep⟩:=I.stop ok hn0 c;have hS9:=hS.same s9;obtain⟨dx',ho9⟩:=hS9.ob;left;refine⟨x,t,dr,dlv,dto,dtp,S,D,HS,kr,klv,kto,ktp,lv,tp,n,rfl,ok,hS9,hn0,fun lh H10 s10 flh elh=>?_⟩;rw[e1] at elh;have elh:H10 lh=some (.lst (V.str h::hs2.map V.str)):=elh;have s9':=s9.trans s10;have el10:=s10 _ _ el9;have els10:=s10 _ _ els9;clear hS9 ho9 flh;left;refine qcc (v:=.str h) (SqL.of elh) (qbt (j:=0) rfl) ?_;left;refine qcg (.inl (s9' _ _ ed6)) (hF6.t (qav.of s9')) (qbb hn0) fun b2 hb2=>?_;left;rename_i tr htr;have nl:tr≠l:=fun z=>by subst z;rw[el10] at htr;cases htr
   have s11:=qa4 htr (.tup [.str n,.ref b2,.str h]);refine⟨as++[(tr,b2)],_,_,_,rfl,qb9 (s9'.trans s11) hl,by rw[qa7 nls];exact s11 _ _ els10,?_⟩;rw[etk];have t11:qav (upd H10 tr (.tup [.str n,.ref b2,.str h])) (upd (upd H10 tr (.tup [.str n,.ref b2,.str h])) l (.lst ((as.map fun p=>V.ref p.1)++[V.ref tr]))):=qav.upd (s11 _ _ el10) fun xs e=>by cases e
   exact hE.app (t9.trans ((qav.of s10).trans ((qav.of s11).trans t11))) qa1 (by rw[qa7 nl,qa1,ep]) (t11 _ _ (s11 _ _ hb2))
 rintro σ H' ⟨as,w1,w2,w3,rfl,s',_,hE⟩;rw[zB,zH] at hE;left;exact q l as lf lv M N H' (s06.trans s') hl0 I hB hDv hE
structure Bt(S:Ts)(nm:Nat->Str)(el:Nat->Nat)(n:Nat)(wt:Nat->Int):Prop where
 pl:Pl S nm el n
 no:∀e∈S.hl,(∀y,e.x.fp y=none)/\∀y,e.x.fc y=none
 w:∀(k:Nat)(e:He),S.hl[k]?=some e->e.x.w=wt k
 ws:S.ws.length<=6
def joj(y:Str):qdh noF y=none:=rfl
theorem jjj{g:Str->Option Int}(hf:∀y,f y=none)(hg:∀y,g y=none)(y:Str):qgy f g y=none:=by
 unfold qgy;rw[hg y];exact hf y
theorem jjk:∀(ts:List Pt)(f:Str->Option Int),(∀t∈ts,∀y,t.f y=none)->(∀y,f y=none)->∀y,ts.foldl (fun f t=>qgy f t.f) f y=none
 | [],f,_,hf,y=>hf y
 |t::ts,f,h,hf,y=>jjk ts (qgy f t.f) (fun t' ht=>h t' (zD _ ht)) (fun z=>jjj hf (h t (zG ..)) z) y
section
variable{S:Ts}{nm:Nat->Str}{el:Nat->Nat}{k:Nat}{wt:Nat->Int}
theorem Bt.one(h1:S.hl=[e])(en:e.n=nm 0)(ee:e.x.el=none)(ew:e.x.w=wt 0)(ep:∀v,e.x.fp v=none)(ec:∀v,e.x.fc v=none)(ws:S.ws.length<=6):Bt S nm el 1 wt:=by
 have split:∀(i:Nat)(e':He),S.hl[i]?=some e'->i=0/\e'=e:=fun i e' he=>by
  rw[h1] at he;have:=(uL.mp he).1;rw[yD] at this;obtain rfl:i=0:=by omega
  exact⟨rfl,(uU he).symm⟩
 refine⟨⟨by rw[h1];rfl,fun i e' he=>?_,fun i j hi hj _=>by omega,fun i a b=>by omega⟩,fun e' he=>?_,fun i e' he=>?_,ws⟩
 .obtain⟨rfl,rfl⟩:=split i e' he;exact⟨en,ee⟩
 .rw[h1] at he;rw[zF.mp he];exact⟨ep,ec⟩
 .obtain⟨rfl,rfl⟩:=split i e' he;exact ew
theorem Bt.next(h:Bt S nm el k wt)(k0:0<k)(inj:∀i j,i<k+1->j<k+1->nm i=nm j->i=j)(low:el k<k){e2:He}(en:e2.n=nm k)(ee:e2.x.el=some (nm (el k)))(ew:e2.x.w=wt k)(ep:∀v,e2.x.fp v=none)(ec:∀v,e2.x.fc v=none):
  Bt {S with hl:=S.hl++[e2]} nm el (k+1) wt:=by
 have hl:=h.pl.len;have split:∀(i:Nat)(e:He),(S.hl++[e2])[i]?=some e->(i<k/\S.hl[i]?=some e)\/(i=k/\e=e2):=fun i e he=>by
  rcases cA i S.hl.length with c|c
  .rw[xM c] at he;exact .inl ⟨#[],he⟩
  .have:=(uL.mp he).1;rw[zT,yD] at this;have ei:i=S.hl.length:=by omega
   rw[xK c,ei,Nat.sub_self] at he;exact .inr ⟨#[],by simpa using he.symm⟩
 refine⟨⟨by show(S.hl++[e2]).length=_;rw[zT,hl];rfl,fun i e he=>?_,inj,fun i i0 ik=>?_⟩,fun e he=>?_,fun i e he=>?_,h.ws⟩
 .rcases split i e he with⟨a,b⟩|⟨rfl,rfl⟩
  .exact h.pl.nam i e b
  .exact⟨en,by rw[gK #[]];exact ee⟩
 .by_cases c:i=k
  .rw[c];exact low
  .exact h.pl.low i i0 #[]
 .rcases zN.mp he with h1|h1
  .exact h.no e h1
  .rw[zF.mp h1];exact⟨ep,ec⟩
 .rcases split i e he with⟨a,b⟩|⟨rfl,rfl⟩
  .exact h.w i e b
  .exact ew
theorem Bt.ask(h:Bt S nm el k wt)(k0:0<k)(k9:k<=9)(inj:∀i j,i<k+1->j<k+1->nm i=nm j->i=j)(lk:el k<k):∃e,S.at (nm (el k))=some e/\e.n=nm (el k)/\WF S/\qh0 S/\S.ws.length<=50/\S.hl.length<40/\S.at (nm k)=none/\
  ∃zs,jau S e.n zs/\zs.length<12/\∀y∈zs,∃e',S.at y=some e'/\Dep S 12 y/\∀bs,Ben S 12 y bs->∀v n,qgy (ji0 (bs.map (jfv S))) (qdh noF) v=some n->n<=gN e'.x.fc v:=by
 have low:=h.pl.low;have h6:=h.ws;obtain⟨e,h1,h2,h3⟩:=h.pl.at lk;have en:e.n=nm (el k):=(qd7 h1).2;refine⟨e,h1,en,h.pl.wf,⟨#[],fun e' he z hz=>absurd ((h.no e' he).1 z) hz⟩,#[],by rw[h.pl.len];omega,?_,(qbx el (el k)).map nm,by rw[en];exact h.pl.line _ lk,?_,fun y hy=>?_⟩
 .cases c:S.at (nm k) with
  |none=>rfl
  |some e'=>
   obtain⟨i,hi,_,q,_⟩:=h.pl.ix (qd7 c).1;have:=inj i k #[] #[] (by rw[<-q,(qd7 c).2]);omega
 .rw[zB];have hl:=qfr low (el k) lk;omega
 .obtain⟨j,hj,rfl⟩:=zJ.mp hy;have jl:=qco low (el k) lk j hj;have jk:j<k:=by omega
  obtain⟨e',q1,q2,_⟩:=h.pl.at jk;refine⟨e',q1,h.pl.dep 12 j jk #[],fun bs hb v n hn=>?_⟩;have z:qgy (ji0 (bs.map (jfv S))) (qdh noF) v=none:=jjj (fun y=>jjk _ _ (fun t ht y=>by
   obtain⟨b,_,rfl⟩:=zJ.mp ht
   cases c:S.at b with
   |none=>unfold jfv;rw[c];rfl
   |some e2=>rw[qgn c];exact(h.no e2 (qd7 c).1).1 y) (fun _=>rfl) y) joj v
  rw[z] at hn
  cases hn
theorem Bt.found{K:uX}{d:Ad}{H:Hp}{t p1 p2:Addr}{Q:VK}{E:XK}(h:Bt S nm el k wt)(hT:qf4 d H t S)(k0:0<k)(k9:k<=9)(inj:∀i j,i<k+1->j<k+1->nm i=nm j->i=j)(lk:el k<k)(gz:qes (nm k)=true)(e1:H p1=some (.dK []))(e2:H p2=some (.dK []))(w1:1<=wt k)(w2:wt k<=1000)
  (q:∀(e2:He) H',SameBut S.hs H H'->qf4 d H' t {S with hl:=S.hl++[e2]}->Bt {S with hl:=S.hl++[e2]} nm el (k+1) wt->Q .non H'):jbk K d [.ref t,.str (nm k),.str (nm (el k)),.ref p1,.ref p2,.int (wt k)] H Q E:=by
 obtain⟨e,ae,een,hW,hOw,hw50,h40,nk,line⟩:=h.ask k0 k9 inj lk;have fn:∀ws,Fin ws noF:=fun ws z n e=>by cases e
 refine⟨t,p1,p2,S,nm k,.str (nm (el k)),[],[],noF,noF,wt k,rfl,hT,gz,nk,.inl ⟨_,rfl⟩,fun hn=>?_,fun e' he'=>?_⟩
 .rw[show who S (.str (nm (el k)))=some e from ae] at hn;cases hn
 .have ee':e=e':=uU (ae.symm.trans he');subst ee';exact⟨hW,hOw,hw50,e1,AD.nil,∅,e2,AD.nil,∅,fn _,fn _,w1,w2,h40,line,fun y=>Int.le_refl _,fun e3 H' sb f1 f2 f3 hT' n1 n2 n3 n4 n5=>q e3 H' sb hT' (h.next k0 inj lk n1 (by rw[n2,een]) n3 n4 n5)⟩
end
def wcl(K:uX)(d:Ad):Sp:=fun vs H Q _=>∃i j:Int,vs=[.int i,.int j]/\0<=j/\Q (.int (ja9 i j)) H
include T in
theorem w8c:jac P w K mg base CX0 1 d.w62 d.w5g ["_law_one","_law_other"] (wcl K d):=by
 exists T.w6v.ok w8a
 .right
 obtain⟨i,j,rfl,j0,q⟩:=h;exists (qa2 (qee vJ (qan jd1 (pv 1) qa5 (qar _)) (qa6 (jpd (i:=0) (j:=1) rfl w8a.nd rfl rfl ∅ rfl rfl #[pv 1,qag qb4 (pv 0) (pv 1)] rfl)))
  (qa6 (qaf (qaj qg3 rfl T.whw dR #[pv 0])))),[some (.int i),some (.int j)];left;refine qe8 (fun σ H'=>H'=H/\∃(g t:Int),σ=[some (.int g),some (.int t)]/\0<=t/\wZ g t=wZ i j) (fun σ _=>meas 1 σ) ?_ ?_ ?_
 .exact⟨rfl,_,_,rfl,j0,rfl⟩
 .rintro σ H1 ⟨rfl,g,t,rfl,ht,e⟩;left;refine jwa (fun c=>?_) (fun c=>?_)
  .have c:0<t:=by omega
   left;refine⟨⟨rfl,_,_,rfl,uW _ #[],?_⟩,?_⟩
   .rw[jfz g t c];exact e
   .show(g%t).toNat<t.toNat;have:=uZ g c;have:=uW g (show t≠0 by omega);omega
  .subst c;left;have e2:(if g<0 then -g else g)=ja9 i j:=by
    rw[Int.gcd_zero_right] at e;unfold ja9;rw[<-e];split<;>omega
   rw[e2];exact q
 .rintro σ H1 Q1 Q2 h ⟨v,e,e1,k,e2,q⟩;exact⟨v,e,e1,k,e2,h _ _ q⟩
def wg9(K:uX)(d:Ad):Sp:=fun vs H Q _=>∃t b:Int,vs=[.int t,.int b]/\Hug b/\0<b/\∀p,H p=none->Q (.ref p) (upd H p (frO ((t:Rat) /(b:Rat))))
include T in
theorem w4z:jac P w K mg base CX0 2 d.wbn d.wa3 ["_law_top","_law_bottom"] (wg9 K d):=by
 exists T.w5t.ok wbz
 .right
 obtain⟨t,b,rfl,hb,b0,hq⟩:=h;exists (qa2 (qae (i:=2) wbz.nd rfl (uD rfl) (qac ((w8c T).mono ∅) hr rfl T.w98 T.w6v.kp T.w93 .nil qas #[pv 0,pv 1]))
  (qa6 (qaf (qbc #[qag jfs (pv 0) (pv 2),qag jfs (pv 1) (pv 2)])))),[some (.int t),some (.int b),none];have b1:b≠0:=by omega
 have gb:Hug (ja9 t b):=uO (ji7 b1) hb;have gp:=qgs (t:=t) b1;obtain⟨f1,f2⟩:=jl8 (t:=t) b1;have es:sg' t b=ja9 t b:=by unfold sg';rw[gK #[]]
 unfold frO at hq;rw[<-f1,<-f2,es] at hq;clear f1 f2;left;refine⟨t,b,rfl,#[],?_⟩;left;exact hq _ (by assumption)
structure Sc(sc:Int):Prop where
 lo:1<=sc
 hi:sc<=10^27
theorem Sc.abs(h:Sc sc):sc.natAbs<2^600:=by
 have h1:=h.lo;have h2:=h.hi;have:sc.natAbs<=10^27:=by omega
 exact uO this ∅
structure InB(B v:Int):Prop where
 lo:0<=v
 hi:v<=B
def wi0(K:uX)(d:Ad):Sp:=fun vs H Q _=>∃r sc:Int,vs=[.int r,.int sc]/\0<=r/\Sc sc/\∀(v:Int) H',InB (10^30) v->jab H H'->Q (.int v) H'
def wic(K:uX)(d:Ad):Sp:=fun vs H Q _=>∃r sc:Int,vs=[.int r,.int sc]/\0<=r/\Sc sc/\∀(v:Int) H',InB (10^31) v->jab H H'->Q (.int v) H'
theorem jvq{m:Int}(h:m∈ [(0:Int),0,1]):0<=m/\m<=1:=by simp only[zP,yG,or_false] at h;omega
theorem jok{u m:Int}(h:Sc sc)(u0:0<=u)(u1:u<13)(hm:0<=m/\m<=1):InB (10^30) (u*sc+m):=by
 have h1:=Int.mul_le_mul (show u<=12 by omega) h.hi (by have:=h.lo;omega) ∅;have h2:=Int.mul_nonneg u0 (show 0<=sc by have:=h.lo;omega);have h3:(12:Int)*10^27+1<=10^30:=∅
 exact⟨#[],#[]⟩
theorem jol{u m:Int}(h:Sc sc)(u0:0<=u)(u1:u<30)(hm:0<=m/\m<=1):InB (10^31) (u*sc+m):=by
 have h1:=Int.mul_le_mul (show u<=29 by omega) h.hi (by have:=h.lo;omega) ∅;have h2:=Int.mul_nonneg u0 (show 0<=sc by have:=h.lo;omega);have h3:(29:Int)*10^27+1<=10^31:=∅
 exact⟨#[],#[]⟩
include T in
theorem wi1:jac P w K mg base CX0 1 d.wfn d.wdp ["_law_number","_law_scale"] (wi0 K d):=by
 exists T.wha.ok wif
 .right
 obtain⟨r,sc,rfl,r0,hsc,q⟩:=h;exists (qa2 (qb5 (qan qd9 (qag qb4 (pv 0) qa5) qa5 (qar _)) (qa6 (qaf (qag jct qa5 qa5))) qal)
  (qa6 (qaf (qag qby (qag qb3 (qag qb4 (qag qbe (pv 0) qa5) qa5) (pv 1)) (qam qax (qc2 #[qa5,qa5,qa5]) (qag qb4 (qag qbe (pv 0) qa5) qa5) nofun))))),[some (.int r),some (.int sc)];left;refine i_2 (fun c=>?_) (fun c=>?_)
 .left;exact q _ _ ⟨∅,∅⟩ fun _ _ e=>e
 .have u0:=uW (r.fdiv 7) (show(13:Int)≠0 by decide);have u1:=uZ (r.fdiv 7) (show(0:Int)<13 by decide);generalize eu:r.fdiv 7%13=u at*;have nu:u.natAbs<2^600:=uO (show u.natAbs<=1000 by omega) ∅;have ns:=hsc.abs;have m0:=uW (r.fdiv 91) (show(3:Int)≠0 by decide);have m1:=uZ (r.fdiv 91) (show(0:Int)<3 by decide);generalize em:r.fdiv 91%3=m at*;have hv:∀x:Int,0<=x/\x<=1->_:=fun x hx=>jok hsc u0 u1 hx;clear u0 u1 r0;left;rw[eu];left;rename_i p hp;rw[em];refine jhm (xs:=[0,0,1]) (SqL.of qa1) m0 m1 fun x hx=>?_;clear m0 m1 em eu nu ns;left;exact q _ _ (hv x (jvq hx)) (qa4 hp _)
include T in
theorem wid:jac P w K mg base CX0 1 d.wg0 d.wdi ["_law_number","_law_scale"] (wic K d):=by
 exists T.whs.ok wi5
 .right
 obtain⟨r,sc,rfl,r0,hsc,q⟩:=h;exists (qa2 (qb5 (qan qd9 (qag qb4 (pv 0) qa5) qa5 (qar _)) (qa6 (qaf (qag jct qa5 qa5))) qal)
  (qa6 (qaf (qag qby (qag qb3 (qag qb4 (qag qbe (pv 0) qa5) qa5) (pv 1)) (qam qax (qc2 #[qa5,qa5,qa5]) (qag qb4 (qag qbe (pv 0) qa5) qa5) nofun))))),[some (.int r),some (.int sc)];left;refine i_2 (fun c=>?_) (fun c=>?_)
 .left;exact q _ _ ⟨∅,∅⟩ fun _ _ e=>e
 .have u0:=uW (r.fdiv 4) (show(30:Int)≠0 by decide);have u1:=uZ (r.fdiv 4) (show(0:Int)<30 by decide);generalize eu:r.fdiv 4%30=u at*;have nu:u.natAbs<2^600:=uO (show u.natAbs<=1000 by omega) ∅;have ns:=hsc.abs;have m0:=uW (r.fdiv 120) (show(3:Int)≠0 by decide);have m1:=uZ (r.fdiv 120) (show(0:Int)<3 by decide);generalize em:r.fdiv 120%3=m at*;have hv:∀x:Int,0<=x/\x<=1->_:=fun x hx=>jol hsc u0 u1 hx;clear u0 u1 r0;left;rw[eu];left;rename_i p hp;rw[em];refine jhm (xs:=[0,0,1]) (SqL.of qa1) m0 m1 fun x hx=>?_;clear m0 m1 em eu nu ns;left;exact q _ _ (hv x (jvq hx)) (qa4 hp _)
def wgx(K:uX)(d:Ad):Sp:=fun vs H Q _=>∃r:Int,vs=[.int r]/\Q (.bl true) H
include T in
theorem wee:jac P w K mg base CX0 1 d.wcr d.wbg ["_law_found"] (wgx K d):=by
 exists T.wdc.ok wh4
 .right
 obtain⟨r,rfl,q⟩:=h;exists qa6 (qaf (qey (qaj qbn rfl T.w07 vI #[pv 0,qcd (v:=.ty "int") rfl T.wi6 dP rfl]) (qex (jcs (qaj qbn rfl T.w07 vI #[pv 0,qcd (v:=.ty "bool") rfl T.wfq dB rfl]))))),[some (.int r)];left;exact q
noncomputable def iV(e:Nat):V:=.int (e:Int)
noncomputable def elN(es:List Nat)(k:Nat):Nat:=(es[k-1]?).getD 0
noncomputable def oV:Option Nat->V
 |none=> .non
 |some a=> .int (a:Int)
noncomputable def jub(el:Nat->Nat):Option Nat->List Nat
 |none=> []
 |some a=>qbx el a
def why(K:uX)(d:Ad):Sp:=fun vs H Q _=>∃(le:Addr)(es:List Nat)(k:Nat),vs=[.ref le,.int (k:Int)]/\H le=some (.lst (.non::es.map iV))/\(∀(k e:Nat),es[k]?=some e->e<=k)/\k<=es.length/\es.length<=12/\
 ∀l,H l=none->Q (.ref l) (upd H l (.lst ((qbx (elN es) k).map iV)))
def je0(lo:∀(k e:Nat),es[k]?=some e->e<=k)(n:Nat):Low (elN es) n:=fun k k0 kn=>by
 unfold elN
 cases e:es[k-1]? with
 |none=>exact k0
 |some a=>have:=lo _ _ e;show a<k;omega
theorem jmf{b:Nat}(hb:b<es.length):elN es (b+1)=es[b]:=by unfold elN;rw[Nat.add_sub_cancel,zA hb];rfl
noncomputable def juc(σ:L2.St):Nat:=match σ[3]? with
 |some (some (V.int a))=>a.toNat+1
 |_=>0
include T in
theorem wdt:jac P w K mg base CX0 1 d.wg7 d.wdu ["_law_elders","_law_k"] (why K d):=by
 exists T.wej.ok wbf
 .right
 obtain⟨le,es,k,rfl,hE,lo,hk,h12,q⟩:=h;have low:=je0 lo (es.length+1);exists (qa2 (qae (i:=2) wbf.nd rfl (uD rfl) (qc2 qa3))
  (qa2 (qae (i:=3) wbf.nd rfl (uD rfl) (pv 1))
  (qa2 (qee vJ (qan qeg (pv 3) qcq (qar _)) (qa2 (qbq (qf2 vT wL wM qcf (pv 2) #[pv 3]))
  (qa6 (qae (i:=3) wbf.nd rfl (uD rfl) (qam qax (pv 0) (pv 3) nofun)))))
  (qa6 (qaf (pv 2)))))),[sr le,some (.int (k:Int)),none,none];generalize hki:((k:Nat):Int)=ki;left;rename_i l hl;refine qe8 (fun σ H'=>∃(done:List Nat)(o:Option Nat),σ=[sr le,some (.int ki),sr l,some (oV o)]/\H'=upd H l (.lst (done.map iV))/\done++jub (elN es) o=qbx (elN es) k/\(∀a,o=some a->a<=k)) (fun σ _=>juc σ) ⟨[],some k,by rw[<-hki];rfl,rfl,rfl,fun a h=>by cases h;exact uF _⟩ ?_ ?_
 .rintro σ H' ⟨done,o,rfl,rfl,hd,ha⟩;have hdl:done.length<=14:=by
   have h1:=congrArg wG hd;rw[zT] at h1;have h2:=qfr low k #[];omega
  cases o with
  |none=>
   rw[show oV none=V.non from rfl];have hd':done=qbx (elN es) k:=by rw[<-hd];exact(yA _).symm
   rw[hd'];left;exact q l hl
  |some a=>
   have hak:=ha a rfl;rw[show oV (some a)=V.int (a:Int) from rfl];have eE:=qaa (o':=.lst (done.map iV)) hE hl;have eL:upd H l (.lst (done.map iV)) l=some (.lst (done.map iV)):=qa1;have hz:(done.map iV).length<sizeLine:=by rw[zB];show _<16777216;omega
   generalize hai:((a:Nat):Int)=ai;left;rw[qd1];have eIv:V.int ai=iV a:=by rw[<-hai];rfl
   have eE2:=qaa (o':=.lst (done.map iV++[V.int ai])) hE hl;have fin:done.map iV++[V.int ai]=(done++[a]).map iV:=by rw[eIv,zI];rfl
   cases a with
   |zero=>
    refine qcc (v:=.non) (SqL.of eE2) (by rw[<-hai];exact qbt (j:=0) rfl) ?_;left;refine⟨⟨done++[0],none,rfl,by rw[fin],by rw[<-hd];show(done++[0])++[]=_;rw[yA];rfl,fun a h=>(by cases h)⟩,?_⟩;show 0<ai.toNat+1;omega
   |succ b=>
    have hb:b<es.length:=by omega
    have eb:=jmf hb;have lb:=low (b+1) #[] #[];refine qcc (v:=iV es[b]) (SqL.of eE2) (by rw[<-hai];exact qbt (j:=b+1) (by rw[aM,zC,zA hb];rfl)) ?_;left;refine⟨⟨done++[b+1],some es[b],rfl,by rw[fin],?_,fun a h=>by cases h;rw[eb] at lb;omega⟩,?_⟩
    .rw[<-hd,cI];show done++([b+1]++qbx (elN es) es[b])=done++qbx (elN es) (b+1);rw[qdr (k:=b+1) low #[] #[],eb];rfl
    .rw[eb] at lb;show((es[b]:Nat):Int).toNat+1<ai.toNat+1;omega
 .rintro σ H1 Q1 Q2 h ⟨v,hv,w,k,hk,hq⟩;exact⟨v,hv,w,k,hk,h _ _ hq⟩
noncomputable def nmG(nm:List Str)(k:Nat):Str:=(nm[k]?).getD (ofL [])
theorem qcy{k:Nat}(h:k<nm.length):nm[k]?=some (nmG nm k):=by unfold nmG;rw[zA h];rfl
def qcs{k:Nat}(h:k<nm.length):nmG nm k∈nm:=zE (qcy h)
structure jdx(H:Hp)(p ln le dg dw dr:Addr)(nm:List Str)(es:List Nat)(kg kw kr:List (Key×V))(D:Dl):Prop where
 top:H p=some (.lst [.ref ln,.ref le,.ref dg,.ref dw,.ref dr])
 n:H ln=some (.lst (nm.map V.str))
 e:H le=some (.lst (.non::es.map iV))
 g:H dg=some (.dK kg)
 w:H dw=some (.dK kw)
 r:H dr=some (.dK kr)
 gA:AD kg (qbu nm D.wt)
 wA:AD kw (qbu D.W0 D.wa)
 rA:AD kr (qbu nm D.rm)
def jdx.same{H H':Hp}{p ln le dg dw dr:Addr}{nm:List Str}{es:List Nat}{kg kw kr:List (Key×V)}{D:Dl}(h:jdx H p ln le dg dw dr nm es kg kw kr D)(s:jab H H'):jdx H' p ln le dg dw dr nm es kg kw kr D:=
 ⟨s _ _ h.top,s _ _ h.n,s _ _ h.e,s _ _ h.g,s _ _ h.w,s _ _ h.r,h.gA,h.wA,h.rA⟩
structure jco(nm:List Str)(es:List Nat)(D:Dl):Prop where
 nd:nm.Nodup
 gd:∀z∈nm,qes z=true
 len:nm.length=es.length+1
 l7:nm.length<=7
 lo:∀(k e:Nat),es[k]?=some e->e<=k
 sub:∀n∈D.W0,n∈nm
 ln:∀k,k<nm.length->D.ln (nmG nm k)=(qbx (elN es) k).map (nmG nm)
 ok:jak D
 srt:vX D.W0=true
theorem qfo(nd:nm.Nodup){i j:Nat}(hi:i<nm.length)(hj:j<nm.length)(e:nmG nm i=nmG nm j):i=j:=by
 have h1:=qcy hi;have h2:=qcy hj;rw[e,<-h2] at h1;exact(List.getElem?_inj hi nd).mp h1
def jco.low(h:jco nm es D):Low (elN es) nm.length:=je0 h.lo _
theorem jco.at_line(h:jco nm es D){k j:Nat}(hk:k<nm.length)(hj:j<nm.length):nmG nm j∈D.ln (nmG nm k)↔j∈qbx (elN es) k:=by
 rw[h.ln k hk];constructor
 .intro hm;obtain⟨i,hi,e⟩:=zJ.mp hm;have:=qco h.low k hk i hi;rw[<-qfo h.nd (show i<nm.length by omega) hj e];exact hi
 .exact fun hm=>zJ.mpr ⟨j,hm,rfl⟩
noncomputable def qdt(D:Dl)(nm:List Str)(h:Str):List Str:=nm.filter fun n=>decide (n∈D.W0/\h∈D.ln n)
theorem jjl{g:Str->Int} :(qbu W g z).isSome=decide (z∈W):=by
 unfold qbu;by_cases c:z∈W
 .rw[gL c,gM c];rfl
 .rw[gK c,gO c];rfl
def jud{kvs:List (Key×V)}{g:Str->Int}(d:Rd H a (.dK kvs))(A:AD kvs (qbu W g))(h:Q (.bl (decide (z∈W))) H):rDI (.ref a) (.str z) H Q:=jtt d A (by rw[jjl];exact h)
theorem jom(L:List Nat):((L.map iV).all fun v=>qdb v)=true:=by
 rw[zQ];intro v hv;obtain⟨n,_,rfl⟩:=zJ.mp hv;rfl
theorem jmg(x:Nat):∀L:List Nat,inV (iV x) (L.map iV)=decide (x∈L)
 | []=>rfl
 |y::L=>by
  have ih:=jmg x L;unfold inV at ih⊢;rw[zV,yM,ih];by_cases c:y=x
  .subst c;rw[show eqV (iV y) (iV y)=true from beq_self_eq_true _,gM (zG ..)];rfl
  .rw[show eqV (iV y) (iV x)=false from beq_false_of_ne (show((y:Nat):Int)≠((x:Nat):Int) by omega),eP];by_cases m:x∈L
   .rw[gM m,gM (zD _ m)]
   .rw[gO m,gO fun z=>(zP.mp z).elim (fun e=>c e.symm) m]
def jr1{K:uX}{p:Addr}{x:Nat}{L:List Nat}(h:SqL K H p (L.map iV))(q:Q (.bl (decide (x∈L))) H):rIn K false (iV x) (.ref p) H Q:=⟨p,_,rfl,.inl h,rfl,jom L,by rw[jmg];exact q⟩
inductive jjm(K:uX)(d:Ad)(vs:List V)(H:Hp)(Q:VK)(E:XK):Prop
 |mk(p ln le dg dw dr:Addr)(nm:List Str)(es:List Nat)(kg kw kr:List (Key×V))(D:Dl)(j:Nat)(_:vs=[.ref p,iV j])(_:jdx H p ln le dg dw dr nm es kg kw kr D)(_:jco nm es D)(_:j<nm.length)(_:∀l H',jab H H'->H l=none->H' l=some (.lst ((qdt D nm (nmG nm j)).map V.str))->Q (.ref l) H')
set_option maxHeartbeats 9000000 in
include T in
theorem w9z:jac P w K mg base CX0 3 d.wbm d.w9q ["_law_sharing_here","_law_at"] (jjm K d):=by
 exists T.w8z.ok w3y
 .right
 obtain⟨p,ln,le,dg,dw,dr,nm,es,kg,kw,kr,D,j,rfl,hA,ok,hj,q⟩:=h;refine⟨_,(qa2 (qdy (pv 0) (qdz rfl (qai (qab (i:=2) w3y.nd rfl (eZ rfl)) (qai (qab (i:=3) w3y.nd rfl (eZ rfl)) (qai (qab (i:=4) w3y.nd rfl (uD rfl)) (qai (qab (i:=5) w3y.nd rfl (eZ rfl)) (qai (qab (i:=6) w3y.nd rfl (uD rfl)) qcl)))))))
  (qa6 (qaf (qcm (caps:=[1,2,3,5]) (cn:=["_law_at","_law_names","_law_elders","_law_wants"]) (qc8 rfl rfl (by rfl) (by rfl) rfl ⟨rfl,⟨rfl,⟨rfl,⟨rfl,trivial⟩⟩⟩⟩ (by rfl) rfl ⟨⟨rfl,rfl,rfl,rfl,_,rfl⟩,⟨⟨rfl,rfl,rfl,rfl,_,rfl⟩,⟨⟨rfl,rfl,rfl,rfl,_,rfl⟩,⟨⟨rfl,rfl,rfl,rfl,_,rfl⟩,trivial⟩⟩⟩⟩ ∅) rfl (qd5 rfl T.w6b #[qaj qbm rfl T.w45 vY #[pv 2]]) (fun _ _ _ _=>(jho (PW.pt (qg7 (jo6 (jln (qap hr) (qam qax (pv 2) (pv 0) nofun) (pv 4))) (qep (qan jc0 (pv 1) (qac ((wdt T).mono ∅) hr rfl T.wfj T.wej.kp T.wgd .nil qas #[pv 3,pv 0]) (by rfl))))))) (fun _ _ _ _=>(qam qax (pv 2) (pv 0) nofun)))))),?_⟩
 walk_at"d"
 try dsimp only[cxC]
 refine qad (σ:=[sr p,some (iV j),none,none,none,none,none]) rfl ?_;have etop:=hA.top;have en:=hA.n;have l7:=ok.l7;have ln7:(nm.map V.str).length=nm.length:=zB _;left;intro C s0 H0 fp l hl;refine jef nm.length (fun i H'=>jab H H'/\H' l=some (.lst ((qdt D (nm.take i) (nmG nm j)).map V.str))) ⟨qa4 hl _,qa1⟩ (fun i H' hi _=>by show i <((nm.map V.str).length:Int).toNat;rw[ln7];omega) (fun H' _=>by show((nm.map V.str).length:Int).toNat<=_;rw[ln7];omega) ?_ ?_
 .rintro i H' v H'' hi ⟨sm,el⟩ ⟨rfl,rfl⟩;have hA':=hA.same sm;have xn:atI (nm.map V.str) (0+(i:Int))=some (.str (nmG nm i)):=by rw[dD];exact qbt (by rw[zC,qcy hi];rfl)
  have etk:nm.take (i+1)=nm.take i++[nmG nm i]:=by rw[zM,qcy hi];rfl
  have hRw:Rd H'' dw (.dK kw):=.inl hA'.w;have hwA:=hA.wA;have fcons:∀b:Bool,decide (nmG nm i∈D.W0/\nmG nm j∈D.ln (nmG nm i))=b->qdt D (nm.take (i+1)) (nmG nm j)=qdt D (nm.take i) (nmG nm j)++if b then[nmG nm i] else[]:=fun b hb=>by
   unfold qdt;rw[etk,yE]
   congr 1
   cases b with
   |true=>rw[bI,gL hb];rfl
   |false=>rw[bI,gK (by rw[hb];simp)];rfl
  left;refine qcc (SqL.of hA'.n) xn ?_;left;refine jud hRw hwA ?_;by_cases c:nmG nm i∈D.W0
  .rw[gM c];have lo:=ok.lo;have len:=ok.len;left;refine⟨le,es,i,by rw[dD],hA'.e,lo,#[],#[],fun ll hll=>?_⟩;have s2:=qa4 hll (.lst ((qbx (elN es) i).map iV));have ell:upd H'' ll (.lst ((qbx (elN es) i).map iV)) ll=some (.lst ((qbx (elN es) i).map iV)):=qa1;have el2:=qaa (o':=.lst ((qbx (elN es) i).map iV)) el hll;generalize upd H'' ll (.lst ((qbx (elN es) i).map iV))=H2 at*;refine jr1 (SqL.of ell) ?_;by_cases c2:j∈qbx (elN es) i
   .rw[gM c2];have fc:=fcons true (gM ⟨c,(ok.at_line hi hj).mpr c2⟩);have zl:((qdt D (nm.take i) (nmG nm j)).map V.str).length<sizeLine:=by
     rw[zB];have h1:(qdt D (nm.take i) (nmG nm j)).length<=(nm.take i).length:=yC _ _;rw[zS] at h1;show _<16777216;omega
    left;refine qcc (SqL.of (s2 _ _ hA'.n)) xn ?_;refine⟨_,el2,zl,?_⟩;refine⟨qb9 (sm.trans s2) hl,?_⟩;rw[qa1,fc,zI];rfl
   .rw[gO c2];have fc:=fcons false (gO fun z=>c2 ((ok.at_line hi hj).mp z.2));left;refine⟨sm.trans s2,?_⟩;rw[el2,fc];show _=some (HO.lst ((_++[]).map V.str));rw[yA]
  .rw[gO c];have fc:=fcons false (gO fun z=>c z.1);left;refine⟨sm,?_⟩;rw[el,fc];show _=some (HO.lst ((_++[]).map V.str));rw[yA]
 rintro H' ⟨sm,el⟩;rw[zH] at el;exact q l H' sm hl el
theorem qfp{t1 b1 t2 b2:Int}{q1 q2:Rat}(h1:0<b1)(h2:0<b2)(e1:(t1:Rat)=q1*(b1:Rat))(e2:(t2:Rat)=q2*(b2:Rat)):(t1*b2<t2*b1)↔q1<q2:=by
 have p1:(0:Rat) <(b1:Rat):=by exact_mod_cast h1
 have p2:(0:Rat) <(b2:Rat):=by exact_mod_cast h2
 have c:(t1*b2<t2*b1)↔((t1*b2:Int):Rat) <((t2*b1:Int):Rat):=by exact_mod_cast Iff.rfl
 have pp:(0:Rat) <(b1:Rat)*(b2:Rat):=Rat.mul_pos p1 p2;rw[c,uS,uS,e1,e2];have x1:q1*(b1:Rat)*(b2:Rat)=q1*((b1:Rat)*(b2:Rat)):=by grind
 have x2:q2*(b2:Rat)*(b1:Rat)=q2*((b1:Rat)*(b2:Rat)):=by grind
 rw[x1,x2];constructor
 .intro h;apply uR;intro z;have:=vQ (show q2<=q1 by grind) (show(0:Rat)<=(b1:Rat)*(b2:Rat) by grind);grind
 .intro h;exact wI h pp
theorem jjn{t b:Int}(b0:0<b)(hb:b<=2^3000)(e:(t:Rat)=q*(b:Rat))(q0: -(((10^60:Nat)):Rat)<=q)(q1:q<=(((10^60:Nat)):Rat)):Hug t:=by
 have bq:(0:Rat)<=(b:Rat):=by exact_mod_cast fX b0
 have h1:(t:Rat)<=(((10^60:Nat)):Rat)*(b:Rat):=by rw[e];exact vQ q1 bq
 have h2: -(((10^60:Nat)):Rat)*(b:Rat)<=(t:Rat):=by rw[e];exact vQ q0 bq
 have c:(((((10^60:Nat)):Int)*b:Int):Rat)=(((10^60:Nat)):Rat)*(b:Rat):=by rw[uS,uN]
 have h1':t<=(((10^60:Nat)):Int)*b:=by
  have:(t:Rat)<=(((((10^60:Nat)):Int)*b:Int):Rat):=by rw[c];exact h1
  exact_mod_cast this
 have h2': -((((10^60:Nat)):Int)*b)<=t:=by
  have:((-((((10^60:Nat)):Int)*b):Int):Rat)<=(t:Rat):=by rw[Rat.intCast_neg,c];grind
  exact_mod_cast this
 have m:(((10^60:Nat)):Int)*b<=(((10^60:Nat)):Int)*2^3000:=Int.mul_le_mul_of_nonneg_left hb ∅;refine Hug.le (n:=10^60*2^3000) ?_ ∅;have e2:(((10^60:Nat)):Int)*2^3000=(((10^60*2^3000:Nat)):Int):=∅
 rw[e2] at m;generalize (((10^60:Nat)):Int)*b=x at*;generalize (10^60*2^3000:Nat)=y at*;omega
theorem je1{b:Int}(b0:0<b)(hb:b<=2^3000):Hug b:=by
 refine Hug.le (n:=2^3000) ?_ ∅;have e:((2:Int)^3000)=(((2^3000:Nat)):Int):=∅
 rw[e] at hb;generalize (2^3000:Nat)=y at*;omega
inductive jon(K:uX)(d:Ad)(vs:List V)(H:Hp)(Q:VK)(E:XK):Prop
 |mk(a1 a2:Addr)(t1 b1 t2 b2:Int)(_:vs=[.ref a1,.ref a2])(_:H a1=some (.tup [.int t1,.int b1]))(_:H a2=some (.tup [.int t2,.int b2]))(_:Hug t1)(_:Hug b1)(_:Hug t2)(_:Hug b2)(_:Q (.bl (decide (t1*b2<t2*b1))) H)
include T in
theorem w7i:jac P w K mg base CX0 1 d.wg3 d.wdv ["_law_one","_law_other"] (jon K d):=by
 exists T.w9u.ok wii
 .right
 obtain⟨a1,a2,t1,b1,t2,b2,rfl,e1,e2,n1,n2,n3,n4,q⟩:=h;exists qa6 (qaf (qcr jd2 (qag qd8 (~~~0) (~~~1)) (qag qd8 (~~~1) (~~~0)) (qar _))),[sr a1,sr a2];left;exact q
structure PsB(U:List Str)(s:Str->Rat):Prop where
 d:∀n∈U,(s n).den<2^290
 lo:∀n∈U,-(((10^35:Nat)):Rat)<=s n
 hi:∀n∈U,s n<=(((10^35:Nat)):Rat)
theorem q35:(0:Rat)<=(((10^35:Nat)):Rat)/\8*(((10^35:Nat)):Rat)<=(((10^60:Nat)):Rat):=by
 constructor
 .exact_mod_cast wR _
 .have:8*(10^35:Nat)<=(10^60:Nat):=∅
  exact_mod_cast this
theorem PsB.sum{U:List Str}(h:PsB U s){L:List Str}(sub:∀n∈L,n∈U)(l7:L.length<=7): -(7*(((10^35:Nat)):Rat))<=qbz L s/\qbz L s<=7*(((10^35:Nat)):Rat):=by
 have h1:=qdf (l:=L) (f:=s) (B:=(((10^35:Nat)):Rat)) fun n hn=>h.hi n (sub n hn);have h3:=qdf (l:=L) (f:=fun n=>(-1:Rat)*s n) (B:=(((10^35:Nat)):Rat)) fun n hn=>by have:=h.lo n (sub n hn);grind
 rw[qdn] at h3;have h2:((L.length:Nat):Rat)<=7:=by exact_mod_cast l7
 have m:=wT (show(0:Rat)<=7-((L.length:Nat):Rat) by grind) q35.1;exact⟨by grind,by grind⟩
theorem jvr(h:i<=7):((2:Int)^290)^i<=2^2100:=by
 have a:∀j,j<8->((2:Int)^290)^j<=2^2100:=∅
 exact a i #[]
def qgb{b:Int}(h:b<=2^2100):b<=2^3000:=aZ h ∅
theorem qez(q:Rat):((q.num:Int):Rat)=q*(((q.den:Nat):Int):Rat):=by rw[uN];exact qfn q
theorem PsB.at_{U:List Str}(h:PsB U s){n:Str}(hn:n∈U):Hug (s n).num/\Hug ((s n).den:Int)/\((s n).den:Int)<=2^290:=by
 have d:=h.d n hn;have d1:((s n).den:Int)<=2^290:=by
  have h2:(((s n).den:Nat):Int)<=(((2^290:Nat)):Int):=by exact_mod_cast xG d
  exact aZ h2 ∅
 have q3:=q35;have lo:=h.lo n hn;have hi:=h.hi n hn;have d3:((s n).den:Int)<=2^3000:=aZ d1 ∅;exact⟨jjn (den_pos _) d3 (qez _) (by grind) (by grind),je1 (den_pos _) d3,d1⟩
inductive je2(K:uX)(d:Ad)(vs:List V)(H:Hp)(Q:VK)(E:XK):Prop
 |mk(ds ls:Addr)(ks:List (Key×V))(W L:List Str)(s:Str->Rat)(_:vs=[.ref ds,.ref ls])(_:Rd H ds (.dK ks))(_:FD H ks (qc4 W s))(_:PsB W s)(_:H ls=some (.lst (L.map V.str)))(_:(∀n∈L,n∈W))(_:L.length<=7)(_:∀(p:Addr)(t b:Int),H p=none->0<b->b<=2^2100->(t:Rat)=qbz L s*(b:Rat)->Q (.ref p) (upd H p (.tup [.int t,.int b])))
include T in
theorem w6d:jac P w K mg base CX0 1 d.w7r d.w66 ["_law_shares","_law_some"] (je2 K d):=by
 exists T.w5s.ok w1y
 .right
 obtain⟨ds,ls,ks,W,L,s,rfl,hR,hF,hB,hl,sub,l7,q⟩:=h;exists (qa2 (qae (i:=2) w1y.nd rfl (uD rfl) qa5)
  (qa2 (qae (i:=3) w1y.nd rfl (uD rfl) qa5)
  (qa2 (qb1 vJ rfl (qaw (pv 1)) (qab (i:=4) w1y.nd rfl (uD rfl)) (qa2 (qae (i:=5) w1y.nd rfl (uD rfl) (pv 0|||pv 4))
  (qa2 (qae (i:=2) w1y.nd rfl (uD rfl) (qag qby (qag qd8 (pv 2) (~~~5)) (qag qd8 (~~~5) (pv 3))))
  (qa6 (qae (i:=3) w1y.nd rfl (uD rfl) (qag qd8 (pv 3) (~~~5)))))))
  (qa6 (qaf (qbc #[pv 2,pv 3])))))),[sr ds,sr ls,none,none,none,none];left;refine qbp (xs:=L.map V.str) (fun i σ H'=>H'=H/\∃(t b:Int)(w1 w2:Option V),σ=[sr ds,sr ls,some (.int t),some (.int b),w1,w2]/\0<b/\b<=(2^290)^i/\(t:Rat)=qbz (L.take i) s*(b:Rat)) ⟨rfl,0,1,none,none,rfl,∅,∅,by show(0:Rat)=0*_;grind⟩ ?_ ?_ ?_
 .rintro i σ H' _ ⟨rfl,_⟩;exact SqL.of hl
 .rintro i v σ H' hv ⟨rfl,t,b,w1,w2,rfl,b0,bb,et⟩;rw[zC] at hv;obtain⟨n,hn,rfl⟩:=uH.mp hv;have hi:=(uL.mp hn).1;have hnW:=sub n (zE hn);have etk:L.take (i+1)=L.take i++[n]:=by rw[zM,hn];rfl
  have b2:b<=2^3000:=qgb (aZ bb (jvr #[]));have sB:=hB.sum (L:=L.take i) (fun m hm=>sub m (zX hm)) (by rw[zS];omega);have q3:=q35;have nt:=jjn b0 b2 et (by grind) (by grind);have nb:=je1 b0 b2;obtain⟨nn,nd,d1⟩:=hB.at_ hnW;have d0:=den_pos (s n);have enu:=qez (s n);clear hv sB b2 q3;left;refine qcg hR hF (qbb hnW) fun a ha=>?_;unfold qb8 at ha;have key1:0<b*((s n).den:Int):=aB b0 d0;have key2:b*((s n).den:Int)<=(2^290)^(i+1):=by
   rw[Int.pow_succ];exact Int.mul_le_mul bb d1 (fX d0) (aZ (fX b0) bb)
  have key3:((t*((s n).den:Int)+(s n).num*b:Int):Rat)=qbz (L.take (i+1)) s*((b*((s n).den:Int):Int):Rat):=by
   rw[etk,qgi,xO,uS,uS,uS,et,enu];grind
  clear et enu d1 d0 bb b0;left;exact⟨rfl,_,_,_,_,rfl,key1,key2,key3⟩
 rintro σ H' ⟨rfl,t,b,w1,w2,rfl,b0,bb,et⟩;rw[zB,zH] at et;rw[zB] at bb;have b2:b<=2^2100:=aZ bb (jvr l7);left;exact q _ t b (by assumption) b0 b2 et
def waa(K:uX)(d:Ad):Sp:=fun vs H Q _=>∃(a:Addr)(q:Rat),vs=[.ref a]/\qb8 H a q/\Q (.bl true) H
theorem joo(q:Rat):ja9 q.num (q.den:Int)=1:=by
 unfold ja9;have:wZ q.num (q.den:Int)=1:=q.reduced;rw[this];rfl
include T in
theorem wa6:jac P w K mg base CX0 2 d.w4b d.w3s ["_law_found"] (waa K d):=by
 exists T.w70.ok wad
 .right
 obtain⟨a,x,rfl,ha,q⟩:=h;refine⟨_,(qa2 (qb5 (PW.pt (qe3 (qc1 (qbd (qaj qbn rfl T.w07 vI #[pv 0,qcd (v:=.ty "tuple") rfl T.wgn PyProof.Rows.boot_tuple rfl]))) (qe3 (qan jd1 (qaj qbm rfl T.w45 vY #[pv 0]) qa5 (qar _)) (qe3 (qc1 (qbd (qac ((wee T).mono ∅) hr rfl T.wfv T.wdc.kp T.wfi .nil qas #[~~~0]))) (qdv (qc1 (qbd (qac ((wee T).mono ∅) hr rfl T.wfv T.wdc.kp T.wfi .nil qas #[~~~0])))))))) (qa6 (qaf qcn)) qal)
  (qa6 (qaf (qey (qcr qg6 (~~~0) qa5 (qar _)) (qex (qcr qd9 (qac ((w8c T).mono ∅) hr rfl T.w98 T.w6v.kp T.w93 .nil qas #[~~~0,~~~0]) qa5 (qar _))))))),?_⟩
 walk_at"d"
 try dsimp only[cxC]
 refine qad (σ:=[sr a]) rfl ?_;have dp:=den_pos x;have gr:=joo x;unfold qb8 at ha;left;refine⟨_,rfl,?_⟩;left;refine⟨_,rfl,?_⟩;left;refine⟨_,_,rfl,fX dp,?_⟩;rw[gr];left;exact q
inductive je3(K:uX)(d:Ad)(vs:List V)(H:Hp)(Q:VK)(E:XK):Prop
 |mk(l dw:Addr)(as:List (Addr×Addr))(kw:List (Key×V))(D:Dl)(lv:Str->Rat)(_:vs=[.ref l,.ref dw])(_:jji H D lv D.W0 l as)(_:H dw=some (.dK kw))(_:AD kw (qbu D.W0 D.wa))(_:jak D)(_:vX D.W0=true)(_:∀H',jab H H'->Q (.bl true) H')
theorem jmh(D:Dl)(lv:Str->Rat)(n:Str):jez D lv n=.non\/∃z,jez D lv n=.str z:=by
 unfold jez
 split
 .exact .inl rfl
 .split
  .exact .inr ⟨_,rfl⟩
  .exact .inl rfl
def jji.same{H H':Hp}{D:Dl}{lv:Str->Rat}{W:List Str}{l:Addr}{as:List (Addr×Addr)}(h:jji H D lv W l as)(s:jab H H'):jji H' D lv W l as:=⟨s _ _ h.l,h.n,fun i n p a b=>⟨s _ _ (h.r i n p a b).1,s _ _ (h.r i n p a b).2⟩⟩
set_option maxHeartbeats 9000000 in
include T in
theorem wd6:jac P w K mg base CX0 3 d.w7q d.w65 ["_law_found","_law_wants"] (je3 K d):=by
 exists T.wao.ok w6a
 .right
 obtain⟨l,dw,as,kw,D,lv,rfl,hE,hw,hwA,ok,srt,q⟩:=h;refine⟨_,(qa2 (qb5 (PW.pt (qe3 (qc1 (qbd (qaj qbn rfl T.w07 vI #[pv 0,qcd (v:=.ty "list") rfl T.wec aY rfl]))) (qdv (qan jd1 (qaj qbm rfl T.w45 vY #[pv 0]) (qaj qgf rfl T.w45 vY #[pv 1]) (qar _))))) (qa6 (qaf qcn)) qal)
  (qa2 (qb1 vJ rfl (jq3 rfl T.wjb #[pv 0,qaj (qcb rfl) rfl T.w2n wF #[pv 1]]) (jlb rfl (qai (qab (i:=2) w6a.nd rfl (uD rfl)) (qai (qab (i:=3) w6a.nd rfl (uD rfl)) qcl))) (qa2 (qb5 (PW.pt (qe3 (qc1 (qbd (qaj qbn rfl T.w07 vI #[pv 2,qcd (v:=.ty "tuple") rfl T.wgn PyProof.Rows.boot_tuple rfl]))) (qe3 (qan jd1 (qaj qbm rfl T.w45 vY #[pv 2]) qa5 (qar _)) (qe3 (qan jd1 (~~~2) (pv 3) (qar _)) (qdv (qc1 (qbd (qac ((wa6 T).mono ∅) hr rfl T.wb3 T.w70.kp T.wba .nil qas #[~~~2])))))))) (qa6 (qaf qcn)) qal)
  (qa6 (qb5 (PW.pt (qg7 (qan qeg (~~~2) qcq (qar _)) (qep (qc1 (qbd (qaj qbn rfl T.w07 vI #[~~~2,qcd (v:=.ty "str") rfl T.wh1 bE rfl])))))) (qa6 (qaf qcn)) qal))))
  (qa6 (qaf qcn)))),?_⟩
 walk_at"d"
 try dsimp only[cxC]
 refine qad (σ:=[sr l,sr dw,none,none]) rfl ?_;have kp:=qdc hwA ok.nd;have l8:=ok.l8;have el:=hE.l;have hkl:kw.length=D.W0.length:=by
  have h1:(qc3 kw).length=kw.length:=by
   have h2:=congrArg wG hwA.keys;rw[zB,zB] at h2;exact h2.symm
  rw[<-h1];exact kp.length_eq
 have hla:(as.map fun p=>V.ref p.1).length=D.W0.length:=by rw[zB];exact hE.n
 left;refine jlz hw ?_;rw[hla,hkl];left;refine qdg (ss:=qc3 kw) (.inl hw) hwA.keys (by have:=kp.length_eq;omega) fun lo ss hlo hp hss=>?_;have ess:ss=D.W0:=qeo (hp.trans kp) hss srt;subst ess;have s1:=qa4 hlo (.lst (D.W0.map V.str));have elo:upd H lo (.lst (D.W0.map V.str)) lo=some (.lst (D.W0.map V.str)):=qa1;have hE1:=hE.same s1;generalize upd H lo (.lst (D.W0.map V.str))=H1 at*;clear hE el hp hss hlo hkl kp;left;refine jtx (SqL.of hE1.l) (SqL.of elo) ?_;refine jty (by rw[hla,zB]) (fun i σ H'=>jab H1 H'/\∃w2 w3:Option V,σ=[sr l,sr dw,w2,w3]) ⟨jab.refl _,none,none,rfl⟩ ?_ ?_ ?_
 .rintro i σ H' ⟨sm,_⟩;exact⟨SqL.of (sm _ _ hE1.l),SqL.of (sm _ _ elo)⟩
 .rintro i x y tz σ H' hx hy ⟨sm,w2,w3,rfl⟩ htz;rw[zC] at hx hy;obtain⟨pr,hpr,rfl⟩:=uH.mp hx;obtain⟨n,hn,rfl⟩:=uH.mp hy;have s2:=sm.trans (qa4 htz (.tup [V.ref pr.1,V.str n]));have etz:upd H' tz (.tup [V.ref pr.1,V.str n]) tz=some (.tup [V.ref pr.1,V.str n]):=qa1;obtain⟨e1,e2⟩:=(hE1.same s2).r i n pr hn hpr;generalize upd H' tz (.tup [V.ref pr.1,V.str n])=H2 at*;clear hx hy hpr hn hE1;rcases jmh D lv n with ep|⟨z,ep⟩
  .rw[ep] at e1;left;refine⟨pr.2,_,rfl,e2,?_⟩;left;exact⟨s2,_,_,rfl⟩
  .rw[ep] at e1;left;refine⟨pr.2,_,rfl,e2,?_⟩;left;exact⟨s2,_,_,rfl⟩
 rintro σ H' ⟨sm,w2,w3,rfl⟩;left;exact q H' (s1.trans sm)
theorem jds:∀{p:Str} {l:List Str},(p::l).Pairwise leS->PyProof.Rows.risingS p l=true
 |p,[],_=>rfl
 |p,x::r,h=>by
  have h1:=aD h (zG ..);unfold PyProof.Rows.risingS;rw[wC,fP];exact⟨h1,jds (List.Pairwise.of_cons h)⟩
theorem jmi(x:Str):∀{l:List Str},l.Pairwise leS->∃l':List Str,l'.Perm (x::l)/\l'.Pairwise leS
 | [],_=>⟨[x],List.Perm.refl _,List.pairwise_singleton _ _⟩
 |y::r,h=>by
  by_cases c:leS x y
  .refine⟨x::y::r,List.Perm.refl _,fB.mpr ⟨fun z hz=>?_,h⟩⟩;rcases zP.mp hz with rfl|hz
   .exact c
   .exact jdd c (aD h hz)
  .have c':leS y x:=qdk.mpr ((List.le_total _ _).resolve_left fun z=>c (qdk.mpr z));obtain⟨l',hp,hl⟩:=jmi x (List.Pairwise.of_cons h);refine⟨y::l',(hp.cons y).trans (List.Perm.swap x y r),fB.mpr ⟨fun z hz=>?_,hl⟩⟩;rcases zP.mp (hp.mem_iff.mp hz) with rfl|hz
   .exact c'
   .exact aD h hz
theorem jop:∀ss:List Str,∃ss':List Str,ss'.Perm ss/\vX ss'=true:=fun ss=>by
 have:∃ss':List Str,ss'.Perm ss/\ss'.Pairwise leS:=by
  induction ss with
  |nil=>exact⟨[],List.Perm.refl _,fO⟩
  |cons x r ih=>
   obtain⟨r',hp,hr⟩:=ih;obtain⟨l',hp',hl⟩:=jmi x hr;exact⟨l',hp'.trans (hp.cons x),hl⟩
 obtain⟨l,hp,hl⟩:=this;refine⟨l,hp,?_⟩
 cases l with
 |nil=>rfl
 |cons x r=>exact jds hl
structure R3 where
 a:Addr
 n:Str
 s:Addr
 pv:V
structure jmj(H:Hp)(r:R3):Prop where
 t:H r.a=some (.tup [.str r.n,.ref r.s,r.pv])
 p:r.pv=.non\/∃z,r.pv=.str z
def jmj.same{H H':Hp}{r:R3}(h:jmj H r)(s:jab H H'):jmj H' r:=⟨s _ _ h.t,h.p⟩
def jmj.tt{r:R3}(h:jmj H r)(s:qav H H'):jmj H' r:=⟨s _ _ h.t,h.p⟩
noncomputable def jdy(D:Dl)(lv:Str->Rat)(n:Str):V->Bool
 | .non=>decide (shQ D lv n=(D.wa n:Rat))
 | .str z=>decide (z∈(D.ln n).filter (stB D lv n))
 |_=>false
def jue(ok:jak D){n:Str}(hn:n∈D.W0):RB ((D.wa n:Int):Rat):=qfj (by
 have a0:=ok.a0 n hn;have a1:=ok.a1 n hn;exact uO (show(D.wa n).natAbs<=10^31 by omega) ∅)
def juf(ok:jak D){n h:Str}(hn:n∈D.W0)(hh:h∈D.ln n):RB ((D.rm h:Int):Rat):=qfj (by
 have a0:=ok.r0 n hn h hh;have a1:=ok.r1 n hn h hh;exact uO (show(D.rm h).natAbs<=10^31 by omega) ∅)
def RB.zero:RB 0:=⟨∅,∅⟩
def wct(K:uX)(d:Ad):Sp:=fun vs H Q _=>∃(a:Addr)(q:Rat)(w:Int),vs=[.ref a,.int w]/\qb8 H a q/\RB q/\RB (w:Rat)/\∀H',jab H H'->Q (.bl (decide (0<=q/\q<=(w:Rat)))) H'
include T in
theorem wd4:jac P w K mg base CX0 2 d.w7c d.w63 ["share","want"] (wct K d):=by
 exists T.war.ok wd8
 .right
 obtain⟨a,x,w,rfl,ha,rx,rw,q⟩:=h;refine⟨_,(qa6 (qaf (qey (jcs (qac ((w5q T).mono ∅) hr rfl T.w85 T.w68.kp T.w7w .nil qas #[pv 0,qbc #[qa5,qa5]])) (qex (jcs (qac ((w5q T).mono ∅) hr rfl T.w85 T.w68.kp T.w7w .nil qas #[qbc #[pv 1,qa5],pv 0])))))),?_⟩
 walk_at"d"
 try dsimp only[cxC]
 refine qad (σ:=[sr a,some (.int w)]) rfl ?_;left;rename_i p1 hp1;have s1:=qa4 hp1 (.tup [V.int 0,V.int 1]);have f1:qb8 (upd H p1 (.tup [V.int 0,V.int 1])) p1 0:=qa1;generalize upd H p1 (.tup [V.int 0,V.int 1])=H1 at*;refine⟨a,p1,x,0,rfl,ha.same s1,f1,rx,RB.zero,?_⟩;by_cases c:x<0
 .rw[gM c];rw[gO (p:=0<=x/\x<=(w:Rat)) (by grind)] at q;left;exact q _ s1
 .rw[gO c];left;rename_i p2 hp2;have s2:=s1.trans (qa4 hp2 (.tup [V.int w,V.int 1]));have f2:qb8 (upd H1 p2 (.tup [V.int w,V.int 1])) p2 (w:Rat):=qct qa1;generalize upd H1 p2 (.tup [V.int w,V.int 1])=H2 at*;refine⟨p2,a,(w:Rat),x,rfl,f2,ha.same s2,rw,rx,?_⟩;by_cases c2:(w:Rat)<x
  .rw[gM c2];rw[gO (p:=0<=x/\x<=(w:Rat)) (by grind)] at q;left;exact q _ s2
  .rw[gO c2];rw[gM (p:=0<=x/\x<=(w:Rat)) (by grind)] at q;left;exact q _ s2
theorem jf4{ln:Str->List Str}:∀{W:List Str},(∀n∈W,(ln n).length<=20)->(W.flatMap ln).length<=20*W.length
 | [],_=>uF _
 |n::W,h=>by
  have h1:=h n (zG ..);have h2:=jf4 (W:=W) fun m hm=>h m (zD _ hm);rw[List.flatMap_cons,zT,zR];omega
theorem FD.onl{kvs:List (Key×V)}(ok:jak D)(h:FD H kvs (onF D D.W0 g)):kvs.length<=140:=by
 have h1:(kvs.map (·.1)).length<=((D.W0.flatMap D.ln).map uE).length:=vM h.nd fun k hk=>by
  obtain⟨p,hp,rfl⟩:=zJ.mp hk;obtain⟨z,a,q,rfl,_,ez⟩:=h.sh p hp;unfold onF at ez;by_cases c:∃n∈D.W0,z∈D.ln n
  .obtain⟨n,hn,hz⟩:=c;exact zJ.mpr ⟨z,cS.mpr ⟨n,hn,hz⟩,rfl⟩
  .rw[gK c] at ez;cases ez
 rw[zB,zB] at h1;have h2:=jf4 ok.lz;have h3:=ok.l8;omega
noncomputable def rmB(D:Dl)(lv:Str->Rat):Bool:=D.W0.all fun n=>(D.ln n).all fun h=>decide (toQ D lv D.W0 h<=(D.rm h:Rat))
noncomputable def wB(D:Dl)(lv:Str->Rat):Key->Bool
 | .inr z=>decide ((D.rm z:Rat)<toQ D lv D.W0 z)
 | .inl _=>false
theorem jr2{kvs:List (Key×V)}(h:FD H kvs (onF D D.W0 (toQ D lv D.W0))):(!(kvs.map fun p=>wB D lv p.1).any id)=rmB D lv:=by
 have e:(kvs.map fun p=>wB D lv p.1).any id=true↔¬rmB D lv=true:=by
  unfold rmB;rw[yF];simp only[zQ,decide_eq_true_eq];constructor
  .rintro⟨b,hb,e⟩ all;obtain⟨p,hp,rfl⟩:=zJ.mp hb;obtain⟨z,a,q,rfl,_,ez⟩:=h.sh p hp;unfold onF at ez;by_cases c:∃n∈D.W0,z∈D.ln n
   .obtain⟨n,hn,hz⟩:=c;have h1:=all n hn z hz;have h2:(D.rm z:Rat)<toQ D lv D.W0 z:=of_decide_eq_true e;grind
   .rw[gK c] at ez;cases ez
  .intro no;refine uR fun w=>no fun n hn z hz=>uR fun lt=>w ?_;obtain⟨a,ha,_⟩:=h.get z _ (jjh hn hz);exact⟨true,zJ.mpr ⟨_,qf7 ha,gM (by grind)⟩,rfl⟩
 cases c:rmB D lv with
 |true=>
  cases c2:(kvs.map fun p=>wB D lv p.1).any id with
  |true=>exact absurd c (e.mp c2)
  |false=>rfl
 |false=>
  rw[e.mpr (by rw[c];simp)];rfl
inductive jba(K:uX)(d:Ad)(vs:List V)(H:Hp)(Q:VK)(E:XK):Prop
 |mk(sm t dr dlv dto dtp:Addr)(S:Ts)(D:Dl)(HS:List Str)(kr klv kto ktp:List (Key×V))(lv tp:Str->Rat)(_:vs=[.ref sm])(_:jak D)(_:jme d H sm t dr dlv dto dtp S D HS kr klv kto ktp lv tp)(_:∀H',jab H H'->Q (.bl (rmB D lv)) H')
include T in
theorem w5w:jac P w K mg base CX0 2 d.w20 d.w1p ["self"] (jba K d):=by
 exists T.w6n.ok w5v
 .right
 obtain⟨sm,t,dr,dlv,dto,dtp,S,D,HS,kr,klv,kto,ktp,lv,tp,rfl,ok,hM,q⟩:=h;refine⟨_,(qa6 (qaf (jcs (qaj (jii rfl) rfl T.wj7 PyProof.Rows.boot_any #[jlt (qcm (caps:=[0]) (cn:=["self"]) (qc8 rfl rfl (by rfl) (by rfl) rfl ⟨rfl,trivial⟩ (by rfl) rfl ⟨⟨rfl,rfl,rfl,rfl,_,rfl⟩,trivial⟩ ∅) rfl (qck (qay (pv 0) rfl)) (fun _ _ _ _=>qdd) (fun _ _ _ _=>(qac ((w5q T).mono ∅) hr rfl T.w85 T.w68.kp T.w7w .nil qas #[qbc #[qay (pv 1) rfl|||pv 0,qa5],qay (pv 1) rfl|||pv 0])))])))),?_⟩
 walk_at"d"
 try dsimp only[cxC]
 refine qad (σ:=[sr sm]) rfl ?_;have cl:=T.w2f;have a1:qaq K d.w02 "totals":=T.w0s;have a2:qaq K d.w02 "rooms":=T.w1d;obtain⟨dx,ho⟩:=hM.ob;have kl:=hM.oA.onl ok;left;refine jqx ?_;left;refine qf1 hM.o fun o=>?_;intro C s0 H0 fp na hna;have hF:upd H dto (.frz o (.dK kto)) dto=some (.frz o (.dK kto)):=qa1;have sb:SameBut dto H (upd H dto (.frz o (.dK kto))):=jfm hM.o;have hna0:H na=none:=by
  by_cases z:na=dto
  .subst z;rw[hF] at hna;cases hna
  .rw[qa7 z] at hna;exact hna
 generalize upd H dto (.frz o (.dK kto))=HF at*;refine jef kto.length (fun i H'=>SameBut dto H H'/\H' dto=some (.frz o (.dK kto))/\H' na=some (.lst (((kto.take i).map fun p=>wB D lv p.1).map V.bl))) ⟨fun b u n e=>qa4 hna _ _ _ (sb b u n e),qaa hF hna,qa1⟩ ?_ ?_ ?_ ?_
 .rintro i H' hi ⟨_,fz,_⟩;exact⟨fz,hi⟩
 .rintro H' ⟨_,fz,_⟩;exact⟨fz,uF _⟩
 .rintro i H' v H'' hi ⟨sx,fz,ea⟩ ⟨rfl,k,v',hk,rfl⟩;obtain⟨z,b,x,rfl,rfl,fr,ez⟩:=hM.oA.at hk;obtain⟨⟨m,hm,hml⟩,ex⟩:(∃n∈D.W0,z∈D.ln n)/\toQ D lv D.W0 z=x:=by
   unfold onF at ez;by_cases c:∃n∈D.W0,z∈D.ln n
   .rw[gL c] at ez;exact⟨c,uU ez⟩
   .rw[gK c] at ez;cases ez
  have hRo:Rd H'' dto (.dK kto):=.inr ⟨o,fz⟩;have hRr:Rd H'' dr (.dK kr):=by
   by_cases e:dr=dto
   .have e1:=hM.r;rw[e,hM.o] at e1
    cases e1
    rw[e];exact hRo
   .exact .inl (sx _ _ e hM.r)
  have tS:qav H H'':=fun a xs e=>sx a _ (fun z=>by subst z;rw[hM.o] at e;cases e) e;have ho2:=sx _ _ (jgp ho hM.o (by intro z;cases z)) ho;have hrA:=hM.rA;have gr:qbu HS D.rm z=some (D.rm z):=qba (hM.hs m hm z hml);have rbt:=hM.b.rt D.W0 ok.nd (fun n hn=>hn) z;have rbr:=juf ok hm hml;have zl:(((kto.take i).map fun p=>wB D lv p.1).map V.bl).length<sizeLine:=by
   rw[zB,zB,zS];show _<16777216;omega
  have etk:(kto.take (i+1)).map (fun p=>wB D lv p.1)=(kto.take i).map (fun p=>wB D lv p.1)++[decide ((D.rm z:Rat)<x)]:=by
   rw[zM,hk,zI,<-ex];rfl
  clear hk;rw[show kV (uE z)=V.str z from rfl];left;rename_i p1 hp1;have s1:=qa4 hp1 (.tup [V.int (D.rm z),V.int 1]);have f1:qb8 (upd H'' p1 (.tup [V.int (D.rm z),V.int 1])) p1 (D.rm z:Rat):=qct qa1;have oA1:=(hM.oA.t tS).t (qav.of s1);have fz1:=s1 _ _ fz;have ea1:=s1 _ _ ea;generalize upd H'' p1 (.tup [V.int (D.rm z),V.int 1])=H3 at*;refine qcg (.inr ⟨o,fz1⟩) oA1 ez fun b1 hb1=>?_;left;refine⟨p1,b1,_,_,rfl,f1,hb1,rbr,by rw[<-ex];exact rbt,?_⟩;refine⟨_,ea1,zl,fun b u n e=>?_,?_,?_⟩
  .rw[qa7 fun w=>by subst w;rw[hna0] at e;cases e];exact s1 _ _ (sx b u n e)
  .rw[qa7 fun w=>by rw[<-w,hM.o] at hna0;cases hna0];exact fz1
  .rw[qa1,etk,zI];rfl
 rintro H' ⟨sx,fz,ea⟩;rw[zH] at ea;have nns:na≠dto:=fun z=>by subst z;rw[hM.o] at hna0;cases hna0
 have eN:upd H' dto (.dK kto) na=some (.lst ((kto.map fun p=>wB D lv p.1).map V.bl)):=by rw[qa7 nns];exact ea
 have sm:jab H (upd H' dto (.dK kto)):=qd3 hM.o sx;refine⟨_,qf0 fz (qce hM.o),?_⟩;left;refine jt5 (SqL.of eN) ?_;left;rw[jr2 hM.oA];exact q _ sm
inductive je4(K:uX)(d:Ad)(vs:List V)(H:Hp)(Q:VK)(E:XK):Prop
 |mk(sm t dr dlv dto dtp:Addr)(S:Ts)(D:Dl)(HS:List Str)(kr klv kto ktp:List (Key×V))(lv tp:Str->Rat)(r:R3)(_:vs=[.ref sm,.ref r.a,.int (D.wa r.n)])(_:jak D)(_:jme d H sm t dr dlv dto dtp S D HS kr klv kto ktp lv tp)(_:jmj H r)(_:qb8 H r.s (shQ D lv r.n))(_:r.n∈D.W0)(_:∀H',jab H H'->Q (.bl (jdy D lv r.n r.pv)) H')
include T in
theorem wdb:jac P w K mg base (My.CX1 P w) 7 d.w7u d.w61 ["sums","row","want"] (je4 K d):=by
 exists okX T.waj we7
 .right
 obtain⟨sm,t,dr,dlv,dto,dtp,S,D,HS,kr,klv,kto,ktp,lv,tp,r,rfl,ok,hM,hR,hF,hn,q⟩:=h;refine⟨_,(qa2 (qb5 (qan jd5 (~~~1) qcq (qar _)) (qa6 (qaf (qcr (jhw (hu8 hr)) (~~~1) (qbc #[pv 2,qa5]) (qar _)))) qal)
  (qa6 (qaf (qcr jc0 (~~~1) (qb6 (pv 0) T.w2f T.w0n ((w4p T).mono ∅) hr T.w4w .nil qau #[~~~1]) (by rfl))))),?_⟩
 walk_at"d"
 try dsimp only[cxC]
 refine qad (σ:=[sr sm,sr r.a,some (.int (D.wa r.n))]) rfl ?_;have cl:=T.w2f;have rT:=hR.t;rcases hR.p with ep|⟨z,ep⟩
 .rw[ep] at rT q;left;rename_i p1 hp1;have n1:r.s≠p1:=qa9 hF hp1;have s1:=qa4 hp1 (.tup [V.int (D.wa r.n),V.int 1]);refine jnj (n:=1) n1 ∅ (jjg (hF.same s1) (qct qa1) n1) ?_;exact q _ s1
 .rw[ep] at rT q;obtain⟨dx,ho⟩:=hM.ob;left;refine⟨sm,t,dr,dlv,dto,dtp,S,D,HS,kr,klv,kto,ktp,lv,tp,r.n,rfl,ok,hM,hn,fun l H1 s1 fl el=>?_⟩;refine jrh (SqL.of el) ?_;exact q _ s1
structure Gd(H:Hp)(D:Dl)(lv:Str->Rat)(r:R3):Prop where
 at_:jmj H r
 f:r.n∈D.W0->qb8 H r.s (shQ D lv r.n)
theorem Gd.same{H H':Hp}{D:Dl}{lv:Str->Rat}{r:R3}(h:Gd H D lv r)(s:jab H H'):Gd H' D lv r:=⟨h.at_.same s,fun z=>(h.f z).same s⟩
theorem Gd.tt{r:R3}(h:Gd H D lv r)(s:qav H H'):Gd H' D lv r:=⟨h.at_.tt s,fun z=>s _ _ (h.f z)⟩
theorem jf5{K:uX}{L':List Str}(ha:SqL K H a (L.map V.str))(hb:SqL K H b (L'.map V.str))(ne:a≠b):DEq K H (n+1) (.ref a) (.ref b) (decide (L=L')):=by
 by_cases c:L.length=L'.length
 .have z:=DEq.ls (n:=n) (e:=fun j=>decide (L[j]?=L'[j]?)) ha hb ne (by rw[zB,zB];exact c) fun j h1 h2=>by
   rw[List.getElem_map,List.getElem_map];have k1:j<L.length:=by rw[zB] at h1;exact h1
   have k2:j<L'.length:=by omega
   have w:=DEq.flat (K:=K) (H:=H) (n:=n) (x:=.str L[j]) (y:=.str L'[j]) rfl rfl;have e:eqV (.str L[j]) (.str L'[j])=decide (L[j]?=L'[j]?):=by
    rw[zA k1,zA k2];by_cases d:L[j]=L'[j]
    .rw[d];simp[eqV]
    .rw[gO fun z=>d (uU z)];simp[eqV,d]
   rw[e] at w;exact w
  have e:(vK (L.map V.str).length).all (fun j=>decide (L[j]?=L'[j]?))=decide (L=L'):=by
   rw[zB];by_cases d:L=L'
   .subst d;simp
   .rw[gO d,bA];refine uR fun no=>d (List.ext_getElem? fun j=>?_);by_cases k:j<L.length
    .exact uR fun w=>no ⟨j,yI.mpr k,by simpa using w⟩
    .rw[dM #[],dM #[]]
  rw[e] at z;exact z
 .have z:=DEq.lsN (K:=K) (H:=H) (n:=n) ha hb ne (by rw[zB,zB];exact c);rw[gO fun e=>c (congrArg wG e)];exact z
structure Shb(D:Dl)(lv:Str->Rat):Prop where
 rl:∀n∈D.W0,RB (lv n)
 rs:∀n∈D.W0,RB (shQ D lv n)
 rt:∀V:List Str,V.Nodup->(∀n∈V,n∈D.W0)->∀h,RB (toQ D lv V h)
 lo:∀n∈D.W0,-(((10^35:Nat)):Rat)<=shQ D lv n
 hi:∀n∈D.W0,shQ D lv n<=(((10^35:Nat)):Rat)
noncomputable def okN(D:Dl)(lv:Str->Rat)(n:Str):Bool:=decide (0<=shQ D lv n/\shQ D lv n<=(D.wa n:Rat))
noncomputable def evB(D:Dl)(lv:Str->Rat)(rows:List R3):Bool:=decide (rows.map (·.n)=D.W0) && (rows.all fun r=>okN D lv r.n) && rmB D lv && rows.all fun r=>jdy D lv r.n r.pv
def Shb.lvb(ok:jak D){lv:Str->Rat}(h:Shb D lv)(all:∀n∈D.W0,okN D lv n=true):LvB D lv:=⟨fun n hn=>by
 have h1:=(of_decide_eq_true (all n hn)).1;have h2:=(wtQ ok hn).1;have h3:shQ D lv n=lv n*(D.wt n:Rat):=rfl;rw[h3] at h1;refine uR fun z=>?_;have h4:=wI (show lv n<0 by grind) (show(0:Rat) <(D.wt n:Rat) by grind);grind,h.rl,h.rs,h.rt⟩
inductive jcf(K:uX)(d:Ad)(vs:List V)(H:Hp)(Q:VK)(E:XK):Prop
 |mk(t dr dw l:Addr)(wv:V)(S:Ts)(D:Dl)(HS:List Str)(kr kw:List (Key×V))(lv:Str->Rat)(rows:List R3)(_:vs=[.ref t,.ref dr,.ref dw,.ref l,wv])(_:jak D)(_:vX D.W0=true)(_:TrD d H t S D)(_:Wgh H S D wv)(_:H dr=some (.dK kr))(_:AD kr (qbu HS D.rm))(_:H dw=some (.dK kw))(_:AD kw (qbu D.W0 D.wa))(_:(∀n∈D.W0,∀h∈D.ln n,h∈HS))(_:H l=some (.lst (rows.map fun r=>V.ref r.a)))(_:(∀r∈rows,Gd H D lv r))(_:rows.length<=20)(_:Shb D lv)(_:∀H',jab H H'->Q (.bl (evB D lv rows)) H')
set_option maxHeartbeats 9000000 in
include T in
theorem wah:jac P w K mg base (My.CX1 P w) 10 d.w97 d.w5o ["tree","rooms","wants","dealt","weigh"] (jcf K d):=by
 exists jsd T.w9k w5n
 .right
 obtain⟨t,dr,dw,l,wv,S,D,HS,kr,kw,lv,rows,rfl,ok,srt,hT,hg,hr0,hrA,hw,hwA,hs,hl,hR,rl,hS,q⟩:=h;refine⟨_,(qa2 (qb5 (qan (jhx (hu8 hr)) (qcm (caps:=[]) (cn:=[]) (qc8 rfl rfl (by rfl) (by rfl) rfl trivial (by rfl) rfl trivial ∅) rfl (qaw (pv 3)) (fun _ _ _ _=>qdd) (fun _ _ _ _=>(~~~0))) (qaj (qcb rfl) rfl T.w2n wF #[pv 2]) (qar _)) (qa6 (qaf qcn)) qal)
  (qa2 (qb5 (qc1 (qbd (qaj (qen rfl) rfl T.wgu bF #[qcm (caps:=[2]) (cn:=["wants"]) (qc8 rfl rfl (by rfl) (by rfl) rfl ⟨rfl,trivial⟩ (by rfl) rfl ⟨⟨rfl,rfl,rfl,rfl,_,rfl⟩,trivial⟩ ∅) rfl (qaw (pv 3)) (fun _ _ _ _=>qdd) (fun _ _ _ _=>(qac ((wd4 T).mono ∅) hr rfl T.wf1 T.war.kp T.wez .nil qas #[~~~0,pv 1|||~~~0]))]))) (qa6 (qaf qcn)) qal)
  (qa2 (qae (i:=5) w5n.nd rfl (uD rfl) qb7)
  (qa2 (qb1 (qbj rfl rfl) rfl (qaw (pv 3)) (qab (i:=6) w5n.nd rfl (uD rfl)) (qa6 (qb2 (qap hr) (pv 5) (~~~6) (~~~6) rfl)))
  (qa2 (qae (i:=7) w5n.nd rfl (eZ rfl) (qf9 T.w7j ((w87 T).mono ∅) hr rfl T.whj T.w91 .nil qau #[pv 0,pv 1,pv 5,qaz ((w77 T).mono ∅) hr rfl T.w8j T.w58.kp T.w8d .nil qau #[pv 0,pv 2,pv 4]]))
  (qa6 (qaf (qey (jj2 (pv 7) T.w2f T.w0h ((w5w T).mono ∅) hr T.w69 .nil qas) (qex (qaj (qen rfl) rfl T.wgu bF #[jkn rfl rfl rfl qau (caps:=[2,7]) (cn:=["wants","sums"]) (qc8 rfl rfl (by rfl) (by rfl) rfl ⟨rfl,⟨rfl,trivial⟩⟩ (by rfl) rfl ⟨⟨rfl,rfl,rfl,rfl,_,rfl⟩,⟨⟨rfl,rfl,rfl,rfl,_,rfl⟩,trivial⟩⟩ ∅) rfl (qaw (pv 3)) (fun _ _ _ _=>qdd) (fun _ _ _ _=>(jie ((wdb T).mono ∅) hr rfl T.wev T.waj.kp T.wf4 .nil #[pv 2,pv 0,pv 1|||~~~0]))])))))))))),?_⟩
 walk_at"d"
 try dsimp only[cxC]
 refine qad (σ:=[sr t,sr dr,sr dw,sr l,some (wv),none,none,none]) rfl ?_;have cl:=T.w2f;have l8:=ok.l8;have kp:=qdc hwA ok.nd;left;intro C s9 H9 fp lc hlc;refine jef rows.length (fun i' Hx=>jab H Hx/\Hx lc=some (.lst (((rows.take i').map (·.n)).map V.str))) ⟨qa4 hlc _,qa1⟩ ?_ ?_ ?_ ?_
 .rintro i' Hx hi' ⟨sx,_⟩;exact⟨_,.ref (rows[i']).a,SqL.of (sx _ _ hl),by rw[zC,zA hi'];rfl⟩
 .rintro Hx ⟨sx,_⟩;exact⟨_,SqL.of (sx _ _ hl),by rw[zB];exact uF _⟩
 .rintro i' Hx v H'' hi' ⟨sx,ea⟩ ⟨rfl,hv⟩;have hv:=hv _ (SqL.of (sx _ _ hl));rw[zC,zA hi'] at hv
  cases hv
  have hrm:=zY hi';have etj:rows.take (i'+1)=rows.take i'++[rows[i']]:=by rw[zM,zA hi'];rfl
  generalize rows[i']=r at*;have rT:=((hR r hrm).same sx).at_.t;have zl:(((rows.take i').map (·.n)).map V.str).length<sizeLine:=by
   rw[zB,zB,zS];show _<16777216;omega
  left;refine⟨qb9 sx hlc,?_⟩;rw[qa1,etj,zI,zI];rfl
 rintro H1 ⟨s1,elc⟩;rw[zH] at elc;left;refine qdg (ss:=qc3 kw) (.inl (s1 _ _ hw)) hwA.keys (by have:=kp.length_eq;omega) fun lo ss hlo hp hss=>?_;have ess:ss=D.W0:=qeo (hp.trans kp) hss srt;subst ess;have nlo:lc≠lo:=qa9 elc hlo;have s2:=s1.trans (qa4 hlo (.lst (D.W0.map V.str)));left;refine jnk (n:=1) nlo ∅ (jf5 (n:=0) (SqL.of (qaa elc hlo)) (SqL.of qa1) nlo) ?_;generalize upd H1 lo (.lst (D.W0.map V.str))=H2 at*;clear hlo hp hss elc s1 nlo hlc;by_cases cn:rows.map (·.n)=D.W0
 .rw[gM cn];have inW:∀r∈rows,r.n∈D.W0:=fun r hr=>by rw[<-cn];exact zJ.mpr ⟨r,hr,rfl⟩
  have hl2:=s2 _ _ hl;have hR2:∀r∈rows,Gd H2 D lv r:=fun r hr=>(hR r hr).same s2;left;intro C2 s92 H92 fp2 la hla;refine jef rows.length (fun i' Hx=>jab H2 Hx/\Hx la=some (.lst (((rows.take i').map fun r=>okN D lv r.n).map V.bl))) ⟨qa4 hla _,qa1⟩ ?_ ?_ ?_ ?_
  .rintro i' Hx hi' ⟨sx,_⟩;exact⟨_,.ref (rows[i']).a,SqL.of (sx _ _ hl2),by rw[zC,zA hi'];rfl⟩
  .rintro Hx ⟨sx,_⟩;exact⟨_,SqL.of (sx _ _ hl2),by rw[zB];exact uF _⟩
  .rintro i' Hx v H'' hi' ⟨sx,ea⟩ ⟨rfl,hv⟩;have hv:=hv _ (SqL.of (sx _ _ hl2));rw[zC,zA hi'] at hv
   cases hv
   have hrm:=zY hi';have etj:rows.take (i'+1)=rows.take i'++[rows[i']]:=by rw[zM,zA hi'];rfl
   generalize rows[i']=r at*;have hG:=(hR2 r hrm).same sx;have rT:=hG.at_.t;have hn:=inW r hrm;have hRw:Rd H'' dw (.dK kw):=.inl (sx _ _ (s2 _ _ hw));have gw:qbu D.W0 D.wa r.n=some (D.wa r.n):=qba hn;have zl:(((rows.take i').map fun r=>okN D lv r.n).map V.bl).length<sizeLine:=by
    rw[zB,zB,zS];show _<16777216;omega
   left;refine⟨r.s,shQ D lv r.n,D.wa r.n,rfl,hG.f hn,hS.rs r.n hn,jue ok hn,fun Hy sy=>?_⟩;refine⟨_,sy _ _ ea,zl,qb9 (sx.trans sy) hla,?_⟩;rw[qa1,etj,zI,zI];rfl
  rintro H3 ⟨s3,ela⟩;rw[zH] at ela;have s03:=s2.trans s3;left;refine jke (SqL.of ela) ?_;by_cases call:(rows.map fun r=>okN D lv r.n).all id=true
  rotate_left
  .have cf:(rows.map fun r=>okN D lv r.n).all id=false:=by simpa using call
   rw[cf];left;have e:evB D lv rows=false:=by
    unfold evB;rw[yO] at cf;rw[show(rows.all fun r=>okN D lv r.n)=false from cf,yZ,xV,xV]
   rw[e] at q;exact q _ s03
  rw[call];have okA:∀n∈D.W0,okN D lv n=true:=fun n hn=>by
   rw[<-cn] at hn;obtain⟨r,hr,rfl⟩:=zJ.mp hn;rw[yO] at call;exact zQ.mp call r hr
  have hB:=hS.lvb ok okA;have hR3:∀r∈rows,Gd H3 D lv r:=fun r hr=>(hR2 r hr).same s3;have hl3:=s3 _ _ hl2;clear ela hla s2 s3 hl2 hR2;left;rename_i ds hds;have s4:=s03.trans (qa4 hds (.dK []));have eds:upd H3 ds (.dK []) ds=some (.dK []):=qa1;have fds:=s03.free hds;have nld:l≠ds:=qa9 hl fds;have hR4:∀r∈rows,Gd (upd H3 ds (.dK [])) D lv r:=fun r hr=>(hR3 r hr).same (qa4 hds _);generalize upd H3 ds (.dK [])=H4 at*;have hl4:=s4 _ _ hl;clear hR3 hl3 hds s03;left;refine qbp (xs:=rows.map fun r=>V.ref r.a) (fun i σ H'=>∃(ks:List (Key×V))(w6:Option V),σ=[sr t,sr dr,sr dw,sr l,some wv,sr ds,w6,none]/\SameBut ds H4 H'/\H' ds=some (.dK ks)/\FD H' ks (qc4 ((rows.take i).map (·.n)) (shQ D lv))) ⟨[],none,rfl,fun b u _ e=>e,eds,FD.nil.cast fun z=>rfl⟩ ?_ ?_ ?_
  .rintro i σ H' _ ⟨ks,w6,rfl,sb,_⟩;exact SqL.of (sb _ _ nld hl4)
  .rintro i v σ H' hv ⟨ks,w6,rfl,sb,ed,hF⟩;rw[zC] at hv;obtain⟨r,hr,rfl⟩:=uH.mp hv;have hrm:=zE hr;have hn:=inW r hrm;have tS:qav H4 H':=fun b xs e=>sb b _ (fun z=>by subst z;rw[eds] at e;cases e) e;have hG:=(hR4 r hrm).tt tS;have rT:=hG.at_.t;have etk:(rows.take (i+1)).map (·.n)=(rows.take i).map (·.n)++[r.n]:=by rw[zM,hr,zI];rfl
   have hko:ks.length<=D.W0.length:=hF.len fun z hz=>by
    obtain⟨x,hx,rfl⟩:=zJ.mp hz;exact inW x (zX hx)
   have zk:ks.length<sizeLine:=by show _<16777216;omega
   clear hv hko;left;have t8:qav H' (upd H' ds (.dK (qbh ks (uE r.n) (.ref r.s)))):=qav.upd ed fun xs e=>by cases e
   exact⟨_,_,rfl,fun b u hb e=>by rw[qa7 hb];exact sb b u hb e,qa1,((hF.put r.n (hG.f hn)).t t8).cast fun y=>by rw[etk,qfd]⟩
  rintro σ H5 ⟨ks,w6,rfl,sb,ed,hF⟩;rw[zB,zH,cn] at hF;have s5:jab H H5:=fun b u e=>sb b u (fun z=>by subst z;rw[fds] at e;cases e) (s4 b u e);clear sb eds nld hl4 hR4 s4;left;refine⟨t,dw,wv,S,D,kw,rfl,ok,srt,hT.same s5,hg.same s5,s5 _ _ hw,hwA,fun lg kg H6 s6 flg elg hgA=>?_⟩;have s06:=s5.trans s6;have ngs:lg≠ds:=fun z=>by subst z;rw[ed] at flg;cases flg
  have ed6:=s6 _ _ ed;have hF6:=hF.t (qav.of s6);clear ed hF s5 s6 flg;left;intro x dx hx hdx ndx;have sH:jab H6 (upd (upd H6 dx (.own x)) x (.ins d.w02 dx [])):=(qa4 hdx _).trans (qa4 (by rw[qa7 ndx.symm];exact hx) _);have hTo:upd (upd H6 dx (.own x)) x (.ins d.w02 dx []) x=some (.ins d.w02 dx []):=qa1;have hx0:=s06.free hx;generalize upd (upd H6 dx (.own x)) x (.ins d.w02 dx [])=H7 at*;refine⟨x,dx,t,dr,ds,lg,S,D,lv,ks,kg,rfl,hTo,ok,⟨H,s06.trans sH,hx0,fds,hT⟩,hB,sH _ _ ed6,hF6.t (qav.of sH),hF6.keys ok.nd,sH _ _ elg,hgA,ngs,fun dlv dto dtp klv kto ktp tp H8 sb8 ex8 elv8 hlv8 eto8 hto8 etp8 htp8 hTp fdlv fdto fdtp=>⟨rfl,?_⟩⟩;have s8:jab H6 H8:=fun b u e=>sb8 b u (fun z=>by subst z;rw[hx] at e;cases e) (sH b u e);have s08:=s06.trans s8;have hM:jme d H8 x t dr dlv dto dtp S D HS kr klv kto ktp lv tp:=⟨⟨dx,ex8⟩,hT.same s08,s08 _ _ hr0,hrA,elv8,hlv8,eto8,hto8,etp8,htp8,hTp,hB,hs⟩;clear sb8 elv8 hlv8 eto8 hto8 etp8 htp8 fdlv fdto fdtp hTo sH hx hdx ed6 hF6 s06 s8 elg;left;refine⟨x,t,dr,dlv,dto,dtp,S,D,HS,kr,klv,kto,ktp,lv,tp,rfl,ok,hM,fun HA sA=>?_⟩;have hMA:=hM.same sA;have s0A:=s08.trans sA;have hlA:=s0A _ _ hl;have hRA:∀r∈rows,Gd HA D lv r:=fun r hr=>(hR r hr).same s0A;clear hM s08 sA;by_cases crm:rmB D lv=true
  rotate_left
  .have cf:rmB D lv=false:=by simpa using crm
   have e:evB D lv rows=false:=by unfold evB;rw[cf,yZ,xV]
   rw[cf];rw[e] at q;left;exact q _ s0A
  rw[crm];left;intro C3 s93 H93 fp3 lz hlz;refine jef rows.length (fun i' Hx=>jab HA Hx/\Hx lz=some (.lst (((rows.take i').map fun r=>jdy D lv r.n r.pv).map V.bl))) ⟨qa4 hlz _,qa1⟩ ?_ ?_ ?_ ?_
  .rintro i' Hx hi' ⟨sx,_⟩;exact⟨_,.ref (rows[i']).a,SqL.of (sx _ _ hlA),by rw[zC,zA hi'];rfl⟩
  .rintro Hx ⟨sx,_⟩;exact⟨_,SqL.of (sx _ _ hlA),by rw[zB];exact uF _⟩
  .rintro i' Hx v H'' hi' ⟨sx,ea⟩ ⟨rfl,hv⟩;have hv:=hv _ (SqL.of (sx _ _ hlA));rw[zC,zA hi'] at hv
   cases hv
   have hrm:=zY hi';have etj:rows.take (i'+1)=rows.take i'++[rows[i']]:=by rw[zM,zA hi'];rfl
   generalize rows[i']=r at*;have hG:=(hRA r hrm).same sx;have rT:=hG.at_.t;have hn:=inW r hrm;have hRw:Rd H'' dw (.dK kw):=.inl (sx _ _ (s0A _ _ hw));have gw:qbu D.W0 D.wa r.n=some (D.wa r.n):=qba hn;have zl:(((rows.take i').map fun r=>jdy D lv r.n r.pv).map V.bl).length<sizeLine:=by
    rw[zB,zB,zS];show _<16777216;omega
   left;refine⟨x,t,dr,dlv,dto,dtp,S,D,HS,kr,klv,kto,ktp,lv,tp,r,rfl,ok,hMA.same sx,hG.at_,hG.f hn,hn,fun Hy sy=>?_⟩;refine⟨_,sy _ _ ea,zl,qb9 (sx.trans sy) hlz,?_⟩;rw[qa1,etj,zI,zI];rfl
  rintro HB ⟨sB,elz⟩;rw[zH] at elz;left;refine jke (SqL.of elz) ?_;have e:(rows.map fun r=>jdy D lv r.n r.pv).all id=evB D lv rows:=by
   unfold evB;have c2:(rows.all fun r=>okN D lv r.n)=true:=by rw[yO] at call;exact call
   rw[gM cn,c2,crm,yO];rfl
  rw[e];exact q _ (s0A.trans sB)
 .rw[gO cn];left;have e:evB D lv rows=false:=by unfold evB;rw[gO cn];rfl
  rw[e] at q;exact q _ s2
theorem jjo{n:Str} :((shQ D lv n).num:Rat)=lv n*(((shQ D lv n).den:Int)*D.wt n:Int):=by
 have h:=qfn (shQ D lv n);rw[uS,uN,h];have:shQ D lv n=lv n*(D.wt n:Rat):=rfl;generalize (((shQ D lv n).den:Nat):Rat)=x at*;rw[this];grind
def RB.hn(h:RB q):Hug q.num:=Hug.small (vD h.n (xD ∅ ∅))
def RB.hd(h:RB q):Hug (q.den:Int):=Hug.small (by rw[vO];exact vD h.d (xD ∅ ∅))
theorem qe2{s:Str->Rat}{P:Str->Bool}:∀{l:List Str},qbz (l.filter P) s=qbz l fun n=>if P n=true then s n else 0
 | []=>rfl
 |n::l=>by
  show _=(if P n=true then s n else 0)+qbz l _;by_cases c:P n=true
  .rw[cR c,gL c,<-qe2];rfl
  .rw[aO c,gK c,<-qe2];grind
theorem qdi{h:Str} :z∈qdt D nm h↔z∈nm/\z∈D.W0/\h∈D.ln z:=by unfold qdt;rw[zW,decide_eq_true_eq]
theorem je5(ok:jco nm es D)(lv:Str->Rat)(h:Str):qbz (qdt D nm h) (shQ D lv)=toQ D lv D.W0 h:=by
 have p:(qdt D nm h).Perm (D.W0.filter fun n=>decide (h∈D.ln n)):=by
  refine(cD (ok.nd.filter _) (ok.ok.nd.filter _)).mpr fun z=>?_;show z∈qdt D nm h↔_;rw[qdi,zW,decide_eq_true_eq];exact⟨fun a=>a.2,fun a=>⟨ok.sub z a.1,a⟩⟩
 rw[jdq p,qe2];unfold toQ;exact qc9 fun n _=>by
  by_cases c:h∈D.ln n
  .rw[gL (gM c),gL c]
  .rw[gK (by simpa using c),gK c]
def Shb.ps(h:Shb D lv):PsB D.W0 (shQ D lv):=⟨fun n hn=>(h.rs n hn).d,h.lo,h.hi⟩
def jjp{K:uX}{p:Addr}(h:SqL K H p (nm.map V.str))(q:Q (.bl (!decide (y∈nm))) H):rIn K true (.str y) (.ref p) H Q:=⟨p,_,rfl,.inl h,rfl,My.qel nm,by rw[My.qfw];exact q⟩
def jdt{x:Int}(h0:0<=x)(h1:x<=10^31):Hug x:=Hug.small (uO (show x.natAbs<=10^31 by omega) ∅)
inductive joq(K:uX)(d:Ad)(vs:List V)(H:Hp)(Q:VK)(E:XK):Prop
 |mk(p ln le dg dw dr:Addr)(nm:List Str)(es:List Nat)(kg kw kr:List (Key×V))(D:Dl)(ds:Addr)(ks:List (Key×V))(lv:Str->Rat)(z:Str)(j:Nat)(_:vs=[.ref p,.ref ds,.str z,iV j])(_:jdx H p ln le dg dw dr nm es kg kw kr D)(_:jco nm es D)(_:(∀y∈nm,0<=D.rm y/\D.rm y<=10^31))(_:H ds=some (.dK ks))(_:FD H ks (qc4 D.W0 (shQ D lv)))(_:Shb D lv)(_:z∈D.W0)(_:j<nm.length)(_:∀H',jab H H'->Q (.bl (decide (nmG nm j∈(D.ln z).filter (stB D lv z)))) H')
set_option maxHeartbeats 9000000 in
include T in
theorem wgk:jac P w K mg base CX0 5 d.wfp d.wdd ["_law_sharing_here","_law_shares","_law_name_here","_law_at"] (joq K d):=by
 exists T.wgl.ok w3u
 .right
 obtain⟨p,ln,le,dg,dw,dr,nm,es,kg,kw,kr,D,ds,ks,lv,z,j,rfl,hA,ok,rmb,hds,hP,hS,hz,hj,q⟩:=h;refine⟨_,(qa2 (qdy (pv 0) (qdz rfl (qai (qab (i:=4) w3u.nd rfl (uD rfl)) (qai (qab (i:=5) w3u.nd rfl (uD rfl)) (qai (qab (i:=6) w3u.nd rfl (uD rfl)) (qai (qab (i:=7) w3u.nd rfl (uD rfl)) (qai (qab (i:=8) w3u.nd rfl (uD rfl)) qcl)))))))
  (qa2 (qae (i:=9) w3u.nd rfl (uD rfl) (qac ((w9z T).mono ∅) hr rfl T.wax T.w8z.kp T.wb8 .nil qas #[pv 0,pv 3]))
  (qa2 (qae (i:=10) w3u.nd rfl (uD rfl) (qac ((w6d T).mono ∅) hr rfl T.w7y T.w5s.kp T.w7p .nil qas #[pv 1,pv 9]))
  (qa2 (qb5 (PW.pt (qe3 (qan qcx (pv 2) (pv 9) (by rfl)) (qdv (qan jd1 (~~~10) (qag qd8 (pv 8|||qam qax (pv 4) (pv 3) nofun) (~~~10)) (qar _))))) (qa6 (qaf qcn)) qal)
  (qa2 (qb1 vJ rfl (qaw (pv 9)) (qab (i:=11) w3u.nd rfl (uD rfl)) (qa2 (qae (i:=12) w3u.nd rfl (uD rfl) (qbc #[qam qak (pv 1|||pv 11) qa5 nofun,qag qd8 (qam qak (pv 1|||pv 11) qa5 nofun) (pv 6|||pv 11)]))
  (qa6 (qb5 (qbd (qac ((w7i T).mono ∅) hr rfl T.wan T.w9u.kp T.wag .nil qas #[qbc #[qam qak (pv 1|||pv 2) qa5 nofun,qag qd8 (qam qak (pv 1|||pv 2) qa5 nofun) (pv 6|||pv 2)],pv 12])) (qa6 (qaf qcn)) qal))))
  (qa6 (qaf qcn))))))),?_⟩
 walk_at"d"
 try dsimp only[cxC]
 refine qad (σ:=[sr p,sr ds,some (.str z),some (iV j),none,none,none,none,none,none,none,none,none]) rfl ?_;have etop:=hA.top;have l7:=ok.l7;have hgA:=hA.gA;have hrA:=hA.rA;have hjm:nmG nm j∈nm:=qcs hj;have znm:=ok.sub z hz;left;refine⟨p,ln,le,dg,dw,dr,nm,es,kg,kw,kr,D,j,rfl,hA,ok,hj,fun li H1 s1 fli eli=>?_⟩;have hA1:=hA.same s1;have il:(qdt D nm (nmG nm j)).length<=7:=uY (yC _ _) l7;left;have ps:=hS.ps;have sbi:∀n∈qdt D nm (nmG nm j),n∈D.W0:=fun n hn=>(qdi.mp hn).2.1;refine⟨ds,li,ks,D.W0,qdt D nm (nmG nm j),shQ D lv,rfl,.inl (s1 _ _ hds),hP.t (qav.of s1),ps,eli,sbi,il,fun pt t b hpt b0 b2 et=>?_⟩;rw[je5 ok lv] at et;have q3:=q35;have sB:=ps.sum sbi il;rw[je5 ok lv] at sB;have b3:b<=2^3000:=qgb b2;have hgb:=je1 b0 b3;have hgr:=jdt (rmb _ hjm).1 (rmb _ hjm).2;have bq:(0:Rat) <(b:Rat):=by exact_mod_cast b0
 have ieq:t=D.rm (nmG nm j)*b↔toQ D lv D.W0 (nmG nm j)=(D.rm (nmG nm j):Rat):=by
  have c:(t=D.rm (nmG nm j)*b)↔((t:Int):Rat)=((D.rm (nmG nm j)*b:Int):Rat):=by exact_mod_cast Iff.rfl
  rw[c,et,uS];constructor
  .intro h;have h1:(toQ D lv D.W0 (nmG nm j)-(D.rm (nmG nm j):Rat))*(b:Rat)=0:=by grind
   rcases dL.mp h1 with h2|h2
   .grind
   .grind
  .intro h;rw[h]
 have s2:=s1.trans (qa4 hpt (.tup [V.int t,V.int b]));have ept:upd H1 pt (.tup [V.int t,V.int b]) pt=some (.tup [V.int t,V.int b]):=qa1;have eli2:=qaa (o':=.tup [V.int t,V.int b]) eli hpt;generalize upd H1 pt (.tup [V.int t,V.int b])=H2 at*;have hA2:=hA.same s2;have hRr:Rd H2 dr (.dK kr):=.inl hA2.r;have hRg:Rd H2 dg (.dK kg):=.inl hA2.g;have grm:qbu nm D.rm (nmG nm j)=some (D.rm (nmG nm j)):=qba hjm;have xn:atI (nm.map V.str) ((j:Nat):Int)=some (.str (nmG nm j)):=qbt (by rw[zC,qcy hj];rfl);rw[show iV j=V.int ((j:Nat):Int) from rfl];generalize ((j:Nat):Int)=jj at*;clear sB q3 b3 bq et b2 hpt s1 hA1 eli fli;left;refine jjp (SqL.of eli2) ?_;by_cases c:z∈qdt D nm (nmG nm j)
 .rw[gM c];left;refine qcc (SqL.of hA2.n) xn ?_;left;by_cases ct:t=D.rm (nmG nm j)*b
  .rw[gM ct];have tq:=ieq.mp ct;clear ct ieq hgb hgr b0;left;refine qbp (xs:=(qdt D nm (nmG nm j)).map V.str) (fun i σ H'=>∃(w11 w12:Option V),σ=[sr p,sr ds,some (V.str z),some (V.int jj),sr ln,sr le,sr dg,sr dw,sr dr,sr li,sr pt,w11,w12]/\jab H2 H'/\∀m∈(qdt D nm (nmG nm j)).take i,¬lv z<lv m) ⟨none,none,rfl,jab.refl _,fun m hm=>by simp at hm⟩ ?_ ?_ ?_
   .rintro i σ H' _ ⟨w11,w12,rfl,sm,_⟩;exact SqL.of (sm _ _ eli2)
   .rintro i v σ H' hv ⟨w11,w12,rfl,sm,hlt⟩;rw[zC] at hv;obtain⟨m,hm,rfl⟩:=uH.mp hv;have hmI:=zE hm;obtain⟨mnm,mW,mln⟩:=qdi.mp hmI;have etk:(qdt D nm (nmG nm j)).take (i+1)=(qdt D nm (nmG nm j)).take i++[m]:=by rw[zM,hm];rfl
    have s02:=s2.trans sm;have hP':=hP.t (qav.of s02);have hRs:Rd H' ds (.dK ks):=.inl (s02 _ _ hds);have hRg':Rd H' dg (.dK kg):=.inl (sm _ _ hA2.g);have gm:qbu nm D.wt m=some (D.wt m):=qba mnm;have gz:qbu nm D.wt z=some (D.wt z):=qba znm;have hg:∀y∈D.W0,Hug ((shQ D lv y).num)/\Hug (((shQ D lv y).den:Int))/\Hug (D.wt y)/\Hug (((shQ D lv y).den:Int)*D.wt y)/\0 <((shQ D lv y).den:Int)*D.wt y:=fun y hy=>by
     have w1:=ok.ok.w1 y hy;have w2:=ok.ok.w2 y hy;have d1:=(hS.rs y hy).d;refine⟨(hS.rs y hy).hn,(hS.rs y hy).hd,Hug.small (uO (show(D.wt y).natAbs<=1000 by omega) ∅),Hug.small ?_,aB (den_pos _) #[]⟩;rw[wS,vO];have:(shQ D lv y).den*(D.wt y).natAbs<=2^290*1000:=wP (xG d1) #[];exact uO this ∅
    obtain⟨g1,g2,g3,g4,g5⟩:=hg m mW;obtain⟨k1,k2,k3,k4,k5⟩:=hg z hz;have lp:(shQ D lv z).num*(((shQ D lv m).den:Int)*D.wt m) <(shQ D lv m).num*(((shQ D lv z).den:Int)*D.wt z)↔lv z<lv m:=qfp k5 g5 (jjo (D:=D) (lv:=lv) (n:=z)) (jjo (D:=D) (lv:=lv) (n:=m));clear hv hm hg hRg;left;refine qcg hRs hP' (qbb mW) fun am em=>?_;unfold qb8 at em;left;refine qcg hRs hP' (qbb mW) fun am2 em2=>?_;unfold qb8 at em2;left;rename_i p1 hp1;have s3:=qa4 hp1 (.tup [V.int ((shQ D lv m).num),V.int (((shQ D lv m).den:Int)*D.wt m)]);have e1:upd H' p1 (.tup [V.int ((shQ D lv m).num),V.int (((shQ D lv m).den:Int)*D.wt m)]) p1=some (.tup [V.int ((shQ D lv m).num),V.int (((shQ D lv m).den:Int)*D.wt m)]):=qa1;generalize upd H' p1 (.tup [V.int ((shQ D lv m).num),V.int (((shQ D lv m).den:Int)*D.wt m)])=H3 at*;have hRs3:Rd H3 ds (.dK ks):=.inl (s3 _ _ (s02 _ _ hds));have hRg3:Rd H3 dg (.dK kg):=.inl (s3 _ _ (sm _ _ hA2.g));have hP3:=hP'.t (qav.of s3);clear hRs hRg' em em2;refine qcg hRs3 hP3 (qbb hz) fun az ez=>?_;unfold qb8 at ez;left;refine qcg hRs3 hP3 (qbb hz) fun az2 ez2=>?_;unfold qb8 at ez2;left;rename_i p2 hp2;have s4:=qa4 hp2 (.tup [V.int ((shQ D lv z).num),V.int (((shQ D lv z).den:Int)*D.wt z)]);refine⟨p2,p1,(shQ D lv z).num,((shQ D lv z).den:Int)*D.wt z,(shQ D lv m).num,((shQ D lv m).den:Int)*D.wt m,rfl,qa1,s4 _ _ e1,k1,k4,g1,g4,?_⟩;by_cases cl:lv z<lv m
    .rw[gM (lp.mpr cl)];left;have e:¬nmG nm j∈(D.ln z).filter (stB D lv z):=fun h=>by
      have h2:=(zW.mp h).2;unfold stB at h2;have h3:=(of_decide_eq_true h2).2 m mW mln;grind
     rw[gO e] at q;exact q _ (s02.trans (s3.trans s4))
    .rw[gO fun w=>cl (lp.mp w)];left;refine⟨_,_,rfl,sm.trans (s3.trans s4),fun y hy=>?_⟩;rw[etk] at hy;rcases zN.mp hy with h1|h1
     .exact hlt y h1
     .rw[zF.mp h1];exact cl
   rintro σ H' ⟨w11,w12,rfl,sm,hlt⟩;rw[zB,zH] at hlt;left;have e:nmG nm j∈(D.ln z).filter (stB D lv z):=by
    refine zW.mpr ⟨(qdi.mp c).2.2,?_⟩;unfold stB;refine gM ⟨tq,fun m hm hml=>?_⟩;have:=hlt m (qdi.mpr ⟨ok.sub m hm,hm,hml⟩);grind
   rw[gM e] at q;exact q _ (s2.trans sm)
  .rw[gO ct];left;have e:¬nmG nm j∈(D.ln z).filter (stB D lv z):=fun h=>by
    have h2:=(zW.mp h).2;unfold stB at h2;exact ct (ieq.mpr (of_decide_eq_true h2).1)
   rw[gO e] at q;exact q _ s2
 .rw[gO c];left;have e:¬nmG nm j∈(D.ln z).filter (stB D lv z):=fun h=>c (qdi.mpr ⟨znm,hz,(zW.mp h).1⟩);rw[gO e] at q;exact q _ s2
theorem jco.hs(ok:jco nm es D):∀n∈D.W0,∀h∈D.ln n,h∈nm:=fun n hn h hh=>by
 obtain⟨k,hk,e⟩:=zU.mp (ok.sub n hn);have e2:nmG nm k=n:=by unfold nmG;rw[zA hk,e];rfl
 rw[<-e2,ok.ln k hk] at hh;obtain⟨j,hj,rfl⟩:=zJ.mp hh;exact qcs (by have:=qco ok.low k hk j hj;omega)
inductive jdu(K:uX)(d:Ad)(vs:List V)(H:Hp)(Q:VK)(E:XK):Prop
 |mk(p ln le dg dw dr:Addr)(nm:List Str)(es:List Nat)(kg kw kr:List (Key×V))(D:Dl)(lv:Str->Rat)(l:Addr)(rows:List R3)(_:vs=[.ref p,.ref l])(_:jdx H p ln le dg dw dr nm es kg kw kr D)(_:jco nm es D)(_:(∀y∈nm,0<=D.rm y/\D.rm y<=10^31))(_:H l=some (.lst (rows.map fun r=>V.ref r.a)))(_:(∀r∈rows,Gd H D lv r))(_:rows.length<=20)(_:Shb D lv)(_:∀H',jab H H'->Q (.bl (evB D lv rows)) H')
set_option maxHeartbeats 9000000 in
include T in
theorem wcj:jac P w K mg base CX0 6 d.wbl d.w9e ["_law_sharing_here","_law_dealt"] (jdu K d):=by
 exists T.wb4.ok w1f
 .right
 obtain⟨p,ln,le,dg,dw,dr,nm,es,kg,kw,kr,D,lv,l,rows,rfl,hA,ok,rmb,hl,hR,rl,hS,q⟩:=h;refine⟨_,(qa2 (qdy (pv 0) (qdz rfl (qai (qab (i:=2) w1f.nd rfl (uD rfl)) (qai (qab (i:=3) w1f.nd rfl (uD rfl)) (qai (qab (i:=4) w1f.nd rfl (uD rfl)) (qai (qab (i:=5) w1f.nd rfl (uD rfl)) (qai (qab (i:=6) w1f.nd rfl (uD rfl)) qcl)))))))
  (qa2 (qb5 (qan (jhx (hu8 hr)) (qcm (caps:=[]) (cn:=[]) (qc8 rfl rfl (by rfl) (by rfl) rfl trivial (by rfl) rfl trivial ∅) rfl (qaw (pv 1)) (fun _ _ _ _=>qdd) (fun _ _ _ _=>(~~~0))) (qaj (qcb rfl) rfl T.w2n wF #[pv 5]) (qar _)) (qa6 (qaf qcn)) qal)
  (qa2 (qae (i:=7) w1f.nd rfl (uD rfl) qb7)
  (qa2 (qb1 vJ rfl (qaw (pv 1)) (qab (i:=8) w1f.nd rfl (uD rfl)) (qa6 (qb2 (qap hr) (pv 7) (~~~8) (~~~8) rfl)))
  (qa2 (qb1 vJ rfl (qd5 rfl T.w6b #[qaj qbm rfl T.w45 vY #[pv 2]]) (qab (i:=9) w1f.nd rfl (uD rfl)) (qa6 (qb5 (qbd (qac ((w7i T).mono ∅) hr rfl T.wan T.w9u.kp T.wag .nil qas #[qbc #[pv 6|||qam qax (pv 2) (pv 9) nofun,qa5],qac ((w6d T).mono ∅) hr rfl T.w7y T.w5s.kp T.w7p .nil qas #[pv 7,qac ((w9z T).mono ∅) hr rfl T.wax T.w8z.kp T.wb8 .nil qas #[pv 0,pv 9]]])) (qa6 (qaf qcn)) qal)))
  (qa2 (qb1 vJ rfl (qaw (pv 1)) (jlb rfl (qai (qab (i:=10) w1f.nd rfl (uD rfl)) (qai (qab (i:=11) w1f.nd rfl (uD rfl)) (qai (qab (i:=12) w1f.nd rfl (uD rfl)) qcl)))) (qa2 (qb5 (PW.pt (qe3 (qan jd2 (~~~11) qa5 (qar _)) (qdv (qbd (qac ((w7i T).mono ∅) hr rfl T.wan T.w9u.kp T.wag .nil qas #[qbc #[pv 5|||pv 10,qa5],pv 11]))))) (qa6 (qaf qcn)) qal)
  (qa2 (qb5 (PW.pt (qg7 (qan jd5 (pv 12) qcq (qar _)) (qep (qbd (qac ((w7i T).mono ∅) hr rfl T.wan T.w9u.kp T.wag .nil qas #[pv 11,qbc #[pv 5|||pv 10,qa5]]))))) (qa6 (qaf qcn)) qal)
  (qa6 (qca (qb5 (qan qeg (pv 12) qcq (qar _)) (qa2 (qb5 (qan qcx (pv 12) (pv 2) (by rfl)) (qa6 (qaf qcn)) qal)
  (qa6 (qb5 (qc1 (qbd (qac ((wgk T).mono ∅) hr rfl T.whg T.wgl.kp T.whb .nil qas #[pv 0,pv 7,pv 10,qf2 vT aN cT jei (pv 2) #[pv 12]]))) (qa6 (qaf qcn)) qal))) qal))))))
  (qa6 (qaf qcn)))))))),?_⟩
 walk_at"d"
 try dsimp only[cxC]
 refine qad (σ:=[sr p,sr l,none,none,none,none,none,none,none,none,none,none,none]) rfl ?_;have etop:=hA.top;have l7:=ok.l7;have l8:=ok.ok.l8;have hwA:=hA.wA;have hrA:=hA.rA;have kp:=qdc hA.wA ok.ok.nd;left;intro C s9 H9 fp lc hlc;refine jef rows.length (fun i' Hx=>jab H Hx/\Hx lc=some (.lst (((rows.take i').map (·.n)).map V.str))) ⟨qa4 hlc _,qa1⟩ ?_ ?_ ?_ ?_
 .rintro i' Hx hi' ⟨sx,_⟩;exact⟨_,.ref (rows[i']).a,SqL.of (sx _ _ hl),by rw[zC,zA hi'];rfl⟩
 .rintro Hx ⟨sx,_⟩;exact⟨_,SqL.of (sx _ _ hl),by rw[zB];exact uF _⟩
 .rintro i' Hx v H'' hi' ⟨sx,ea⟩ ⟨rfl,hv⟩;have hv:=hv _ (SqL.of (sx _ _ hl));rw[zC,zA hi'] at hv
  cases hv
  have hrm:=zY hi';have etj:rows.take (i'+1)=rows.take i'++[rows[i']]:=by rw[zM,zA hi'];rfl
  generalize rows[i']=r at*;have rT:=((hR r hrm).same sx).at_.t;have zl:(((rows.take i').map (·.n)).map V.str).length<sizeLine:=by
   rw[zB,zB,zS];show _<16777216;omega
  left;refine⟨qb9 sx hlc,?_⟩;rw[qa1,etj,zI,zI];rfl
 rintro H1 ⟨s1,elc⟩;rw[zH] at elc;left;refine qdg (ss:=qc3 kw) (.inl (s1 _ _ hA.w)) hwA.keys (by have:=kp.length_eq;omega) fun lo ss hlo hp hss=>?_;have ess:ss=D.W0:=qeo (hp.trans kp) hss ok.srt;subst ess;have nlo:lc≠lo:=qa9 elc hlo;have s2:=s1.trans (qa4 hlo (.lst (D.W0.map V.str)));left;refine jnk (n:=1) nlo ∅ (jf5 (n:=0) (SqL.of (qaa elc hlo)) (SqL.of qa1) nlo) ?_;generalize upd H1 lo (.lst (D.W0.map V.str))=H2 at*;clear hlo hp hss elc s1 nlo hlc;by_cases cn:rows.map (·.n)=D.W0
 .rw[gM cn];have inW:∀r∈rows,r.n∈D.W0:=fun r hr=>by rw[<-cn];exact zJ.mpr ⟨r,hr,rfl⟩
  have rnd:(rows.map (·.n)).Nodup:=by rw[cn];exact ok.ok.nd
  left;rename_i ds hds;have s3:=s2.trans (qa4 hds (.dK []));have eds:upd H2 ds (.dK []) ds=some (.dK []):=qa1;have fds:=s2.free hds;have nld:l≠ds:=qa9 hl fds;generalize upd H2 ds (.dK [])=H3 at*;have hl3:=s3 _ _ hl;have hR3:∀r∈rows,Gd H3 D lv r:=fun r hr=>(hR r hr).same s3;clear hds s2;left;refine qbp (xs:=rows.map fun r=>V.ref r.a) (fun i σ H'=>∃(ks:List (Key×V))(w8:Option V),σ=[sr p,sr l,sr ln,sr le,sr dg,sr dw,sr dr,sr ds,w8,none,none,none,none]/\SameBut ds H3 H'/\H' ds=some (.dK ks)/\FD H' ks (qc4 ((rows.take i).map (·.n)) (shQ D lv))) ⟨[],none,rfl,fun b u _ e=>e,eds,FD.nil.cast fun z=>rfl⟩ ?_ ?_ ?_
  .rintro i σ H' _ ⟨ks,w8,rfl,sb,_⟩;exact SqL.of (sb _ _ nld hl3)
  .rintro i v σ H' hv ⟨ks,w8,rfl,sb,ed,hF⟩;rw[zC] at hv;obtain⟨r,hr,rfl⟩:=uH.mp hv;have hrm:=zE hr;have hn:=inW r hrm;have tS:qav H3 H':=fun b xs e=>sb b _ (fun z=>by subst z;rw[eds] at e;cases e) e;have hG:=(hR3 r hrm).tt tS;have rT:=hG.at_.t;have etk:(rows.take (i+1)).map (·.n)=(rows.take i).map (·.n)++[r.n]:=by rw[zM,hr,zI];rfl
   have hko:ks.length<=D.W0.length:=hF.len fun z hz=>by
    obtain⟨x,hx,rfl⟩:=zJ.mp hz;exact inW x (zX hx)
   have zk:ks.length<sizeLine:=by show _<16777216;omega
   clear hv hko;left;have t8:qav H' (upd H' ds (.dK (qbh ks (uE r.n) (.ref r.s)))):=qav.upd ed fun xs e=>by cases e
   exact⟨_,_,rfl,fun b u hb e=>by rw[qa7 hb];exact sb b u hb e,qa1,((hF.put r.n (hG.f hn)).t t8).cast fun y=>by rw[etk,qfd]⟩
  rintro σ H4 ⟨ks,w8,rfl,sb,ed,hP4⟩;rw[zB,zH,cn] at hP4;have s4:jab H H4:=fun b u e=>sb b u (fun z=>by subst z;rw[fds] at e;cases e) (s3 b u e);have hA4:=hA.same s4;have hR4:∀r∈rows,Gd H4 D lv r:=fun r hr=>(hR r hr).same s4;have hl4:=s4 _ _ hl;have ps:=hS.ps;have en4:=hA4.n;have ln7:(nm.map V.str).length=nm.length:=zB _;clear sb eds nld hl3 hR3 s3;left;rw[show((nm.map V.str).length:Int).toNat=nm.length by rw[ln7];omega];refine qgv (n:=nm.length) (fun i σ H'=>∃(w9:Option V),σ=[sr p,sr l,sr ln,sr le,sr dg,sr dw,sr dr,sr ds,w8,w9,none,none,none]/\jab H4 H'/\∀k,k<i->toQ D lv D.W0 (nmG nm k)<=(D.rm (nmG nm k):Rat)) ⟨none,rfl,jab.refl _,fun k hk=>absurd hk #[]⟩ ?_ ?_
  .rintro j σ H' hj ⟨w9,rfl,sm,hle⟩;have hjm:nmG nm j∈nm:=qcs hj;have hA':=hA4.same sm;have xn:atI (nm.map V.str) (0+((j:Nat):Int))=some (.str (nmG nm j)):=by rw[dD];exact qbt (by rw[zC,qcy hj];rfl)
   have hRr:Rd H' dr (.dK kr):=.inl hA'.r;have grm:qbu nm D.rm (nmG nm j)=some (D.rm (nmG nm j)):=qba hjm;have il:(qdt D nm (nmG nm j)).length<=7:=uY (yC _ _) l7;have sbi:∀n∈qdt D nm (nmG nm j),n∈D.W0:=fun n hn=>(qdi.mp hn).2.1;have rb:=rmb _ hjm;left;refine qcc (SqL.of hA'.n) xn ?_;left;rename_i p1 hp1;have s5:=sm.trans (qa4 hp1 (.tup [V.int (D.rm (nmG nm j)),V.int 1]));have e1:upd H' p1 (.tup [V.int (D.rm (nmG nm j)),V.int 1]) p1=some (.tup [V.int (D.rm (nmG nm j)),V.int 1]):=qa1;generalize upd H' p1 (.tup [V.int (D.rm (nmG nm j)),V.int 1])=H5 at*;refine⟨p,ln,le,dg,dw,dr,nm,es,kg,kw,kr,D,j,by rw[dD];rfl,hA4.same s5,ok,hj,fun li H6 s6 fli eli=>?_⟩;have s46:=s5.trans s6;left;refine⟨ds,li,ks,D.W0,qdt D nm (nmG nm j),shQ D lv,rfl,.inl (s46 _ _ ed),hP4.t (qav.of s46),ps,eli,sbi,il,fun pt t b hpt b0 b2 et=>?_⟩;have q3:=q35;have sB:=ps.sum sbi il;have b3:b<=2^3000:=qgb b2;have hgb:=je1 b0 b3;have hgt:=jjn b0 b3 et (by grind) (by grind);rw[je5 ok lv] at et;have lp:=qfp (t1:=D.rm (nmG nm j)) (b1:=1) (q1:=(D.rm (nmG nm j):Rat)) ∅ b0 (by rw[show((1:Int):Rat)=1 from rfl];grind) et;left;refine⟨p1,pt,D.rm (nmG nm j),1,t,b,rfl,qa4 hpt _ _ _ (s6 _ _ e1),qa1,jdt rb.1 rb.2,Hug.small ∅,hgt,hgb,?_⟩;by_cases ct:(D.rm (nmG nm j):Rat)<toQ D lv D.W0 (nmG nm j)
   .rw[gM (lp.mpr ct)];left;have hon:∃n∈D.W0,nmG nm j∈D.ln n:=uR fun e=>by
     rw[jf3 e] at ct;have:(0:Rat)<=(D.rm (nmG nm j):Rat):=by exact_mod_cast rb.1
     grind
    have rf:rmB D lv=false:=by
     obtain⟨n,hn,hh⟩:=hon;unfold rmB;rw[bA];refine⟨n,hn,?_⟩;rw[gH,bA];exact⟨_,hh,by simpa using Rat.not_le.mpr ct⟩
    have e2:evB D lv rows=false:=by unfold evB;rw[rf,yZ,xV]
    rw[e2] at q;exact q _ (s4.trans (s46.trans (qa4 hpt _)))
   .rw[gO fun w=>ct (lp.mp w)];left;refine⟨_,rfl,s46.trans (qa4 hpt _),fun k hk=>?_⟩;by_cases e:k=j
    .rw[e];grind
    .exact hle k #[]
  rintro σ H5 ⟨w9,rfl,s5,hle⟩;have crm:rmB D lv=true:=by
   unfold rmB;refine zQ.mpr fun n hn=>zQ.mpr fun h hh=>gM ?_;obtain⟨k,hk,e⟩:=zU.mp (ok.hs n hn h hh);have e2:nmG nm k=h:=by unfold nmG;rw[zA hk,e];rfl
   rw[<-e2];exact hle k hk
  have hA5:=hA4.same s5;have hl5:=s5 _ _ hl4;have hR5:∀r∈rows,Gd H5 D lv r:=fun r hr=>(hR4 r hr).same s5;have hP5:=hP4.t (qav.of s5);have ed5:=s5 _ _ ed;have s05:=s4.trans s5;clear hA4 hR4 hP4 hl4 ed s4 s5 en4;left;refine qbp (xs:=rows.map fun r=>V.ref r.a) (fun i σ H'=>∃(w10 w11 w12:Option V),σ=[sr p,sr l,sr ln,sr le,sr dg,sr dw,sr dr,sr ds,w8,w9,w10,w11,w12]/\jab H5 H'/\∀r∈rows.take i,okN D lv r.n=true/\jdy D lv r.n r.pv=true) ⟨none,none,none,rfl,jab.refl _,fun r hr=>by simp at hr⟩ ?_ ?_ ?_
  .rintro i σ H' _ ⟨w10,w11,w12,rfl,sm,_⟩;exact SqL.of (sm _ _ hl5)
  .rintro i v σ H' hv ⟨w10,w11,w12,rfl,sm,hpb⟩;rw[zC] at hv;obtain⟨r,hr,rfl⟩:=uH.mp hv;have hrm:=zE hr;have hn:=inW r hrm;have hG:=(hR5 r hrm).same sm;have rT:=hG.at_.t;have rF:=hG.f hn;have etk:rows.take (i+1)=rows.take i++[r]:=by rw[zM,hr];rfl
   have hRw:Rd H' dw (.dK kw):=.inl (sm _ _ hA5.w);have gw:qbu D.W0 D.wa r.n=some (D.wa r.n):=qba hn;have hw0:=jdt (ok.ok.a0 r.n hn) (ok.ok.a1 r.n hn);have h1:Hug 1:=Hug.small ∅;have rb:=hS.rs r.n hn;have hnu:=rb.hn;have hde:=rb.hd;have ew1:((D.wa r.n:Int):Rat)=(D.wa r.n:Rat)*((1:Int):Rat):=by rw[show((1:Int):Rat)=1 from rfl];grind
   have lpA:=qfp (t1:=D.wa r.n) (b1:=1) ∅ (den_pos (shQ D lv r.n)) ew1 (qez (shQ D lv r.n));have lpB:=qfp (t2:=D.wa r.n) (b2:=1) (den_pos (shQ D lv r.n)) ∅ (qez (shQ D lv r.n)) ew1;have bad:(okN D lv r.n && jdy D lv r.n r.pv)=false->∀Hx,jab H5 Hx->Q (.bl false) Hx:=fun e Hx sx=>by
    have e2:evB D lv rows=false:=by
     unfold evB;rw[Bool.and_eq_false_iff] at e;rcases e with e|e
     .rw[show(rows.all fun r=>okN D lv r.n)=false from bA.mpr ⟨r,hrm,by rw[e];decide⟩,yZ,xV,xV]
     .rw[show(rows.all fun r=>jdy D lv r.n r.pv)=false from bA.mpr ⟨r,hrm,by rw[e];decide⟩,yZ]
    rw[<-e2];exact q Hx (s05.trans sx)
   have good:okN D lv r.n=true->jdy D lv r.n r.pv=true->∀y∈rows.take (i+1),okN D lv y.n=true/\jdy D lv y.n y.pv=true:=fun e e' y hy=>by
    rw[etk] at hy;rcases zN.mp hy with h1|h1
    .exact hpb y h1
    .rw[zF.mp h1];exact⟨e,e'⟩
   have okf:¬(0<=shQ D lv r.n/\shQ D lv r.n<=(D.wa r.n:Rat))->(okN D lv r.n && jdy D lv r.n r.pv)=false:=fun e=>by rw[show okN D lv r.n=false from gO e,xV]
   have papf:jdy D lv r.n r.pv=false->(okN D lv r.n && jdy D lv r.n r.pv)=false:=fun e=>by rw[e,yZ]
   have nn:(shQ D lv r.n).num<0↔shQ D lv r.n<0:=⟨fun w=>uR fun z=>absurd (Rat.num_nonneg.mpr (show 0<=shQ D lv r.n by grind)) #[],fun w=>uR fun z=>absurd (Rat.num_nonneg.mp (show 0<=(shQ D lv r.n).num by omega)) (by grind)⟩;unfold qb8 at rF;clear hv hr hpb;by_cases cneg:shQ D lv r.n<0
   .have cnn:=nn.mpr cneg;left;exact bad (okf (by grind)) _ sm
   have cnn:¬(shQ D lv r.n).num<0:=fun w=>cneg (nn.mp w);rcases hG.at_.p with ep|⟨z,ep⟩
   .rw[ep] at rT bad good papf okf;left;rename_i p1 hp1;have s6:=sm.trans (qa4 hp1 (.tup [V.int (D.wa r.n),V.int 1]));have e1:upd H' p1 (.tup [V.int (D.wa r.n),V.int 1]) p1=some (.tup [V.int (D.wa r.n),V.int 1]):=qa1;have rF6:=qaa (o':=.tup [V.int (D.wa r.n),V.int 1]) rF hp1;generalize upd H' p1 (.tup [V.int (D.wa r.n),V.int 1])=H6 at*;refine⟨p1,r.s,D.wa r.n,1,_,_,rfl,e1,rF6,hw0,h1,hnu,hde,?_⟩;by_cases cw:(D.wa r.n:Rat)<shQ D lv r.n
    .rw[gM (lpA.mpr cw)];left;exact bad (okf (by grind)) _ s6
    rw[gO fun w=>cw (lpA.mp w)];have okt:okN D lv r.n=true:=gM (by grind);have hRw6:Rd H6 dw (.dK kw):=.inl (s6 _ _ hA5.w);clear hRw;left;rename_i p2 hp2;have s7:=s6.trans (qa4 hp2 (.tup [V.int (D.wa r.n),V.int 1]));refine⟨r.s,p2,_,_,D.wa r.n,1,rfl,qaa rF6 hp2,qa1,hnu,hde,hw0,h1,?_⟩;by_cases cl:shQ D lv r.n <(D.wa r.n:Rat)
    .rw[gM (lpB.mpr cl)];left;exact bad (papf (gO fun e=>by grind)) _ s7
    .rw[gO fun w=>cl (lpB.mp w)];left;refine qd4 ?_;left;exact⟨_,_,_,rfl,s7,good okt (gM (by grind))⟩
   .rw[ep] at rT bad good papf okf;left;rename_i p1 hp1;have s6:=sm.trans (qa4 hp1 (.tup [V.int (D.wa r.n),V.int 1]));have e1:upd H' p1 (.tup [V.int (D.wa r.n),V.int 1]) p1=some (.tup [V.int (D.wa r.n),V.int 1]):=qa1;have rF6:=qaa (o':=.tup [V.int (D.wa r.n),V.int 1]) rF hp1;generalize upd H' p1 (.tup [V.int (D.wa r.n),V.int 1])=H6 at*;refine⟨p1,r.s,D.wa r.n,1,_,_,rfl,e1,rF6,hw0,h1,hnu,hde,?_⟩;by_cases cw:(D.wa r.n:Rat)<shQ D lv r.n
    .rw[gM (lpA.mpr cw)];left;exact bad (okf (by grind)) _ s6
    rw[gO fun w=>cw (lpA.mp w)];have okt:okN D lv r.n=true:=gM (by grind);left;refine qd4 ?_;left;refine jjp (SqL.of (s6 _ _ hA5.n)) ?_;by_cases cz:z∈nm
    .rw[gM cz];obtain⟨k,hk,rfl⟩:=zU.mp cz;have ek:nmG nm k=nm[k]:=by unfold nmG;rw[zA hk];rfl
     have en6:=s6 _ _ hA5.n;left;refine jig (SqL.of en6) ok.nd hk ?_;left;refine⟨p,ln,le,dg,dw,dr,nm,es,kg,kw,kr,D,ds,ks,lv,r.n,k,rfl,hA5.same s6,ok,rmb,s6 _ _ ed5,hP5.t (qav.of s6),hS,hn,hk,fun H7 s7=>?_⟩;rw[ek];by_cases ce:nm[k]∈(D.ln r.n).filter (stB D lv r.n)
     .rw[gM ce];left;exact⟨_,_,_,rfl,s6.trans s7,good okt (gM ce)⟩
     .rw[gO ce];left;exact bad (papf (gO ce)) _ (s6.trans s7)
    .rw[gO cz];left;exact bad (papf (gO fun e=>cz (ok.hs r.n hn z (zW.mp e).1))) _ s6
  rintro σ H' ⟨w10,w11,w12,rfl,sm,hpb⟩;rw[zB,zH] at hpb;left;have e:evB D lv rows=true:=by
   unfold evB;rw[gM cn,crm,zQ.mpr fun r hr=>(hpb r hr).1,zQ.mpr fun r hr=>(hpb r hr).2];rfl
  rw[e] at q;exact q _ (s05.trans sm)
 .rw[gO cn];left;have e:evB D lv rows=false:=by unfold evB;rw[gO cn];rfl
  rw[e] at q;exact q _ s2
theorem jr3(n0:0<N)(h:Dv N q):q.den<=N:=by
 obtain⟨z,hz⟩:=h;have e:q.num*(N:Int)=z*(q.den:Int):=by
  apply qfk;rw[uS,uS,uN,uN,qfn q,<-hz];grind
 refine Nat.le_of_dvd n0 ?_;have h1:(q.den:Int) ∣ q.num*(N:Int):=⟨z,by rw[e,dC]⟩;have h2:q.den ∣ q.num.natAbs*N:=by
  have:=dQ.mpr h1;rw[vO,wS,vO] at this;exact this
 exact fZ q.reduced.symm h2
theorem qfi{B:Nat}(n0:0<N)(nb:N<=10^42)(hB:B<=10^40)(h:Dv N q)(lo: -(B:Rat)<=q)(hi:q<=(B:Rat)):RB q:=by
 have dn:=jr3 n0 h;have d0:(0:Rat)<=((q.den:Nat):Rat):=by exact_mod_cast wR _
 have e:=qfn q;have h1:=vQ hi d0;have h2:=vQ lo d0;have h1':q.num<=((B*q.den:Nat):Int):=by
  have:(q.num:Rat)<=(((B*q.den:Nat):Int):Rat):=by rw[uN,wV,e];exact h1
  exact_mod_cast this
 have h2': -((B*q.den:Nat):Int)<=q.num:=by
  have:((-((B*q.den:Nat):Int):Int):Rat)<=(q.num:Rat):=by rw[Rat.intCast_neg,uN,wV,e];grind
  exact_mod_cast this
 have b1:B*q.den<=10^40*10^42:=wP hB (uY dn nb);generalize B*q.den=x at*;refine⟨uO (show q.num.natAbs<=10^40*10^42 by omega) ∅,uO (uY dn nb) ∅⟩
structure Szs(D:Dl)(N:Nat)(s:Str->Rat):Prop where
 n0:0<N
 nb:N<=10^38
 dv:∀n∈D.W0,Dv N (s n)
 lo:∀n∈D.W0,-(((10^34:Nat)):Rat)<=s n
 hi:∀n∈D.W0,s n<=(((10^34:Nat)):Rat)
noncomputable def lvS(D:Dl)(s:Str->Rat)(n:Str):Rat:=s n /(D.wt n:Rat)
theorem shS(ok:jak D)(s:Str->Rat){n:Str}(hn:n∈D.W0):shQ D (lvS D s) n=s n:=by
 have:=(wtQ ok hn).1;unfold shQ lvS;exact xB (by grind)
theorem q34:(0:Rat)<=(((10^34:Nat)):Rat)/\10*(((10^34:Nat)):Rat)=(((10^35:Nat)):Rat):=by
 constructor
 .exact_mod_cast wR _
 .have:10*(10^34:Nat)=(10^35:Nat):=∅
  exact_mod_cast this
theorem Szs.shb(ok:jak D){N:Nat}{s:Str->Rat}(h:Szs D N s):Shb D (lvS D s):=by
 have q3:=q34;have nb2:N<=10^42:=uY h.nb ∅;refine⟨fun n hn=>?_,fun n hn=>?_,fun V nd sub x=>?_,fun n hn=>?_,fun n hn=>?_⟩
 .have w:=wtQ ok hn;have e:=shS ok s hn;have e2:shQ D (lvS D s) n=lvS D s n*(D.wt n:Rat):=rfl;have lo:=h.lo n hn;have hi:=h.hi n hn;rw[<-e,e2] at lo hi;have wi:=ok.w1 n hn;have wj:=ok.w2 n hn;have ez:(((D.wt n).toNat:Nat):Rat)=(D.wt n:Rat):=by
   have:(((D.wt n).toNat:Nat):Int)=D.wt n:=by omega
   rw[<-uN,this]
  obtain⟨z,hz⟩:=h.dv n hn;refine qfi (N:=N*(D.wt n).toNat) (B:=10^34) (bT h.n0 #[]) (uY (wP h.nb (show(D.wt n).toNat<=1000 by omega)) ∅) ∅ ⟨z,?_⟩ ?_ ?_
  .rw[wV,ez,<-hz,<-e,e2];grind
  .refine uR fun c=>?_;have c':lvS D s n < -(((10^34:Nat)):Rat):=by grind
   have m1:=vR w.1 (show 0<=-lvS D s n by grind);grind
  .refine uR fun c=>?_;have c':(((10^34:Nat)):Rat)<lvS D s n:=by grind
   have m1:=vR w.1 (show 0<=lvS D s n by grind);grind
 .rw[shS ok s hn];exact qfi (B:=10^34) h.n0 nb2 ∅ (h.dv n hn) (h.lo n hn) (h.hi n hn)
 .have v7:V.length<=7:=uY (vM nd sub) ok.l8;have h2:((V.length:Nat):Rat)<=7:=by exact_mod_cast v7
  have m:=wT (show(0:Rat)<=7-((V.length:Nat):Rat) by grind) q3.1;have b35:7*(((10^34:Nat)):Rat)<=(((10^35:Nat)):Rat):=by grind
  refine qfi (B:=10^35) h.n0 nb2 ∅ (qgh fun n hn=>?_) ?_ ?_
  .split
   .rw[shS ok s (sub n hn)];exact h.dv n (sub n hn)
   .exact⟨0,by show(0:Rat)*_=_;rw[fW];rfl⟩
  .have h3:=qdf (l:=V) (f:=fun n=>(-1:Rat)*if x∈D.ln n then shQ D (lvS D s) n else 0) (B:=(((10^34:Nat)):Rat)) fun n hn=>by
    have lo:=h.lo n (sub n hn);have e:=shS ok s (sub n hn)
    try dsimp only
    split<;>grind
   rw[qdn] at h3;show _<=qbz V _;grind
  .have h1:=qdf (l:=V) (f:=fun n=>if x∈D.ln n then shQ D (lvS D s) n else 0) (B:=(((10^34:Nat)):Rat)) fun n hn=>by
    have hi:=h.hi n (sub n hn);have e:=shS ok s (sub n hn)
    try dsimp only
    split<;>grind
   show qbz V _<=_;grind
 .rw[shS ok s hn];have:=h.lo n hn;grind
 .rw[shS ok s hn];have:=h.hi n hn;grind
structure Fa(D:Dl)(lv:Str->Rat):Prop where
 lo:∀n∈D.W0,0<=shQ D lv n/\shQ D lv n<=(D.wa n:Rat)
 rm:∀n∈D.W0,∀h∈D.ln n,toQ D lv D.W0 h<=(D.rm h:Rat)
 st:∀n∈D.W0,shQ D lv n=(D.wa n:Rat)\/∃h∈D.ln n,toQ D lv D.W0 h=(D.rm h:Rat)/\∀m∈D.W0,h∈D.ln m->lv m<=lv n
theorem jjq{f g:Str->Rat}:∀{l:List Str} {n:Str},(∀m∈l,f m<=g m)->n∈l->f n<g n->qbz l f<qbz l g
 | [],_,_,h,_=>by simp at h
 |m::l,n,h,hn,lt=>by
  show f m+qbz l f<g m+qbz l g;have h1:=h m (zG ..);have h2:=jeu (l:=l) fun k hk=>h k (zD _ hk);rcases zP.mp hn with e|e
  .subst e;grind
  .have:=jjq (fun k hk=>h k (zD _ hk)) e lt;grind
theorem Fa.lt{lv':Str->Rat}(ok:jak D)(a:Fa D lv)(b:Fa D lv'){n:Str}(hn:n∈D.W0)(c:lv n<lv' n):∃m∈D.W0,lv' m<lv m/\lv' m<lv n:=by
 have w:=(wtQ ok hn).1;have e:shQ D lv n<shQ D lv' n:=wI c (by grind);rcases a.st n hn with h|⟨h,hh,full,top⟩
 .have:=(b.lo n hn).2;grind
 .have le:=b.rm n hn h hh;refine uR fun no=>?_;have all:∀m∈D.W0,h∈D.ln m->lv m<=lv' m:=fun m hm hl=>uR fun z=>no ⟨m,hm,by grind,by have:=top m hm hl;grind⟩;have lt:toQ D lv D.W0 h<toQ D lv' D.W0 h:=by
   unfold toQ;refine jjq (fun m hm=>?_) hn ?_
   .by_cases c2:h∈D.ln m
    .rw[gL c2,gL c2];have w2:=(wtQ ok hm).1;exact vQ (all m hm c2) (by grind)
    .rw[gK c2,gK c2];exact dX
   .rw[gL hh,gL hh];exact e
  grind
theorem jmk{f:Str->Rat}:∀{l:List Str},l≠ []->∃n∈l,∀m∈l,f n<=f m
 | [],h=>absurd rfl h
 | [n],_=>⟨n,zG ..,fun m hm=>by rw[zF.mp hm];exact dX⟩
 |n::k::l,_=>by
  obtain⟨x,hx,mx⟩:=jmk (f:=f) (l:=k::l) (by simp);by_cases c:f n<=f x
  .refine⟨n,zG ..,fun m hm=>?_⟩;rcases zP.mp hm with e|e
   .rw[e];exact dX
   .have:=mx m e;grind
  .refine⟨x,zD _ hx,fun m hm=>?_⟩;rcases zP.mp hm with e|e
   .rw[e];grind
   .exact mx m e
def Fa.uniq{lv':Str->Rat}(ok:jak D)(a:Fa D lv)(b:Fa D lv'):∀n∈D.W0,lv n=lv' n:=fun x hx=>uR fun dx=>by
 have ne:D.W0.filter (fun n=>decide (lv n≠lv' n))≠ []:=fun e=>by
  have:x∈D.W0.filter (fun n=>decide (lv n≠lv' n)):=zW.mpr ⟨hx,gM dx⟩;rw[e] at this;simp at this
 obtain⟨n,hn,mn⟩:=jmk (f:=fun n=>if lv n<lv' n then lv n else lv' n) ne;obtain⟨hn0,dn⟩:=zW.mp hn;have dn:=of_decide_eq_true dn;by_cases lt:lv n<lv' n
 .obtain⟨m,hm,h1,h2⟩:=a.lt ok b hn0 lt;have:=mn m (zW.mpr ⟨hm,gM (by grind)⟩)
  try dsimp only at this
  rw[gL lt,gK (by grind)] at this;grind
 .obtain⟨m,hm,h1,h2⟩:=b.lt ok a hn0 (show lv' n<lv n by grind);have:=mn m (zW.mpr ⟨hm,gM (by grind)⟩)
  try dsimp only at this
  rw[gK lt,gL (by grind)] at this;grind
theorem Fa.of{rows:List R3}(e:evB D lv rows=true):Fa D lv:=by
 unfold evB at e;rw[wC,wC,wC,decide_eq_true_eq,zQ,zQ] at e;obtain⟨⟨⟨cn,ho⟩,hr⟩,hp⟩:=e;have at_:∀n∈D.W0,∃r∈rows,r.n=n:=fun n hn=>by rw[<-cn] at hn;exact zJ.mp hn
 refine⟨fun n hn=>?_,fun n hn h hh=>?_,fun n hn=>?_⟩
 .obtain⟨r,hm,rfl⟩:=at_ n hn;exact of_decide_eq_true (ho r hm)
 .unfold rmB at hr;exact of_decide_eq_true (zQ.mp (zQ.mp hr n hn) h hh)
 .obtain⟨r,hm,rfl⟩:=at_ n hn;have h1:=hp r hm
  cases c:r.pv with
  |non=>rw[c] at h1;exact .inl (of_decide_eq_true h1)
  |str z=>
   rw[c] at h1;have h2:=zW.mp (of_decide_eq_true h1);have h3:=h2.2;unfold stB at h3;exact .inr ⟨z,h2.1,of_decide_eq_true h3⟩
  |_=>rw[c] at h1;cases h1
def qfy{p:Addr} :qb8 (upd H p (frO q)) p q:=qa1
theorem RB.h(h:RB q):q.num.natAbs<2^600/\((q.den:Nat):Int).natAbs<2^600:=⟨h.n6,h.d6⟩
def wig(K:uX)(d:Ad):Sp:=fun vs H Q _=>∃(a:Addr)(q:Rat)(m:Int),vs=[.ref a,.int m]/\qb8 H a q/\RB q/\
 ∀(p:Addr)(x:Rat)(c e:Int) H',jab H H'->qb8 H' p x->0<=c->c<=e->0<e->e<=1000003->x*(e:Rat)=q*(c:Rat)->Q (.ref p) H'
set_option maxHeartbeats 9000000 in
include T in
theorem wg6:jac P w K mg base CX0 3 d.wfk d.wd0 ["_law_share","_law_number"] (wig K d):=by
 exists T.wff.ok wgm
 .right
 obtain⟨a,x,m,rfl,ha,rx,q⟩:=h;refine' ⟨_,?rx,?_⟩
 case' rx=>(with_unfolding_all change My.PSsx _ _ _);refine' (jfr (i:=2) wgm.nd rfl (uD rfl) (jik (qci (qbc #[qa5,qa5]) (qci (qbc #[qa5,qa5]) (qci (qbc #[qa5,qa5]) (qci (qbc #[qa5,qa5]) (qci (qbc #[qa5,qa5]) (qci (qbc #[qa5,qa5]) jij)))))) (qag qb4 (pv 1) qa5) nofun) ?ry)
 case' ry=>exact(qa6 (qaf (qac ((w4z T).mono ∅) hr rfl T.w6y T.w5t.kp T.w6w .nil qas #[qag qb3 (~~~0) (~~~2),qag qb3 (~~~0) (~~~2)])))
 walk_at"d"
 try dsimp only[cxC]
 refine qad (σ:=[sr a,some (.int m),none]) rfl ?_;have m0:=uW m (show(6:Int)≠0 by decide);have m1:=uZ m (show(0:Int)<6 by decide);left;rename_i p1 h1 p2 h2 p3 h3 p4 h4 p5 h5 p6 h6 pl hpl;have s1:=(((((qa4 h1 (.tup [V.int 1,V.int 1])).trans (qa4 h2 (.tup [V.int 1,V.int 2]))).trans (qa4 h3 (.tup [V.int 1,V.int 3]))).trans (qa4 h4 (.tup [V.int 9,V.int 10]))).trans (qa4 h5 (.tup [V.int 1,V.int 1000003]))).trans ((qa4 h6 (.tup [V.int 0,V.int 1])).trans (qa4 hpl (.lst [V.ref p1,V.ref p2,V.ref p3,V.ref p4,V.ref p5,V.ref p6])));have el:upd (upd (upd (upd (upd (upd (upd H p1 (.tup [V.int 1,V.int 1])) p2 (.tup [V.int 1,V.int 2])) p3 (.tup [V.int 1,V.int 3])) p4 (.tup [V.int 9,V.int 10])) p5 (.tup [V.int 1,V.int 1000003])) p6 (.tup [V.int 0,V.int 1])) pl (.lst [V.ref p1,V.ref p2,V.ref p3,V.ref p4,V.ref p5,V.ref p6]) pl=some (.lst [V.ref p1,V.ref p2,V.ref p3,V.ref p4,V.ref p5,V.ref p6]):=qa1;have e1:=qaa (o':=.lst [V.ref p1,V.ref p2,V.ref p3,V.ref p4,V.ref p5,V.ref p6]) (qaa (o':=.tup [V.int 0,V.int 1]) (qaa (o':=.tup [V.int 1,V.int 1000003]) (qaa (o':=.tup [V.int 9,V.int 10]) (qaa (o':=.tup [V.int 1,V.int 3]) (qaa (o':=.tup [V.int 1,V.int 2]) (qa1 (H:=H) (a:=p1) (o:=.tup [V.int 1,V.int 1])) h2) h3) h4) h5) h6) hpl;have e2:=qaa (o':=.lst [V.ref p1,V.ref p2,V.ref p3,V.ref p4,V.ref p5,V.ref p6]) (qaa (o':=.tup [V.int 0,V.int 1]) (qaa (o':=.tup [V.int 1,V.int 1000003]) (qaa (o':=.tup [V.int 9,V.int 10]) (qaa (o':=.tup [V.int 1,V.int 3]) (qa1 (H:=upd H p1 (.tup [V.int 1,V.int 1])) (a:=p2) (o:=.tup [V.int 1,V.int 2])) h3) h4) h5) h6) hpl;have e3:=qaa (o':=.lst [V.ref p1,V.ref p2,V.ref p3,V.ref p4,V.ref p5,V.ref p6]) (qaa (o':=.tup [V.int 0,V.int 1]) (qaa (o':=.tup [V.int 1,V.int 1000003]) (qaa (o':=.tup [V.int 9,V.int 10]) (qa1 (H:=upd (upd H p1 (.tup [V.int 1,V.int 1])) p2 (.tup [V.int 1,V.int 2])) (a:=p3) (o:=.tup [V.int 1,V.int 3])) h4) h5) h6) hpl;have e4:=qaa (o':=.lst [V.ref p1,V.ref p2,V.ref p3,V.ref p4,V.ref p5,V.ref p6]) (qaa (o':=.tup [V.int 0,V.int 1]) (qaa (o':=.tup [V.int 1,V.int 1000003]) (qa1 (H:=upd (upd (upd H p1 (.tup [V.int 1,V.int 1])) p2 (.tup [V.int 1,V.int 2])) p3 (.tup [V.int 1,V.int 3])) (a:=p4) (o:=.tup [V.int 9,V.int 10])) h5) h6) hpl;have e5:=qaa (o':=.lst [V.ref p1,V.ref p2,V.ref p3,V.ref p4,V.ref p5,V.ref p6]) (qaa (o':=.tup [V.int 0,V.int 1]) (qa1 (H:=upd (upd (upd (upd H p1 (.tup [V.int 1,V.int 1])) p2 (.tup [V.int 1,V.int 2])) p3 (.tup [V.int 1,V.int 3])) p4 (.tup [V.int 9,V.int 10])) (a:=p5) (o:=.tup [V.int 1,V.int 1000003])) h6) hpl;have e6:=qaa (o':=.lst [V.ref p1,V.ref p2,V.ref p3,V.ref p4,V.ref p5,V.ref p6]) (qa1 (H:=upd (upd (upd (upd (upd H p1 (.tup [V.int 1,V.int 1])) p2 (.tup [V.int 1,V.int 2])) p3 (.tup [V.int 1,V.int 3])) p4 (.tup [V.int 9,V.int 10])) p5 (.tup [V.int 1,V.int 1000003])) (a:=p6) (o:=.tup [V.int 0,V.int 1])) hpl;generalize upd (upd (upd (upd (upd (upd (upd H p1 (.tup [V.int 1,V.int 1])) p2 (.tup [V.int 1,V.int 2])) p3 (.tup [V.int 1,V.int 3])) p4 (.tup [V.int 9,V.int 10])) p5 (.tup [V.int 1,V.int 1000003])) p6 (.tup [V.int 0,V.int 1])) pl (.lst [V.ref p1,V.ref p2,V.ref p3,V.ref p4,V.ref p5,V.ref p6])=H1 at*
 obtain⟨pa,c,e,xa,ha1,c0,ce,e0,eb⟩:∃(pa:Addr)(c e:Int),atI [V.ref p1,V.ref p2,V.ref p3,V.ref p4,V.ref p5,V.ref p6] (m%6)=some (.ref pa)/\H1 pa=some (.tup [.int c,.int e])/\0<=c/\c<=e/\0<e/\e<=1000003:=by
  generalize m%6=k at*;obtain rfl|rfl|rfl|rfl|rfl|rfl:k=0\/k=1\/k=2\/k=3\/k=4\/k=5:=by omega
  .exact⟨p1,1,1,rfl,e1,∅,∅,∅,∅⟩
  .exact⟨p2,1,2,rfl,e2,∅,∅,∅,∅⟩
  .exact⟨p3,1,3,rfl,e3,∅,∅,∅,∅⟩
  .exact⟨p4,9,10,rfl,e4,∅,∅,∅,∅⟩
  .exact⟨p5,1,1000003,rfl,e5,∅,∅,∅,∅⟩
  .exact⟨p6,0,1,rfl,e6,∅,∅,∅,∅⟩
 refine qcc (SqL.of el) xa ?_;have ha':=ha.same s1;unfold qb8 at ha';obtain⟨x1,x2⟩:=rx.h;have c6:c.natAbs<2^600:=uO (show c.natAbs<=1000003 by omega) ∅;have e7:e.natAbs<2^600:=uO (show e.natAbs<=1000003 by omega) ∅;have dp:=aB (den_pos x) e0;have hd:Hug ((x.den:Int)*e):=Hug.small (by
  rw[wS,vO];exact uO (wP (xG rx.d) (show e.natAbs<=1000003 by omega)) ∅)
 clear e1 e2 e3 e4 e5 e6 h1 h2 h3 h4 h5 h6 hpl m0 m1 xa el;left;refine⟨_,_,rfl,hd,dp,fun p hp=>?_⟩;refine q p _ c e _ (s1.trans (qa4 hp _)) qfy c0 ce e0 eb ?_;have eq:(e:Rat)≠0:=by
  have:(0:Rat) <(e:Rat):=by exact_mod_cast e0
  grind
 have dq:=qdl x;rw[uS,uS,qez x,uN];have h1:x*((x.den:Nat):Rat)*(c:Rat) /(((x.den:Nat):Rat)*(e:Rat))*(((x.den:Nat):Rat)*(e:Rat))=x*((x.den:Nat):Rat)*(c:Rat):=xB (by intro w;rcases dL.mp w with w|w;exact dq w;exact eq w);generalize x*((x.den:Nat):Rat)*(c:Rat) /(((x.den:Nat):Rat)*(e:Rat))=y at*;have h2:(y*(e:Rat)-x*(c:Rat))*((x.den:Nat):Rat)=0:=by grind
 rcases dL.mp h2 with w|w
 .grind
 .exact absurd w dq
inductive jr4(K:uX)(d:Ad)(vs:List V)(H:Hp)(Q:VK)(E:XK):Prop
 |mk(a b:Addr)(x y:Rat)(sg:Int)(_:vs=[.ref a,.ref b,.int sg])(_:qb8 H a x)(_:qb8 H b y)(_:RB x)(_:RB y)(_:(sg=1\/sg= -1))(_:∀p,H p=none->Q (.ref p) (upd H p (frO (x+(sg:Rat)*y))))
include T in
theorem wfy:jac P w K mg base CX0 3 d.wih d.wgb ["_law_one","_law_other","_law_sign"] (jr4 K d):=by
 exists T.wgw.ok wis
 .right
 obtain⟨a,b,x,y,sg,rfl,ha,hb,rx,ry,hs,q⟩:=h;refine⟨_,(qa6 (qaf (qac ((w4z T).mono ∅) hr rfl T.w6y T.w5t.kp T.w6w .nil qas #[qag qby (qag qb3 (~~~0) (~~~1)) (qag qb3 (qag qb3 (pv 2) (~~~1)) (~~~0)),qag qb3 (~~~0) (~~~1)]))),?_⟩
 walk_at"d"
 try dsimp only[cxC]
 refine qad (σ:=[sr a,sr b,some (.int sg)]) rfl ?_;obtain⟨x1,x2⟩:=rx.h;obtain⟨y1,y2⟩:=ry.h;have sg6:sg.natAbs<2^600:=uO (show sg.natAbs<=1 by omega) ∅;have sy:(sg*y.num).natAbs<2^600:=by
  rcases hs with rfl|rfl
  .rw[Int.one_mul];exact y1
  .rw[Int.neg_mul,Int.one_mul,Int.natAbs_neg];exact y1
 have dx:=den_pos x;have dy:=den_pos y;have hd:Hug ((x.den:Int)*(y.den:Int)):=Hug.small (by
  rw[wS,vO,vO];exact uO (wP (xG rx.d) (xG ry.d)) ∅)
 have dp:=aB dx dy;have ev:((x.num*(y.den:Int)+sg*y.num*(x.den:Int):Int):Rat) /(((x.den:Int)*(y.den:Int):Int):Rat)=x+(sg:Rat)*y:=by
  rw[jdl (by exact_mod_cast dp),xO,uS,uS,uS,uS,qez x,qez y];grind
 unfold qb8 at ha hb;left;refine⟨_,_,rfl,hd,dp,fun p hp=>?_⟩;rw[ev];exact q p hp
structure Evs(D:Dl)(N:Nat)(s:Str->Rat):Prop where
 n0:0<N
 nb:N<=10^28
 dv:∀n∈D.W0,Dv N (s n)
 lo:∀n∈D.W0,0<=s n
 hi:∀n∈D.W0,s n<=(B31:Rat)
theorem jr5:(0:Rat)<=(B31:Rat)/\1000*(B31:Rat)=(((10^34:Nat)):Rat):=by
 constructor
 .exact_mod_cast wR _
 .have:1000*B31=(10^34:Nat):=∅
  exact_mod_cast this
def Dv.int(z:Int):Dv N (z:Rat):=⟨z*(N:Int),by rw[uS,uN]⟩
theorem Dv.ad{a b:Rat}(h:Dv N a)(h':Dv N b):Dv N (a+b):=by
 obtain⟨z,hz⟩:=h;obtain⟨y,hy⟩:=h';exact⟨z+y,by rw[xO,<-hz,<-hy];grind⟩
theorem Evs.sz(h:Evs D N s){k:Nat}(k0:0<k)(kb:k<=10^7):Szs D (N*k) s:=by
 have q:=jr5;exact⟨bT h.n0 k0,uY (wP h.nb kb) ∅,fun n hn=>(h.dv n hn).mul k,fun n hn=>by have:=h.lo n hn;grind,fun n hn=>by have:=h.hi n hn;grind⟩
theorem Szs.put(h:Szs D N s)(z:Str){x:Rat}(dv:Dv N x)(lo: -(((10^34:Nat)):Rat)<=x)(hi:x<=(((10^34:Nat)):Rat)):Szs D N (fun y=>if y=z then x else s y):=by
 refine⟨h.n0,h.nb,fun n hn=>?_,fun n hn=>?_,fun n hn=>?_⟩
 .split
  .exact dv
  .exact h.dv n hn
 .split
  .exact lo
  .exact h.lo n hn
 .split
  .exact hi
  .exact h.hi n hn
def Szs.rb(h:Szs D N s){n:Str}(hn:n∈D.W0):RB (s n):=qfi (B:=10^34) h.n0 (uY h.nb ∅) ∅ (h.dv n hn) (h.lo n hn) (h.hi n hn)
theorem Szs.ps(h:Szs D N s):PsB D.W0 s:=by
 have q:=q34;exact⟨fun n hn=>(h.rb hn).d,fun n hn=>by have:=h.lo n hn;grind,fun n hn=>by have:=h.hi n hn;grind⟩
theorem qg0(hz:z∈W){x:Rat}(y:Str):(if y=z then some x else qc4 W s y)=qc4 W (fun y=>if y=z then x else s y) y:=by
 unfold qc4;by_cases c:y=z
 .rw[gL c,gL (by rw[c];exact hz)];show some x=some (if y=z then x else s y);rw[gL c]
 .rw[gK c]
  split
  .show some (s y)=some (if y=z then x else s y);rw[gK c]
  .rfl
inductive jjr(K:uX)(d:Ad)(vs:List V)(H:Hp)(Q:VK)(E:XK):Prop
 |mk(p ln le dg dw dr:Addr)(nm:List Str)(es:List Nat)(kg kw kr:List (Key×V))(D:Dl)(ds:Addr)(ks:List (Key×V))(s:Str->Rat)(N:Nat)(z:Str)(_:vs=[.ref p,.ref ds,.str z])(_:jdx H p ln le dg dw dr nm es kg kw kr D)(_:jco nm es D)(_:(∀y∈nm,0<=D.rm y/\D.rm y<=10^31))(_:H ds=some (.dK ks))(_:FD H ks (qc4 D.W0 s))(_:Evs D N s)(_:z∈D.W0)(_:∀(a:Addr)(x:Rat) H',jab H H'->qb8 H' a x->Dv N x->-(((10^34:Nat)):Rat)<=x->x<=(((10^34:Nat)):Rat)->Q (.ref a) H')
set_option maxHeartbeats 9000000 in
include T in
theorem wgh:jac P w K mg base CX0 6 d.wb0 d.w9p ["_law_sharing_here","_law_shares","_law_one"] (jjr K d):=by
 exists T.weh.ok w1e
 .right
 obtain⟨p,ln,le,dg,dw,dr,nm,es,kg,kw,kr,D,ds,ks,s,N,z,rfl,hA,ok,rmb,hds,hF,hE,hz,q⟩:=h;refine⟨_,(qa2 (qdy (pv 0) (qdz rfl (qai (qab (i:=3) w1e.nd rfl (uD rfl)) (qai (qab (i:=4) w1e.nd rfl (uD rfl)) (qai (qab (i:=5) w1e.nd rfl (uD rfl)) (qai (qab (i:=6) w1e.nd rfl (uD rfl)) (qai (qab (i:=7) w1e.nd rfl (uD rfl)) qcl)))))))
  (qa2 (qae (i:=8) w1e.nd rfl (uD rfl) (qbr qc0 rfl T.w5y wH #[pv 1]))
  (qa2 (qb2 (qap hr) (pv 8) (pv 2) (qbc #[qa5,qa5]) rfl)
  (qa2 (qae (i:=9) w1e.nd rfl (uD rfl) (qbc #[qag jct qa5 qa5,qa5]))
  (qa2 (qb1 vJ rfl (qaw (qac ((wdt T).mono ∅) hr rfl T.wfj T.wej.kp T.wgd .nil qas #[pv 4,qf2 vT aN cT jei (pv 3) #[pv 2]])) (qab (i:=10) w1e.nd rfl (uD rfl)) (qa2 (qae (i:=11) w1e.nd rfl (uD rfl) (qac ((w6d T).mono ∅) hr rfl T.w7y T.w5s.kp T.w7p .nil qas #[pv 8,qac ((w9z T).mono ∅) hr rfl T.wax T.w8z.kp T.wb8 .nil qas #[pv 0,pv 10]]))
  (qa2 (qae (i:=12) w1e.nd rfl (uD rfl) (qbc #[qag jfc (qag qd8 (pv 7|||qam qax (pv 3) (pv 10) nofun) (~~~11)) (~~~11),~~~11]))
  (qa6 (qca (qb5 (qbd (qac ((w7i T).mono ∅) hr rfl T.wan T.w9u.kp T.wag .nil qas #[pv 12,pv 9])) (qa6 (qae (i:=9) w1e.nd rfl (uD rfl) (pv 12))) qal))))))
  (qa6 (qaf (qac ((w4z T).mono ∅) hr rfl T.w6y T.w5t.kp T.w6w .nil qas #[~~~9,~~~9])))))))),?_⟩
 walk_at"d"
 try dsimp only[cxC]
 refine qad (σ:=[sr p,sr ds,some (.str z),none,none,none,none,none,none,none,none,none,none]) rfl ?_;have etop:=hA.top;have l7:=ok.l7;have l8:=ok.ok.l8;have len:=ok.len;have hrA:=hA.rA;have hRs:Rd H ds (.dK ks):=.inl hds;have zk:ks.length<sizeLine:=by
  have:=hF.len (W:=D.W0) fun n hn=>hn;show _<16777216;omega
 have hsz:=hE.sz (k:=1) ∅ ∅;have bq:=jr5;have bz:=Hug.small (k:=10^31) ∅;have h1:Hug 1:=Hug.small ∅;left;rename_i d0 hd0 t0 ht0 la hla;have s2:=(qa4 hd0 (.dK ks)).trans (qa4 ht0 (.tup [V.int 0,V.int 1]));have ed:upd (upd H d0 (.dK ks)) t0 (.tup [V.int 0,V.int 1]) d0=some (.dK ks):=qaa qa1 ht0;have f0:qb8 (upd (upd H d0 (.dK ks)) t0 (.tup [V.int 0,V.int 1])) t0 0:=qa1;have hF2:=hF.t (qav.of s2);generalize upd (upd H d0 (.dK ks)) t0 (.tup [V.int 0,V.int 1])=H2 at*;have t3:qav H2 (upd H2 d0 (.dK (qbh ks (uE z) (.ref t0)))):=qav.upd ed fun xs e=>by cases e
 have hF3:=((hF2.put z f0).t t3).cast (qg0 hz);have s3:jab H (upd H2 d0 (.dK (qbh ks (uE z) (.ref t0)))):=qb9 s2 hd0;have ed3:upd H2 d0 (.dK (qbh ks (uE z) (.ref t0))) d0=some (.dK (qbh ks (uE z) (.ref t0))):=qa1;generalize upd H2 d0 (.dK (qbh ks (uE z) (.ref t0)))=H3 at*;generalize qbh ks (uE z) (.ref t0)=k0 at*;have n4:=qa4 hla (.tup [V.int (10^bK 31),V.int 1]);have s4:=s3.trans n4;have ed4:=n4 _ _ ed3;have hF4:=hF3.t (qav.of n4);have ela:upd H3 la (.tup [V.int (10^bK 31),V.int 1]) la=some (.tup [V.int (10^31),V.int 1]):=qa1;generalize upd H3 la (.tup [V.int (10^bK 31),V.int 1])=H4 at*;have hs0:Szs D N (fun y=>if y=z then 0 else s y):=by
  have:=hsz.put z (x:=0) ⟨0,by rw[fW];rfl⟩ (by grind) (by grind);rw[Nat.mul_one] at this;exact this
 have hs0b:∀n∈D.W0,0<=(fun y=>if y=z then(0:Rat) else s y) n/\(fun y=>if y=z then(0:Rat) else s y) n<=(B31:Rat):=fun n hn=>by
  have:=hE.lo n hn;have:=hE.hi n hn;show 0<=(if n=z then(0:Rat) else s n)/\(if n=z then(0:Rat) else s n)<=_
  split<;>grind
 generalize (fun y=>if y=z then(0:Rat) else s y)=s0 at*;have ps:=hs0.ps;have hA4:=hA.same s4;have enm:=hA4.n;obtain⟨k,hk,ek⟩:=zU.mp (ok.sub z hz);have x31:(((10^31:Int)):Rat)=(B31:Rat):=by unfold B31;rw[<-uN];rfl
 clear hd0 ht0 hla s2 ed f0 hF2 t3 hF3 s3 ed3 n4 hRs hsz zk hF hds;left;rw[<-ek];refine jig (SqL.of enm) ok.nd hk ?_;rw[ek];left;refine⟨le,es,k,rfl,hA4.e,ok.lo,#[],#[],fun ll hll=>?_⟩;have n5:=qa4 hll (.lst ((qbx (elN es) k).map iV));have s5:=s4.trans n5;have ell:upd H4 ll (.lst ((qbx (elN es) k).map iV)) ll=some (.lst ((qbx (elN es) k).map iV)):=qa1;have ela5:=n5 _ _ ela;have ed5:=n5 _ _ ed4;have hF5:=hF4.t (qav.of n5);generalize upd H4 ll (.lst ((qbx (elN es) k).map iV))=H5 at*;clear hll n5 s4 ela ed4 hF4 hA4 enm;left;refine qbp (xs:=(qbx (elN es) k).map iV) (fun i σ H'=>∃(la:Addr)(t b:Int)(x:Rat)(w10 w11 w12:Option V),σ=[sr p,sr ds,some (.str z),sr ln,sr le,sr dg,sr dw,sr dr,sr d0,sr la,w10,w11,w12]/\jab H5 H'/\H' la=some (.tup [.int t,.int b])/\0<b/\b<=2^2100/\(t:Rat)=x*(b:Rat)/\Dv N x/\-(((10^34:Nat)):Rat)<=x/\x<=(((10^34:Nat)):Rat))
  ⟨la,10^31,1,(B31:Rat),none,none,none,rfl,jab.refl _,ela5,∅,∅,by rw[x31,show((1:Int):Rat)=1 from rfl];grind,by rw[<-x31];exact Dv.int _,by grind,by grind⟩ ?_ ?_ ?_
 .rintro i σ H' _ ⟨la,t,b,x,w10,w11,w12,rfl,sm,_⟩;exact SqL.of (sm _ _ ell)
 .rintro i v σ H' hv ⟨la,t,b,x,w10,w11,w12,rfl,sm,ela,b0,b2,et,dx,xlo,xhi⟩;rw[zC] at hv;obtain⟨j,hj,rfl⟩:=uH.mp hv;have hjn:j<nm.length:=by have:=qco ok.low k hk j (zE hj);omega
  have hjm:nmG nm j∈nm:=qcs hjn;have rb:=rmb _ hjm;have hA':=hA.same (s5.trans sm);have xn:atI (nm.map V.str) ((j:Nat):Int)=some (.str (nmG nm j)):=qbt (by rw[zC,qcy hjn];rfl);have il:(qdt D nm (nmG nm j)).length<=7:=uY (yC _ _) l7;have sbi:∀n∈qdt D nm (nmG nm j),n∈D.W0:=fun n hn=>(qdi.mp hn).2.1;clear hv hj;left;refine⟨p,ln,le,dg,dw,dr,nm,es,kg,kw,kr,D,j,rfl,hA',ok,hjn,fun li H6 n6 fli eli=>?_⟩;have s56:=sm.trans n6;left;refine⟨d0,li,k0,D.W0,qdt D nm (nmG nm j),s0,rfl,.inl (s56 _ _ ed5),hF5.t (qav.of s56),ps,eli,sbi,il,fun pt t' b' hpt b0' b2' et'=>?_⟩;have sn:0<=qbz (qdt D nm (nmG nm j)) s0:=qfg fun n hn=>(hs0b n (sbi n hn)).1;have sx:qbz (qdt D nm (nmG nm j)) s0<=7*(B31:Rat):=by
   have h1:=qdf (l:=qdt D nm (nmG nm j)) (f:=s0) (B:=(B31:Rat)) fun n hn=>(hs0b n (sbi n hn)).2;have h2:(((qdt D nm (nmG nm j)).length:Nat):Rat)<=7:=by exact_mod_cast il
   have m:=wT (show(0:Rat)<=7-(((qdt D nm (nmG nm j)).length:Nat):Rat) by grind) bq.1;grind
  have sdv:Dv N ((D.rm (nmG nm j):Rat)-qbz (qdt D nm (nmG nm j)) s0):=(Dv.int _).sub (qgh fun n hn=>hs0.dv n (sbi n hn));generalize qbz (qdt D nm (nmG nm j)) s0=sq at*;have r0q:(0:Rat)<=(D.rm (nmG nm j):Rat):=by exact_mod_cast rb.1
  have r1q:(D.rm (nmG nm j):Rat)<=(B31:Rat):=by
   rw[<-x31];exact_mod_cast rb.2
  have q5:=q35;have q4:=q34;have b3':=qgb b2';have b3:=qgb b2;have er:((D.rm (nmG nm j)*b'-t':Int):Rat)=((D.rm (nmG nm j):Rat)-sq)*(b':Rat):=by
   rw[dJ,uS,et'];grind
  have hgr:=jdt rb.1 rb.2;have hgb':=je1 b0' b3';have hg0:Hug (D.rm (nmG nm j)*b'-t'):=jjn b0' b3' er (by grind) (by grind);have hgt:=jjn b0 b3 et (by grind) (by grind);have hgb:=je1 b0 b3;have lp:=qfp b0' b0 er et;have n7:=qa4 hpt (.tup [V.int t',V.int b']);have ept:upd H6 pt (.tup [V.int t',V.int b']) pt=some (.tup [V.int t',V.int b']):=qa1;generalize upd H6 pt (.tup [V.int t',V.int b'])=H7 at*;have s57:=s56.trans n7;have hA7:=hA.same (s5.trans s57);have hRr:Rd H7 dr (.dK kr):=.inl hA7.r;have grm:qbu nm D.rm (nmG nm j)=some (D.rm (nmG nm j)):=qba hjm;have ela7:=n7 _ _ (n6 _ _ ela);clear hpt n7 n6 eli fli et' b3 b3' q5;rw[show iV j=V.int ((j:Nat):Int) from rfl];generalize ((j:Nat):Int)=jj at*;left;refine qcc (SqL.of hA7.n) xn ?_;left;rename_i pr hpr;have n8:=qa4 hpr (.tup [V.int (D.rm (nmG nm j)*b'-t'),V.int b']);have epr:upd H7 pr (.tup [V.int (D.rm (nmG nm j)*b'-t'),V.int b']) pr=some (.tup [V.int (D.rm (nmG nm j)*b'-t'),V.int b']):=qa1;generalize upd H7 pr (.tup [V.int (D.rm (nmG nm j)*b'-t'),V.int b'])=H8 at*;have s58:=s57.trans n8;refine qd4 ?_;left;refine⟨pr,la,_,b',t,b,rfl,epr,n8 _ _ ela7,hg0,hgb',hgt,hgb,?_⟩;by_cases cc:(D.rm (nmG nm j):Rat)-sq<x
  .rw[gM (lp.mpr cc)];left;exact⟨pr,_,b',_,_,_,_,rfl,s58,epr,b0',by assumption,er,sdv,by grind,by grind⟩
  .rw[gO fun w=>cc (lp.mp w)];left;exact⟨la,t,b,x,_,_,_,rfl,s58,n8 _ _ ela7,b0,b2,et,dx,xlo,xhi⟩
 rintro σ H' ⟨la,t,b,x,w10,w11,w12,rfl,sm,ela,b0,b2,et,dx,xlo,xhi⟩;have hb:=je1 b0 (qgb b2);left;refine⟨t,b,rfl,hb,b0,fun p hp=>?_⟩;have ex:(t:Rat) /(b:Rat)=x:=(jdl (by exact_mod_cast b0)).mpr et;rw[ex];exact q p x _ (s5.trans (sm.trans (qa4 hp _))) qfy dx xlo xhi
theorem jor(y:Str):(if y=z then some x else qc4 W s y)=qc4 (W++[z]) (fun y=>if y=z then x else s y) y:=by
 unfold qc4;by_cases c:y=z
 .rw[gL c,gL (by rw[c];simp)];show some x=some (if y=z then x else s y);rw[gL c]
 .rw[gK c];by_cases c2:y∈W
  .rw[gL c2,gL (zO _ c2)];show some (s y)=some (if y=z then x else s y);rw[gK c]
  .rw[gK c2,gK fun h=>(zN.mp h).elim c2 fun h=>c (zF.mp h)]
theorem jug(ok:jak D){N:Nat}{s:Str->Rat}(h:Evs D N s){n z:Str}(hn:n∈D.W0)(hz:z∈D.W0):Dv (N*(D.wt z).toNat) ((((s z).num*D.wt n:Int):Rat) /((((s z).den:Int)*D.wt z:Int):Rat))/\0<=(((s z).num*D.wt n:Int):Rat) /((((s z).den:Int)*D.wt z:Int):Rat)/\(((s z).num*D.wt n:Int):Rat) /((((s z).den:Int)*D.wt z:Int):Rat)<=(((10^34:Nat)):Rat):=by
 have wn:=wtQ ok hn;have wz:=wtQ ok hz;have wi:=ok.w1 z hz;have dp:=aB (den_pos (s z)) (show 0<D.wt z by omega);have dq:(0:Rat) <((((s z).den:Int)*D.wt z:Int):Rat):=by exact_mod_cast dp
 have e:(((s z).num*D.wt n:Int):Rat) /((((s z).den:Int)*D.wt z:Int):Rat)*(D.wt z:Rat)=s z*(D.wt n:Rat):=by
  have h1:(((s z).num*D.wt n:Int):Rat) /((((s z).den:Int)*D.wt z:Int):Rat)*((((s z).den:Int)*D.wt z:Int):Rat)=(((s z).num*D.wt n:Int):Rat):=xB (by grind);generalize (((s z).num*D.wt n:Int):Rat) /((((s z).den:Int)*D.wt z:Int):Rat)=y at*;rw[uS,uS,uN,qez (s z),uN] at h1;have dn:=qdl (s z);have h2:(y*(D.wt z:Rat)-s z*(D.wt n:Rat))*(((s z).den:Nat):Rat)=0:=by grind
  rcases dL.mp h2 with w|w
  .grind
  .exact absurd w dn
 generalize (((s z).num*D.wt n:Int):Rat) /((((s z).den:Int)*D.wt z:Int):Rat)=y at*;have lo:=h.lo z hz;have hi:=h.hi z hz;have q4:=jr5;have ez:(((D.wt z).toNat:Nat):Rat)=(D.wt z:Rat):=by
  have:(((D.wt z).toNat:Nat):Int)=D.wt z:=by omega
  rw[<-uN,this]
 have m1:=wT lo (show(0:Rat)<=(D.wt n:Rat) by grind);have m2:=vQ hi (show(0:Rat)<=(D.wt n:Rat) by grind);have m3:=vR wn.2 q4.1;have y0:0<=y:=uR fun c=>by
  have:=wI (show y<0 by grind) (show(0:Rat) <(D.wt z:Rat) by grind);grind
 refine⟨?_,y0,?_⟩
 .obtain⟨k,hk⟩:=h.dv z hz;refine⟨k*D.wt n,?_⟩;rw[wV,ez,uS,<-hk];grind
 .have m4:=vR wz.1 y0;grind
inductive je6(K:uX)(d:Ad)(vs:List V)(H:Hp)(Q:VK)(E:XK):Prop
 |mk(p ln le dg dw dr:Addr)(nm:List Str)(es:List Nat)(kg kw kr:List (Key×V))(D:Dl)(ds:Addr)(ks:List (Key×V))(s:Str->Rat)(N:Nat)(z:Str)(_:vs=[.ref p,.ref ds,.str z])(_:jdx H p ln le dg dw dr nm es kg kw kr D)(_:jco nm es D)(_:H ds=some (.dK ks))(_:ds≠dw)(_:ds≠dg)(_:FD H ks (qc4 D.W0 s))(_:Evs D N s)(_:z∈D.W0)(_:∀(a:Addr)(k':List (Key×V))(s':Str->Rat)(N':Nat) H',jab H H'->H a=none->H' a=some (.dK k')->FD H' k' (qc4 D.W0 s')->Szs D N' s'->Q (.ref a) H')
set_option maxHeartbeats 9000000 in
include T in
theorem we6:jac P w K mg base CX0 4 d.w7f d.w64 ["_law_sharing_here","_law_shares","_law_one"] (je6 K d):=by
 exists T.wai.ok w1b
 .right
 obtain⟨p,ln,le,dg,dw,dr,nm,es,kg,kw,kr,D,ds,ks,s,N,z,rfl,hA,ok,hds,nsw,nsg,hF,hE,hz,q⟩:=h;refine⟨_,(qa2 (qdy (pv 0) (qdz rfl (qai (qab (i:=3) w1b.nd rfl (uD rfl)) (qai (qab (i:=4) w1b.nd rfl (uD rfl)) (qai (qab (i:=5) w1b.nd rfl (uD rfl)) (qai (qab (i:=6) w1b.nd rfl (uD rfl)) (qai (qab (i:=7) w1b.nd rfl (uD rfl)) qcl)))))))
  (qa2 (qae (i:=8) w1b.nd rfl (uD rfl) qb7)
  (qa2 (qdx (qb1 vJ rfl (qck (pv 1)) (qab (i:=9) w1b.nd rfl (uD rfl)) (qa2 (qae (i:=10) w1b.nd rfl (uD rfl) (qag qb3 (qam qak (pv 1|||pv 2) qa5 nofun) (pv 5|||pv 9)))
  (qa2 (qb2 (qap hr) (pv 8) (pv 9) (qac ((w4z T).mono ∅) hr rfl T.w6y T.w5t.kp T.w6w .nil qas #[pv 10,qag qb3 (qam qak (pv 1|||pv 2) qa5 nofun) (pv 5|||pv 2)]) rfl)
  (qa6 (qca (qb5 (qbd (qac ((w7i T).mono ∅) hr rfl T.wan T.w9u.kp T.wag .nil qas #[qbc #[pv 6|||pv 9,qa5],pv 8|||pv 9])) (qa6 (qb2 (qap hr) (pv 8) (pv 9) (qbc #[pv 6|||pv 9,qa5]) rfl)) qal)))))))
  (qa6 (qaf (pv 8)))))),?_⟩
 walk_at"d"
 try dsimp only[cxC]
 refine qad (σ:=[sr p,sr ds,some (.str z),none,none,none,none,none,none,none,none]) rfl ?_;have etop:=hA.top;have l8:=ok.ok.l8;have hgA:=hA.gA;have hwA:=hA.wA;obtain⟨fs,efs,pfs⟩:=hF.keys ok.ok.nd;have klen:ks.length=fs.length:=by have:=congrArg wG efs;rw[zB,zB] at this;exact this
 have fl:=pfs.length_eq;have hkey:∀(i:Nat)(k:Key)(v:V),ks[i]?=some (k,v)->∃n,k=uE n/\fs[i]?=some n/\n∈D.W0:=fun i k v hk=>by
  have h1:(ks.map (·.1))[i]?=some k:=by rw[zC,hk];rfl
  rw[efs,zC] at h1;obtain⟨m,hm,e⟩:=uH.mp h1;exact⟨m,e.symm,hm,pfs.mem_iff.mp (zE hm)⟩
 have rbz:=(hE.sz (k:=1) ∅ ∅).rb hz;obtain⟨z1,z2⟩:=rbz.h;have w6:∀n∈D.W0,(D.wt n).natAbs<2^600:=fun n hn=>by
  have w1:=ok.ok.w1 n hn;have w2:=ok.ok.w2 n hn;exact uO (show(D.wt n).natAbs<=1000 by omega) ∅
 have wz6:=w6 z hz;have wz1:=ok.ok.w1 z hz;have wz2:=ok.ok.w2 z hz;have dp:=aB (den_pos (s z)) (show 0<D.wt z by omega);have hd:Hug (((s z).den:Int)*D.wt z):=Hug.small (by
  rw[wS,vO];exact uO (wP (xG rbz.d) (show(D.wt z).natAbs<=1000 by omega)) ∅)
 have gz:qbu nm D.wt z=some (D.wt z):=qba (ok.sub z hz);have h1:Hug 1:=Hug.small ∅;left;rename_i dn hdn;have n1:=qa4 hdn (.dK []);have edn:upd H dn (.dK []) dn=some (.dK []):=qa1;have nsn:ds≠dn:=qa9 hds hdn;generalize upd H dn (.dK [])=H1 at*;refine qf1 (n1 _ _ hds) fun o=>?_;refine qe0 (fun i σ H'=>∃(ko:List (Key×V))(s':Str->Rat)(w9 w10:Option V),σ=[sr p,sr ds,some (.str z),sr ln,sr le,sr dg,sr dw,sr dr,sr dn,w9,w10]/\Sb2 ds dn H1 H'/\H' ds=some (.frz o (.dK ks))/\H' dn=some (.dK ko)/\FD H' ko (qc4 (fs.take i) s')/\∀n∈fs.take i,Dv (N*(D.wt z).toNat) (s' n)/\0<=s' n/\s' n<=(((10^34:Nat)):Rat))
  ⟨[],fun _=>0,_,none,rfl,fun b u n2 _ e=>by rw[qa7 n2];exact e,qa1,by rw[qa7 nsn.symm];exact edn,FD.nil.cast fun z=>rfl,fun n hn=>by simp at hn⟩ ?_ ?_ ?_
 .rintro i σ H' _ ⟨ko,s',w9,w10,rfl,sb,fz,_⟩;exact fz
 .rintro i k v σ H' hk ⟨ko,s',w9,w10,rfl,sb,fz,ed,hFo,hb⟩;obtain⟨n,rfl,hni,hn⟩:=hkey i k v hk;have tS:qav H H':=fun a xs e=>sb a _ (fun w=>by subst w;rw[hds] at e;cases e) (qa9 e hdn) (n1 _ _ e);have hF':=hF.t tS;have hRs:Rd H' ds (.dK ks):=.inr ⟨o,fz⟩;have hRg:Rd H' dg (.dK kg):=.inl (sb _ _ nsg.symm (qa9 hA.g hdn) (n1 _ _ hA.g));have gn:qbu nm D.wt n=some (D.wt n):=qba (ok.sub n hn);have wn6:=w6 n hn;have etk:fs.take (i+1)=fs.take i++[n]:=by rw[zM,hni];rfl
  have hlx:=jug ok.ok hE hn hz;have hkl:ko.length<=D.W0.length:=hFo.len fun y hy=>pfs.mem_iff.mp (zX hy);have zk:ko.length<sizeLine:=by show _<16777216;omega
  clear hk hkl;show qe6 _ (.str n) _ _ _;left;refine qcg hRs hF' (qbb hz) fun a1 ha1=>?_;unfold qb8 at ha1;left;refine qcg hRs hF' (qbb hz) fun a2 ha2=>?_;unfold qb8 at ha2;left;refine⟨_,_,rfl,hd,dp,fun pn hpn=>?_⟩;generalize (((s z).num*D.wt n:Int):Rat) /((((s z).den:Int)*D.wt z:Int):Rat)=x at*;have n3:=qa4 hpn (frO x);have fx:qb8 (upd H' pn (frO x)) pn x:=qfy;generalize upd H' pn (frO x)=H3 at*;have ed3:=n3 _ _ ed;have fz3:=n3 _ _ fz;have hFo3:=hFo.t (qav.of n3);left;have hFp:=((hFo3.put n fx).t (qav.upd ed3 (o:=.dK (qbh ko (uE n) (.ref pn))) fun xs e=>by cases e)).cast (jor (W:=fs.take i) (s:=s') (z:=n) (x:=x));have ed4:upd H3 dn (.dK (qbh ko (uE n) (.ref pn))) dn=some (.dK (qbh ko (uE n) (.ref pn))):=qa1;have fz4:upd H3 dn (.dK (qbh ko (uE n) (.ref pn))) ds=some (.frz o (.dK ks)):=by rw[qa7 nsn];exact fz3
  have sb4:Sb2 ds dn H1 (upd H3 dn (.dK (qbh ko (uE n) (.ref pn)))):=fun b u c1 c2 e=>by rw[qa7 c2];exact n3 _ _ (sb b u c1 c2 e)
  have hb4:∀m∈fs.take i++[n],Dv (N*(D.wt z).toNat) (if m=n then x else s' m)/\0<=(if m=n then x else s' m)/\(if m=n then x else s' m)<=(((10^34:Nat)):Rat):=fun m hm=>by
   by_cases c:m=n
   .rw[gL c];exact hlx
   .rw[gK c];exact hb m ((zN.mp hm).elim id fun h=>absurd (zF.mp h) c)
  have fnx:qc4 (fs.take i++[n]) (fun y=>if y=n then x else s' y) n=some x:=by
   rw[qbb (zK _ (zF.mpr rfl))];show some (if n=n then x else s' n)=_;rw[gL rfl]
  generalize upd H3 dn (.dK (qbh ko (uE n) (.ref pn)))=H4 at*;generalize qbh ko (uE n) (.ref pn)=ko4 at*;have gw:qbu D.W0 D.wa n=some (D.wa n):=qba hn;have a0:=ok.ok.a0 n hn;have a1:=ok.ok.a1 n hn;have hRw:Rd H4 dw (.dK kw):=.inl (sb4 _ _ nsw.symm (qa9 hA.w hdn) (n1 _ _ hA.w));have zk4:ko4.length<sizeLine:=by
   have:=hFp.len (W:=D.W0) fun y hy=>(zN.mp hy).elim (fun h=>pfs.mem_iff.mp (zX h)) fun h=>by rw[zF.mp h];exact hn
   show _<16777216;omega
  have q4:=q34;have rbx:RB x:=qfi (B:=10^34) (bT hE.n0 (show 0 <(D.wt z).toNat by omega)) (uY (wP hE.nb (show(D.wt z).toNat<=1000 by omega)) ∅) ∅ hlx.1 (by have:=hlx.2.1;grind) hlx.2.2;have hgx:=Hug.small rbx.n6;have hgd:=Hug.small (k:=((x.den:Nat):Int)) rbx.d6;have hgw:=jdt a0 a1;clear hpn n3 fx ed3 fz3 hFo3 ed fz hFo hRs hRg hF' tS ha1 ha2 zk;refine qd4 ?_;left;rename_i pw hpw;have n5:=qa4 hpw (.tup [V.int (D.wa n),V.int 1]);have ew:upd H4 pw (.tup [V.int (D.wa n),V.int 1]) pw=some (.tup [V.int (D.wa n),V.int 1]):=qa1;generalize upd H4 pw (.tup [V.int (D.wa n),V.int 1])=H5 at*;have ed5:=n5 _ _ ed4;have fz5:=n5 _ _ fz4;have sb5:Sb2 ds dn H1 H5:=fun b u c1 c2 e=>n5 _ _ (sb4 b u c1 c2 e);have hF5:=hFp.t (qav.of n5);have hRw5:Rd H5 dw (.dK kw):=.inl (sb5 _ _ nsw.symm (qa9 hA.w hdn) (n1 _ _ hA.w));clear hpw n5 sb4 hFp hRw ed4 fz4;refine qcg (.inl ed5) hF5 fnx fun a5 ha5=>?_;unfold qb8 at ha5;left;refine⟨pw,a5,D.wa n,1,x.num,x.den,rfl,ew,ha5,hgw,h1,hgx,hgd,?_⟩;generalize decide (D.wa n*((x.den:Nat):Int)<x.num*1)=bb
  cases bb with
  |false=>
   left;rw[etk];exact⟨ko4,_,_,_,rfl,sb5,fz5,ed5,hF5,hb4⟩
  |true=>
   left;rename_i pv hpv;have n6:=qa4 hpv (.tup [V.int (D.wa n),V.int 1]);have fv:qb8 (upd H5 pv (.tup [V.int (D.wa n),V.int 1])) pv (D.wa n:Rat):=qct qa1;generalize upd H5 pv (.tup [V.int (D.wa n),V.int 1])=H6 at*;have hF6:=((hF5.t (qav.of n6)).put n fv).t (qav.upd (n6 _ _ ed5) (o:=.dK (qbh ko4 (uE n) (.ref pv))) fun xs e=>by cases e);rw[etk];have wq:(0:Rat)<=(D.wa n:Rat):=by exact_mod_cast a0
   have wq2:(D.wa n:Rat)<=(((10^34:Nat)):Rat):=by
    have:D.wa n<=((10^34:Nat):Int):=by omega
    generalize (10^34:Nat)=g at this⊢;exact_mod_cast this
   refine⟨_,fun y=>if y=n then(D.wa n:Rat) else if y=n then x else s' y,_,_,rfl,fun b u c1 c2 e=>by rw[qa7 c2];exact n6 _ _ (sb5 b u c1 c2 e),by rw[qa7 nsn];exact n6 _ _ fz5,qa1,hF6.cast (qg0 (zK _ (zF.mpr rfl))),fun m hm=>?_⟩;show Dv _ (if m=n then(D.wa n:Rat) else _)/\_<=(if m=n then(D.wa n:Rat) else _)/\(if m=n then(D.wa n:Rat) else _)<=_;by_cases c:m=n
   .rw[gL c];exact⟨Dv.int _,wq,wq2⟩
   .rw[gK c];exact hb4 m hm
 rintro σ H' ⟨ko,s',w9,w10,rfl,sb,fz,ed,hFo,hb⟩;refine qdu (qf0 fz (qce hds)) ?_;rw[klen,zH] at hFo hb;have s4:jab H (upd H' ds (.dK ks)):=fun b u e=>by
  by_cases c:b=ds
  .subst c;rw[qa1,<-hds];exact e
  .rw[qa7 c];exact sb b u c (qa9 e hdn) (n1 b u e)
 have ed4:upd H' ds (.dK ks) dn=some (.dK ko):=by rw[qa7 nsn.symm];exact ed
 have t4:qav H' (upd H' ds (.dK ks)):=qav.upd fz fun xs e=>by cases e
 have hF4:FD (upd H' ds (.dK ks)) ko (qc4 D.W0 s'):=(hFo.t t4).cast fun y=>by
  unfold qc4;by_cases c:y∈D.W0
  .rw[gL c,gL (pfs.mem_iff.mpr c)]
  .rw[gK c,gK fun h=>c (pfs.mem_iff.mp h)]
 have q4:=q34;have hsz:Szs D (N*(D.wt z).toNat) s':=⟨bT hE.n0 #[],uY (wP hE.nb (show(D.wt z).toNat<=1000 by omega)) ∅,fun n hn=>(hb n (pfs.mem_iff.mpr hn)).1,fun n hn=>by have:=(hb n (pfs.mem_iff.mpr hn)).2.1;grind,fun n hn=>(hb n (pfs.mem_iff.mpr hn)).2.2⟩;generalize upd H' ds (.dK ks)=H4 at*;left;exact q dn ko s' _ H4 s4 hdn ed4 hF4 hsz
def ChI(H:Hp)(D:Dl)(ks:List (Key×V))(s:Str->Rat)(ls d0:Addr)(ss:List Str)(r k:Int)(Hx:Hp):Prop:=∃(k':List (Key×V))(s':Str->Rat)(N':Nat),jab H Hx/\Hx ls=some (.lst (ss.map V.str))/\Hx d0=some (.dK k')/\FD Hx k' (qc4 D.W0 s')/\Szs D N' s'/\(k<=r->k'=ks/\s'=s)
theorem ChI.next{ks:List (Key×V)}{r k:Int}(h:ChI H D ks s ls d0 ss r k Hx):ChI H D ks s ls d0 ss r (k+1) Hx:=by
 obtain⟨k',s',N',a,b,e,f,g,i⟩:=h;exact⟨k',s',N',a,b,e,f,g,fun w=>i #[]⟩
theorem ChI.was{ks:List (Key×V)}{r k:Int}(h:ChI H D ks s ls d0 ss r k Hx)(w:k<=r):jab H Hx/\Hx ls=some (.lst (ss.map V.str))/\Hx d0=some (.dK ks)/\FD Hx ks (qc4 D.W0 s):=by
 obtain⟨k',s',N',a,b,e,f,g,i⟩:=h;obtain⟨rfl,rfl⟩:=i w;exact⟨a,b,e,f⟩
theorem ChI.put{ks:List (Key×V)}{r k:Int}{k0:List (Key×V)}{s0:Str->Rat}{N':Nat}(f:H d0=none)(n:ls≠d0)(sm:jab H Hx)(hl:Hx ls=some (.lst (ss.map V.str)))(ed:Hx d0=some (.dK k0))(hF:FD Hx k0 (qc4 D.W0 s0))(hz:z∈D.W0)(fr:qb8 Hx a x)(sz:Szs D N' (fun y=>if y=z then x else s0 y))(no:r<k):ChI H D ks s ls d0 ss r k (upd Hx d0 (.dK (qbh k0 (uE z) (.ref a)))):=
 ⟨_,_,N',fun b u e=>by rw[qa7 (qa9 e f)];exact sm _ _ e,by rw[qa7 n];exact hl,qa1,((hF.put z fr).t (qav.upd ed fun xs e=>by cases e)).cast (qg0 hz),sz,fun w=>by omega⟩
theorem jml(h:Evs D N s){z:Str}(hz:z∈D.W0){x:Rat}{c e:Int}(c0:0<=c)(ce:c<=e)(e0:0<e)(ex:x*(e:Rat)=s z*(c:Rat)):Dv (N*e.toNat) x/\0<=x/\x<=s z:=by
 have lo:=h.lo z hz;have eq:(0:Rat) <(e:Rat):=by exact_mod_cast e0
 have cq:(0:Rat)<=(c:Rat):=by exact_mod_cast c0
 have ceq:(c:Rat)<=(e:Rat):=by exact_mod_cast ce
 have m1:=wT lo cq;have m2:=vR ceq lo;refine⟨?_,?_,?_⟩
 .obtain⟨k,hk⟩:=h.dv z hz;refine⟨k*c,?_⟩;have ee:((e.toNat:Nat):Rat)=(e:Rat):=by
   have:((e.toNat:Nat):Int)=e:=by omega
   rw[<-uN,this]
  rw[wV,ee,uS,<-hk];grind
 .refine uR fun w=>?_;have:=wI (show x<0 by grind) eq;grind
 .refine uR fun w=>?_;have:=wI (show s z<x by grind) eq;grind
theorem juh{b:Int}(b0:0<b):Dv b.toNat (((1:Int):Rat) /(b:Rat))/\0<=((1:Int):Rat) /(b:Rat)/\((1:Int):Rat) /(b:Rat)<=1:=by
 have bq:(1:Rat)<=(b:Rat):=by exact_mod_cast (show(1:Int)<=b by omega)
 have e:((1:Int):Rat) /(b:Rat)*(b:Rat)=((1:Int):Rat):=xB (by grind);rw[show((1:Int):Rat)=1 from rfl] at*;generalize (1:Rat) /(b:Rat)=x at*;have x0:0<=x:=uR fun w=>by
  have:=wI (show x<0 by grind) (show(0:Rat) <(b:Rat) by grind);grind
 refine⟨⟨1,?_⟩,x0,?_⟩
 .have:((b.toNat:Nat):Int)=b:=by omega
  rw[<-uN,this,e];rfl
 .have:=vR bq x0;grind
theorem jr6{M:Nat}{a B:Rat}{sg:Int}(hs:sg=1\/sg= -1)(da:Dv M a)(dx:Dv M x)(x0:0<=x)(xb:x<=B):Dv M (a+(sg:Rat)*x)/\a-B<=a+(sg:Rat)*x/\a+(sg:Rat)*x<=a+B:=by
 rcases hs with rfl|rfl
 .rw[show((1:Int):Rat)=1 from rfl,show a+1*x=a+x by grind];exact⟨da.ad dx,by grind,by grind⟩
 .rw[show((-1:Int):Rat)= -1 from rfl,show a+-1*x=a-x by grind];exact⟨da.sub dx,by grind,by grind⟩
theorem jvs(ok:jak D){n:Str}(hn:n∈D.W0):(0:Rat)<=(D.wa n:Rat)/\(D.wa n:Rat)<=(((10^34:Nat)):Rat):=by
 have a0:=ok.a0 n hn;have a1:=ok.a1 n hn;constructor
 .exact_mod_cast a0
 .have:D.wa n<=((10^34:Nat):Int):=by omega
  generalize (10^34:Nat)=g at this⊢;exact_mod_cast this
inductive jgm(K:uX)(d:Ad)(vs:List V)(H:Hp)(Q:VK)(E:XK):Prop
 |mk(p ln le dg dw dr:Addr)(nm:List Str)(es:List Nat)(kg kw kr:List (Key×V))(D:Dl)(ds:Addr)(ks:List (Key×V))(s:Str->Rat)(N:Nat)(c:Int)(_:vs=[.ref p,.ref ds,.int c])(_:jdx H p ln le dg dw dr nm es kg kw kr D)(_:jco nm es D)(_:(∀y∈nm,0<=D.rm y/\D.rm y<=10^31))(_:H ds=some (.dK ks))(_:ds≠dw)(_:ds≠dg)(_:FD H ks (qc4 D.W0 s))(_:Evs D N s)(_:D.W0≠ [])(_:∀(a:Addr)(k':List (Key×V))(s':Str->Rat)(N':Nat) H',jab H H'->H a=none->H' a=some (.dK k')->FD H' k' (qc4 D.W0 s')->Szs D N' s'->Q (.ref a) H')
set_option maxHeartbeats 9000000 in
include T in
theorem weu:jac P w K mg base CX0 7 d.w90 d.w7t ["_law_sharing_here","_law_shares","_law_cell"] (jgm K d):=by
 exists T.wc4.ok w22
 .right
 obtain⟨p,ln,le,dg,dw,dr,nm,es,kg,kw,kr,D,ds,ks,s,N,c,rfl,hA,ok,rmb,hds,nsw,nsg,hF,hE,ne,q⟩:=h;refine⟨_,(qa2 (qae (i:=3) w22.nd rfl (uD rfl) (qaj (qcb rfl) rfl T.w2n wF #[pv 1]))
  (qa2 (qae (i:=4) w22.nd rfl (uD rfl) (qbr qc0 rfl T.w5y wH #[pv 1]))
  (qa2 (qae (i:=5) w22.nd rfl (uD rfl) (qam qax (pv 3) (qag qb4 (qag qbe (pv 2) qa5) (qaj qbm rfl T.w45 vY #[pv 3])) nofun))
  (qa2 (qae (i:=6) w22.nd rfl (uD rfl) (qam qax (pv 3) (qag qb4 (qag qbe (pv 2) qa5) (qaj qbm rfl T.w45 vY #[pv 3])) nofun))
  (qa2 (qae (i:=7) w22.nd rfl (uD rfl) (qag qbe (pv 2) qa5))
  (qa2 (qca (qb5 (qan qd9 (qag qb4 (pv 2) qa5) qa5 (qar _)) (qa6 (qb2 (qap hr) (pv 4) (pv 5) (qac ((wg6 T).mono ∅) hr rfl T.whe T.wff.kp T.wht .nil qas #[pv 1|||pv 5,pv 7]) rfl)) qal))
  (qa2 (qca (qb5 (qan qd9 (qag qb4 (pv 2) qa5) qa5 (qar _)) (qa6 (qb2 (qap hr) (pv 4) (pv 5) (qac ((wfy T).mono ∅) hr rfl T.wi8 T.wgw.kp T.whv .nil qas #[pv 1|||pv 5,qac ((w4z T).mono ∅) hr rfl T.w6y T.w5t.kp T.w6w .nil qas #[qa5,qag qby qa5 (qag qb4 (pv 7) qa5)],qag jfc qa5 (qag qb3 qa5 (qag qb4 (qag qbe (pv 7) qa5) qa5))]) rfl)) qal))
  (qa2 (qca (qb5 (qan qd9 (qag qb4 (pv 2) qa5) qa5 (qar _)) (qa2 (qae (i:=8) w22.nd rfl (uD rfl) (qac ((wg6 T).mono ∅) hr rfl T.whe T.wff.kp T.wht .nil qas #[pv 1|||pv 5,pv 7]))
  (qa2 (qb2 (qap hr) (pv 4) (pv 5) (qac ((wfy T).mono ∅) hr rfl T.wi8 T.wgw.kp T.whv .nil qas #[pv 1|||pv 5,pv 8,jmq jgw qa5]) rfl)
  (qa6 (qb2 (qap hr) (pv 4) (pv 6) (qac ((wfy T).mono ∅) hr rfl T.wi8 T.wgw.kp T.whv .nil qas #[pv 4|||pv 6,pv 8,qa5]) rfl)))) qal))
  (qa2 (qb5 (qan qd9 (qag qb4 (pv 2) qa5) qa5 (qar _)) (qa6 (qaf (qac ((we6 T).mono ∅) hr rfl T.wel T.wai.kp T.weq .nil qas #[pv 0,pv 1,pv 5]))) qal)
  (qa2 (qca (qb5 (qan qd9 (qag qb4 (pv 2) qa5) qa5 (qar _)) (qa6 (qb2 (qap hr) (pv 4) (pv 5) (qbc #[qam qax (pv 0) qa5 nofun|||pv 5,qa5]) rfl)) qal))
  (qa2 (qca (qb5 (qan qd9 (qag qb4 (pv 2) qa5) qa5 (qar _)) (qa6 (qb2 (qap hr) (pv 4) (pv 5) (qac ((wgh T).mono ∅) hr rfl T.wgt T.weh.kp T.wh0 .nil qas #[pv 0,pv 1,pv 5]) rfl)) qal))
  (qa2 (qca (qb5 (qan qd9 (qag qb4 (pv 2) qa5) qa5 (qar _)) (qa6 (qb1 vJ rfl (qaw (pv 3)) (qab (i:=9) w22.nd rfl (uD rfl)) (qa6 (qb2 (qap hr) (pv 4) (pv 9) (qbc #[qam qax (pv 0) qa5 nofun|||pv 9,qa5]) rfl)))) qal))
  (qa6 (qaf (pv 4))))))))))))))),?_⟩
 walk_at"d"
 try dsimp only[cxC]
 refine qad (σ:=[sr p,sr ds,some (.int c),none,none,none,none,none,none,none]) rfl ?_;have l8:=ok.ok.l8;have hwA:=hA.wA;obtain⟨fs,efs,pfs⟩:=hF.keys ok.ok.nd;have fl:=pfs.length_eq;have w0:0<D.W0.length:=bY.mpr ne;have zk:ks.length<sizeLine:=by
  have:=hF.len (W:=D.W0) fun n hn=>hn;show _<16777216;omega
 have hRs:Rd H ds (.dK ks):=.inl hds;left;refine qdg (ss:=fs) (.inl hds) efs #[] fun ls ss hls hp hs=>?_;have sl:(ss.map V.str).length=D.W0.length:=by rw[zB,hp.length_eq,fl]
 have sm:∀n∈ss,n∈D.W0:=fun n hn=>pfs.mem_iff.mp (hp.mem_iff.mp hn);have n1:=qa4 hls (.lst (ss.map V.str));have els:upd H ls (.lst (ss.map V.str)) ls=some (.lst (ss.map V.str)):=qa1;generalize upd H ls (.lst (ss.map V.str))=H1 at*;have hds1:=n1 _ _ hds;left;rename_i d0 hd0;have hd00:=n1.free hd0;have n2:=n1.trans (qa4 hd0 (.dK ks));have ed0:upd H1 d0 (.dK ks) d0=some (.dK ks):=qa1;have els2:=qaa (o':=.dK ks) els hd0;have nld:ls≠d0:=qa9 els hd0;generalize upd H1 d0 (.dK ks)=H2 at*;have pk:∀k:Int,∃n∈D.W0,atI (ss.map V.str) (k%((ss.map V.str).length:Int))=some (.str n):=fun k=>by
  have m0:=uW k (show((ss.map V.str).length:Int)≠0 by omega);have m1:=uZ k (show(0:Int) <((ss.map V.str).length:Int) by omega);obtain⟨j,hj⟩:=Int.eq_ofNat_of_zero_le m0;rw[hj] at m1⊢;have hj2:j<ss.length:=by rw[zB] at m1;omega
  exact⟨ss[j],sm _ (zY hj2),qbt (by rw[zC,zA hj2];rfl)⟩
 obtain⟨z,hz,xz⟩:=pk (c.fdiv 7);obtain⟨y,hy,xy⟩:=pk (c.fdiv 49);refine qcc (SqL.of els2) xz ?_;left;refine qcc (SqL.of els2) xy ?_;left;clear hls n1 hd0 els hds1 xz xy pk;generalize c.fdiv 343=num at*;have hF2:=hF.t (qav.of n2);have hsz:=hE.sz (k:=1) ∅ ∅;have bq:=jr5;have b1q:(1:Rat)<=(B31:Rat):=by exact_mod_cast (show 1<=B31 by decide)
 have g0:ChI H D ks s ls d0 ss (c%7) 0 H2:=⟨ks,s,_,n2,els2,ed0,hF2,hsz,fun _=>⟨rfl,rfl⟩⟩;clear els2 ed0 hF2 n2 hRs;have rbz:=hsz.rb hz;have hi:=hE.hi z hz;have lo:=hE.lo z hz;have q4:=q34;refine qgm (fun σ Hx=>∃(w8 w9:Option V),σ=[sr p,sr ds,some (.int c),sr ls,sr d0,some (.str z),some (.str y),some (.int num),w8,w9]/\ChI H D ks s ls d0 ss (c%7) 1 Hx) ?_ ?_
 .left;by_cases cc:c%7=0
  .obtain⟨sx,elx,edx,hFx⟩:=g0.was #[];have hFs:=hF.t (qav.of sx);rw[gM cc];left;refine qcg (.inl (sx _ _ hds)) hFs (qbb hz) fun a1 ha1=>?_;left;refine⟨a1,_,num,rfl,ha1,rbz,fun pp x c1 e1 H3 s3 fp c0 ce e0 e6 ex=>?_⟩;obtain⟨dx,x0,xh⟩:=jml hE hz c0 ce e0 ex;have hs2:=(hE.sz (k:=e1.toNat) #[] #[]).put z dx (by grind) (by grind);have g1:=ChI.put (k:=1) (r:=c%7) (ks:=ks) (s:=s) hd00 nld (sx.trans s3) (s3 _ _ elx) (s3 _ _ edx) (hFx.t (qav.of s3)) hz fp hs2 #[];have ed3:=s3 _ _ edx;left;exact⟨_,_,rfl,g1⟩
  .rw[gO cc];left;exact⟨_,_,rfl,g0.next⟩
 clear g0;rintro σ Hx ⟨w8,w9,rfl,g0⟩;left;refine qgm (fun σ Hx=>∃(w8 w9:Option V),σ=[sr p,sr ds,some (.int c),sr ls,sr d0,some (.str z),some (.str y),some (.int num),w8,w9]/\ChI H D ks s ls d0 ss (c%7) 2 Hx) ?_ ?_
 .left;by_cases cc:c%7=1
  .obtain⟨sx,elx,edx,hFx⟩:=g0.was #[];have hFs:=hF.t (qav.of sx);have m0:=uW num (show(1000:Int)≠0 by decide);have m1:=uZ num (show(0:Int)<1000 by decide);have hb:Hug (1+num%1000):=Hug.small (uO (show(1+num%1000).natAbs<=1000 by omega) ∅);rw[gM cc];left;refine qcg (.inl (sx _ _ hds)) hFs (qbb hz) fun a1 ha1=>?_;left;refine⟨1,1+num%1000,rfl,hb,#[],fun pl hpl=>?_⟩;have b0:0<1+num%1000:=by omega
   have b1:1+num%1000<=1000:=by omega
   generalize 1+num%1000=b at*;obtain⟨dx,x0,x1⟩:=juh b0;generalize ((1:Int):Rat) /(b:Rat)=x at*;have rbx:RB x:=qfi (N:=b.toNat) (B:=1) #[] (uY (show b.toNat<=1000 by omega) ∅) ∅ dx (by grind) (by grind);have s3:=qa4 hpl (frO x);have fx:qb8 (upd Hx pl (frO x)) pl x:=qfy;generalize upd Hx pl (frO x)=H3 at*;have m2:=uW (num.fdiv 1000) (show(2:Int)≠0 by decide);have m3:=uZ (num.fdiv 1000) (show(0:Int)<2 by decide);have w6:(num.fdiv 1000%2).natAbs<2^600:=uO (show(num.fdiv 1000%2).natAbs<=1 by omega) ∅;clear hb hpl m0 m1;left;have hsg:1-2*(num.fdiv 1000%2)=1\/1-2*(num.fdiv 1000%2)= -1:=by omega
   generalize 1-2*(num.fdiv 1000%2)=sg at*;refine⟨a1,pl,s z,x,sg,rfl,ha1.same s3,fx,rbz,rbx,hsg,fun ps hps=>?_⟩;obtain⟨dv,v0,v1⟩:=jr6 (M:=N*b.toNat) hsg ((hE.dv z hz).mul _) (by rw[Nat.mul_comm];exact dx.mul N) x0 x1;generalize s z+(sg:Rat)*x=v at*;have s4:=s3.trans (qa4 hps (frO v));have fv:qb8 (upd H3 ps (frO v)) ps v:=qfy;generalize upd H3 ps (frO v)=H4 at*;have hs2:=(hE.sz (k:=b.toNat) #[] #[]).put z dv (by grind) (by grind);have g1:=ChI.put (k:=2) (r:=c%7) (ks:=ks) (s:=s) hd00 nld (sx.trans s4) (s4 _ _ elx) (s4 _ _ edx) (hFx.t (qav.of s4)) hz fv hs2 #[];have ed3:=s4 _ _ edx;clear m2 m3 w6;left;exact⟨_,_,rfl,g1⟩
  .rw[gO cc];left;exact⟨_,_,rfl,g0.next⟩
 clear g0;rintro σ Hx ⟨w8,w9,rfl,g0⟩;left;refine qgm (fun σ Hx=>∃(w8 w9:Option V),σ=[sr p,sr ds,some (.int c),sr ls,sr d0,some (.str z),some (.str y),some (.int num),w8,w9]/\ChI H D ks s ls d0 ss (c%7) 3 Hx) ?_ ?_
 .left;by_cases cc:c%7=2
  .obtain⟨sx,elx,edx,hFx⟩:=g0.was #[];have hFs:=hF.t (qav.of sx);rw[gM cc];left;refine qcg (.inl (sx _ _ hds)) hFs (qbb hz) fun a1 ha1=>?_;left;refine⟨a1,_,num,rfl,ha1,rbz,fun pp x c1 e1 H3 s3 fp c0 ce e0 e6 ex=>?_⟩;obtain⟨dx,x0,xh⟩:=jml hE hz c0 ce e0 ex;left;have rbx:RB x:=qfi (N:=N*e1.toNat) (B:=B31) (bT hE.n0 #[]) (uY (wP hE.nb (show e1.toNat<=10^7 by omega)) ∅) ∅ dx (by grind) (by grind);refine qcg (.inl (s3 _ _ (sx _ _ hds))) (hFs.t (qav.of s3)) (qbb hz) fun a2 ha2=>?_;left;refine⟨a2,pp,s z,x,-1,rfl,ha2,fp,rbz,rbx,.inr rfl,fun ps hps=>?_⟩;have ev:s z+((-1:Int):Rat)*x=s z-x:=by rw[show((-1:Int):Rat)= -1 from rfl];grind
   rw[ev];have dv:Dv (N*e1.toNat) (s z-x):=((hE.dv z hz).mul _).sub dx;have v0:0<=s z-x:=by grind
   have v1:s z-x<=(B31:Rat):=by grind
   generalize s z-x=v at*;have s4:=s3.trans (qa4 hps (frO v));have fv:qb8 (upd H3 ps (frO v)) ps v:=qfy;have fp4:=fp.same (qa4 hps (frO v));generalize upd H3 ps (frO v)=H4 at*;have ed4:=s4 _ _ edx;have hs2:=(hE.sz (k:=e1.toNat) #[] #[]).put z dv (by grind) (by grind);have t5:qav H4 (upd H4 d0 (.dK (qbh ks (uE z) (.ref ps)))):=qav.upd ed4 fun xs e=>by cases e
   have hF5:=(((hFx.t (qav.of s4)).put z fv).t t5).cast (qg0 hz);have s5:=qb9 (o:=.dK (qbh ks (uE z) (.ref ps))) (sx.trans s4) hd00;have el5:upd H4 d0 (.dK (qbh ks (uE z) (.ref ps))) ls=some (.lst (ss.map V.str)):=by rw[qa7 nld];exact s4 _ _ elx
   have ed5:upd H4 d0 (.dK (qbh ks (uE z) (.ref ps))) d0=some (.dK (qbh ks (uE z) (.ref ps))):=qa1;have fp5:qb8 (upd H4 d0 (.dK (qbh ks (uE z) (.ref ps)))) pp x:=t5 _ _ fp4;have y0:∀m∈D.W0,0<=(fun y=>if y=z then v else s y) m/\(fun y=>if y=z then v else s y) m<=(B31:Rat):=fun m hm=>by
    show 0<=(if m=z then v else s m)/\(if m=z then v else s m)<=(B31:Rat)
    split
    .exact⟨v0,v1⟩
    .exact⟨hE.lo m hm,hE.hi m hm⟩
   have zk5:(qbh ks (uE z) (.ref ps)).length<sizeLine:=by
    have:=hF5.len (W:=D.W0) fun n hn=>hn;show _<16777216;omega
   generalize (fun y=>if y=z then v else s y)=s1 at*;left;generalize upd H4 d0 (.dK (qbh ks (uE z) (.ref ps)))=H5 at*;generalize qbh ks (uE z) (.ref ps)=k5 at*;have rby:=hs2.rb hy;have dy:=hs2.dv y hy;obtain⟨u0,u1⟩:=y0 y hy;clear y0 t5 fp4 fv ed4 s4 hps v0 v1 dv ev;refine qcg (.inl ed5) hF5 (qbb hy) fun a3 ha3=>?_;left;refine⟨a3,pp,s1 y,x,1,rfl,ha3,fp5,rby,rbx,.inl rfl,fun pu hpu=>?_⟩;obtain⟨dv,v0,v1⟩:=jr6 (.inl rfl) dy dx x0 (show x<=(B31:Rat) by grind);generalize s1 y+((1:Int):Rat)*x=v2 at*;have n6:=qa4 hpu (frO v2);have fv:qb8 (upd H5 pu (frO v2)) pu v2:=qfy;generalize upd H5 pu (frO v2)=H6 at*;have g1:=ChI.put (k:=3) (r:=c%7) (ks:=ks) (s:=s) hd00 nld (s5.trans n6) (n6 _ _ el5) (n6 _ _ ed5) (hF5.t (qav.of n6)) hy fv (hs2.put y dv (by grind) (by grind)) #[];have ed6:=n6 _ _ ed5;left;exact⟨_,_,rfl,g1⟩
  .rw[gO cc];left;exact⟨_,_,rfl,g0.next⟩
 clear g0;rintro σ Hx ⟨w8,w9,rfl,g0⟩;left;by_cases cc:c%7=3
 .obtain⟨sx,elx,edx,hFx⟩:=g0.was #[];rw[gM cc];left;exact⟨p,ln,le,dg,dw,dr,nm,es,kg,kw,kr,D,ds,ks,s,N,z,rfl,hA.same sx,ok,sx _ _ hds,nsw,nsg,hF.t (qav.of sx),hE,hz,fun a k' s' N' H' s3 ha ea hFa hza=>q a k' s' N' H' (sx.trans s3) (sx.free ha) ea hFa hza⟩
 rw[gO cc];clear cc;have g0:=g0.next;left;refine qgm (fun σ Hx=>∃(w8 w9:Option V),σ=[sr p,sr ds,some (.int c),sr ls,sr d0,some (.str z),some (.str y),some (.int num),w8,w9]/\ChI H D ks s ls d0 ss (c%7) 5 Hx) ?_ ?_
 .left;by_cases cc:c%7=4
  .obtain⟨sx,elx,edx,hFx⟩:=g0.was #[];have hFs:=hF.t (qav.of sx);rw[gM cc];left;refine qcc (SqL.of (sx _ _ hA.top)) rfl ?_;have gw:qbu D.W0 D.wa z=some (D.wa z):=qba hz;have hRw:Rd Hx dw (.dK kw):=.inl (sx _ _ hA.w);left;rename_i pt hpt;have n4:=qa4 hpt (.tup [V.int (D.wa z),V.int 1]);have fv:qb8 (upd Hx pt (.tup [V.int (D.wa z),V.int 1])) pt (D.wa z:Rat):=qct qa1;generalize upd Hx pt (.tup [V.int (D.wa z),V.int 1])=H4 at*;obtain⟨v0,v1⟩:=jvs ok.ok hz;have hs2:=hsz.put z (Dv.int (D.wa z)) (by grind) v1;exact⟨_,_,rfl,ChI.put (k:=5) (r:=c%7) (ks:=ks) (s:=s) hd00 nld (sx.trans n4) (n4 _ _ elx) (n4 _ _ edx) (hFx.t (qav.of n4)) hz fv hs2 #[]⟩
  .rw[gO cc];left;exact⟨_,_,rfl,g0.next⟩
 clear g0;rintro σ Hx ⟨w8,w9,rfl,g0⟩;left;refine qgm (fun σ Hx=>∃(w8 w9:Option V),σ=[sr p,sr ds,some (.int c),sr ls,sr d0,some (.str z),some (.str y),some (.int num),w8,w9]/\ChI H D ks s ls d0 ss (c%7) 6 Hx) ?_ ?_
 .left;by_cases cc:c%7=5
  .obtain⟨sx,elx,edx,hFx⟩:=g0.was #[];have hFs:=hF.t (qav.of sx);rw[gM cc];left;refine⟨p,ln,le,dg,dw,dr,nm,es,kg,kw,kr,D,ds,ks,s,N,z,rfl,hA.same sx,ok,rmb,sx _ _ hds,hFs,hE,hz,fun pf x H3 s3 fx dx xl xh=>?_⟩;have hs2:=hsz.put z (x:=x) (by rw[Nat.mul_one];exact dx) xl xh;have g1:=ChI.put (k:=6) (r:=c%7) (ks:=ks) (s:=s) hd00 nld (sx.trans s3) (s3 _ _ elx) (s3 _ _ edx) (hFx.t (qav.of s3)) hz fx hs2 #[];have ed3:=s3 _ _ edx;left;exact⟨_,_,rfl,g1⟩
  .rw[gO cc];left;exact⟨_,_,rfl,g0.next⟩
 clear g0;rintro σ Hx ⟨w8,w9,rfl,g0⟩;left;refine qgm (fun σ Hx=>∃(w8 w9:Option V),σ=[sr p,sr ds,some (.int c),sr ls,sr d0,some (.str z),some (.str y),some (.int num),w8,w9]/\ChI H D ks s ls d0 ss (c%7) 7 Hx) ?_ ?_
 .left;by_cases cc:c%7=6
  .obtain⟨sx,elx,edx,hFx⟩:=g0.was #[];have hFs:=hF.t (qav.of sx);rw[gM cc];left;refine qbp (xs:=ss.map V.str) (fun i σ Hy=>∃(k':List (Key×V))(s':Str->Rat)(w8 w9:Option V),σ=[sr p,sr ds,some (.int c),sr ls,sr d0,some (.str z),some (.str y),some (.int num),w8,w9]/\jab H Hy/\Hy ls=some (.lst (ss.map V.str))/\Hy d0=some (.dK k')/\FD Hy k' (qc4 D.W0 s')/\Szs D (N*1) s') ⟨ks,s,_,_,rfl,sx,elx,edx,hFx,hsz⟩ ?_ ?_ ?_
   .rintro i σ Hy _ ⟨k',s',w8,w9,rfl,sy,ely,_⟩;exact SqL.of ely
   .rintro i v σ Hy hv ⟨k',s',w8,w9,rfl,sy,ely,edy,hFy,hzy⟩;rw[zC] at hv;obtain⟨n,hn,rfl⟩:=uH.mp hv;have hn:=sm n (zE hn);left;refine qcc (SqL.of (sy _ _ hA.top)) rfl ?_;have gw:qbu D.W0 D.wa n=some (D.wa n):=qba hn;have hRw:Rd Hy dw (.dK kw):=.inl (sy _ _ hA.w);have zk5:k'.length<sizeLine:=by
     have:=hFy.len (W:=D.W0) fun n hn=>hn;show _<16777216;omega
    left;rename_i pt hpt;have n4:=qa4 hpt (.tup [V.int (D.wa n),V.int 1]);have fv:qb8 (upd Hy pt (.tup [V.int (D.wa n),V.int 1])) pt (D.wa n:Rat):=qct qa1;generalize upd Hy pt (.tup [V.int (D.wa n),V.int 1])=H4 at*;obtain⟨v0,v1⟩:=jvs ok.ok hn;exact⟨_,_,_,_,rfl,qb9 (sy.trans n4) hd00,by rw[qa7 nld];exact n4 _ _ ely,qa1,(((hFy.t (qav.of n4)).put n fv).t (qav.upd (n4 _ _ edy) fun xs e=>by cases e)).cast (qg0 hn),hzy.put n (Dv.int (D.wa n)) (by grind) v1⟩
   rintro σ Hy ⟨k',s',w8,w9,rfl,sy,ely,edy,hFy,hzy⟩;exact⟨_,_,rfl,k',s',_,sy,ely,edy,hFy,hzy,fun w=>by omega⟩
  .rw[gO cc];left;exact⟨_,_,rfl,g0.next⟩
 clear g0;rintro σ Hx ⟨w8,w9,rfl,k',s',N',sx,elx,edx,hFx,hzx,_⟩;left;exact q d0 k' s' N' Hx sx hd00 edx hFx hzx
inductive jk6(K:uX)(d:Ad)(vs:List V)(H:Hp)(Q:VK)(E:XK):Prop
 |mk(p ln le dg dw dr:Addr)(nm:List Str)(es:List Nat)(kg kw kr:List (Key×V))(D:Dl)(ds:Addr)(ks:List (Key×V))(lv:Str->Rat)(z:Str)(ov:V)(m:Int)(_:vs=[.ref p,.ref ds,.str z,ov,.int m])(_:jdx H p ln le dg dw dr nm es kg kw kr D)(_:jco nm es D)(_:(∀y∈nm,0<=D.rm y/\D.rm y<=10^31))(_:H ds=some (.dK ks))(_:FD H ks (qc4 D.W0 (shQ D lv)))(_:Shb D lv)(_:z∈D.W0)(_:(ov=.non\/∃y,ov=.str y))(_:∀(v:V) H',jab H H'->(v=.non\/∃y,v=.str y)->Q v H')
set_option maxHeartbeats 9000000 in
include T in
theorem wgv:jac P w K mg base CX0 6 d.wd3 d.wb9 ["_law_sharing_here","_law_shares","_law_name_here","_law_old","_law_number"] (jk6 K d):=by
 exists T.wg1.ok w34
 .right
 obtain⟨p,ln,le,dg,dw,dr,nm,es,kg,kw,kr,D,ds,ks,lv,z,ov,m,rfl,hA,ok,rmb,hds,hF,hS,hz,hov,q⟩:=h;refine⟨_,(qa2 (qdy (pv 0) (qdz rfl (qai (qab (i:=5) w34.nd rfl (uD rfl)) (qai (qab (i:=6) w34.nd rfl (uD rfl)) (qai (qab (i:=7) w34.nd rfl (uD rfl)) (qai (qab (i:=8) w34.nd rfl (uD rfl)) (qai (qab (i:=9) w34.nd rfl (uD rfl)) qcl)))))))
  (qa2 (qb5 (qan qd9 (qag qb4 (pv 4) qa5) qa5 (qar _)) (qa6 (qaf (pv 3))) qal)
  (qa2 (qb5 (qan qd9 (qag qb4 (pv 4) qa5) qa5 (qar _)) (qa6 (qaf qcq)) qal)
  (qa2 (qae (i:=10) w34.nd rfl (uD rfl) qcq)
  (qa2 (qb1 vJ rfl (qaw (qac ((wdt T).mono ∅) hr rfl T.wfj T.wej.kp T.wgd .nil qas #[pv 6,qf2 vT aN cT jei (pv 5) #[pv 2]])) (qab (i:=11) w34.nd rfl (uD rfl)) (qa6 (qca (qb5 (qbd (qac ((wgk T).mono ∅) hr rfl T.whg T.wgl.kp T.whb .nil qas #[pv 0,pv 1,pv 2,pv 11])) (qa6 (qae (i:=10) w34.nd rfl (uD rfl) (qam qax (pv 5) (pv 11) nofun))) qal))))
  (qa6 (qaf (pv 10)))))))),?_⟩
 walk_at"d"
 try dsimp only[cxC]
 refine qad (σ:=[sr p,sr ds,some (.str z),some (ov),some (.int m),none,none,none,none,none,none,none]) rfl ?_;have etop:=hA.top;have enm:=hA.n;have len:=ok.len;have l7:=ok.l7;obtain⟨k,hk,ek⟩:=zU.mp (ok.sub z hz);left;by_cases c0:m%4=0
 .rw[gM c0];left;exact q ov H (jab.refl _) hov
 rw[gO c0];left;by_cases c1:m%4=1
 .rw[gM c1];left;exact q .non H (jab.refl _) (.inl rfl)
 rw[gO c1];left;rw[<-ek];refine jig (SqL.of enm) ok.nd hk ?_;rw[ek];left;refine⟨le,es,k,rfl,hA.e,ok.lo,#[],#[],fun ll hll=>?_⟩;have n5:=qa4 hll (.lst ((qbx (elN es) k).map iV));have ell:upd H ll (.lst ((qbx (elN es) k).map iV)) ll=some (.lst ((qbx (elN es) k).map iV)):=qa1;generalize upd H ll (.lst ((qbx (elN es) k).map iV))=H5 at*;left;refine qbp (xs:=(qbx (elN es) k).map iV) (fun i σ H'=>∃(v w11:Option V)(u:V),σ=[sr p,sr ds,some (.str z),some ov,some (.int m),sr ln,sr le,sr dg,sr dw,sr dr,v,w11]/\v=some u/\(u=.non\/∃y,u=.str y)/\jab H5 H') ⟨_,none,.non,rfl,rfl,.inl rfl,jab.refl _⟩ ?_ ?_ ?_
 .rintro i σ H' _ ⟨v,w11,u,rfl,_,_,sm⟩;exact SqL.of (sm _ _ ell)
 .rintro i v σ H' hv ⟨_,w11,u,rfl,rfl,hu,sm⟩;rw[zC] at hv;obtain⟨j,hj,rfl⟩:=uH.mp hv;have hjn:j<nm.length:=by have:=qco ok.low k hk j (zE hj);omega
  have s5:=n5.trans sm;have hA':=hA.same s5;have xn:atI (nm.map V.str) ((j:Nat):Int)=some (.str (nmG nm j)):=qbt (by rw[zC,qcy hjn];rfl);clear hv hj;left;refine qd4 ?_;left;refine⟨p,ln,le,dg,dw,dr,nm,es,kg,kw,kr,D,ds,ks,lv,z,j,rfl,hA',ok,rmb,s5 _ _ hds,hF.t (qav.of s5),hS,hz,hjn,fun H6 s6=>?_⟩;have en6:=s6 _ _ hA'.n;generalize decide (nmG nm j∈(D.ln z).filter (stB D lv z))=bb
  cases bb with
  |false=>
   left;exact⟨_,_,u,rfl,rfl,hu,sm.trans s6⟩
  |true=>
   rw[show iV j=V.int ((j:Nat):Int) from rfl];generalize ((j:Nat):Int)=jj at*;left;refine qcc (SqL.of en6) xn ?_;left;exact⟨_,_,_,rfl,rfl,.inr ⟨_,rfl⟩,sm.trans s6⟩
 rintro σ H' ⟨_,w11,u,rfl,rfl,hu,sm⟩;left;exact q u H' (n5.trans sm) hu
theorem jk7(c:Int){n:Nat}(hn:n<=20):((vK n).map fun k:Nat=>nmS c (0+(k:Int))).Nodup:=by
 show List.Pairwise _ _;rw[aV];refine List.Pairwise.imp_of_mem (R:=fun a b=>a<b) (fun {a b} ha hb lt e=>?_) List.pairwise_lt_range;have h1:=yI.mp ha;have h2:=yI.mp hb;have:=ji6 #[] #[] #[] #[] e;omega
theorem jk8(lo:Low el n):∀k,k<n->(qbx el k).Nodup:=by
 intro k
 induction k using bW with
 |ind k ih=>
  intro kn
  cases k with
  |zero=>rw[qga];exact zZ.mpr ⟨by simp,yJ⟩
  |succ k=>
   have l:=lo (k+1) #[] kn;rw[qdr lo #[] kn];refine zZ.mpr ⟨fun z=>?_,ih _ l #[]⟩;have:=qco lo _ #[] _ z;omega
open Classical in
noncomputable def lnD(nm:List Str)(es:List Nat)(n:Str):List Str:=if h:∃k,k<nm.length/\nmG nm k=n then(qbx (elN es) h.choose).map (nmG nm) else[]
theorem jdv(nd:nm.Nodup){k:Nat}(hk:k<nm.length):lnD nm es (nmG nm k)=(qbx (elN es) k).map (nmG nm):=by
 have h:∃k',k'<nm.length/\nmG nm k'=nmG nm k:=⟨k,hk,rfl⟩;unfold lnD;rw[dif_pos h];rw[qfo nd h.choose_spec.1 hk h.choose_spec.2]
structure Dn(nm:List Str)(i:Nat)(es:List Nat)(W:List Str)(wt wa rm:Str->Int):Prop where
 el:es.length=i-1
 lo:∀(k e:Nat),es[k]?=some e->e<=k
 wnd:W.Nodup
 wsub:∀n∈W,n∈nm.take i
 wt:∀n∈nm.take i,1<=wt n/\wt n<=1000
 wa:∀n∈W,InB (10^30) (wa n)
 rm:∀n∈nm.take i,InB (10^31) (rm n)
theorem Dn.ok{W0:List Str}{wt wa rm:Str->Int}(h:Dn nm nm.length es W wt wa rm)(n1:1<=nm.length)(n7:nm.length<=7)(nd:nm.Nodup)(gd:∀z∈nm,qes z=true)(pm:W0.Perm W)(srt:vX W0=true):jco nm es ⟨W0,lnD nm es,wt,wa,rm⟩:=by
 have low:Low (elN es) nm.length:=je0 h.lo _;have wsub:∀n∈W0,n∈nm:=fun n hn=>zX (h.wsub n (pm.mem_iff.mp hn));have ix:∀n∈W0,∃k,k<nm.length/\nmG nm k=n:=fun n hn=>by
  obtain⟨k,hk,e⟩:=zU.mp (wsub n hn);exact⟨k,hk,by unfold nmG;rw[zA hk,e];rfl⟩
 have htw:∀n∈nm,n∈nm.take nm.length:=fun n hn=>by rw[zH];exact hn
 have line:∀n∈W0,∀x∈lnD nm es n,∃j,j<nm.length/\x=nmG nm j:=fun n hn x hx=>by
  obtain⟨k,hk,rfl⟩:=ix n hn;rw[jdv nd hk] at hx;obtain⟨j,hj,rfl⟩:=zJ.mp hx;exact⟨j,by have:=qco low k hk j hj;omega,rfl⟩
 have rmb:∀n∈W0,∀x∈lnD nm es n,InB (10^31) (rm x):=fun n hn x hx=>by
  obtain⟨j,hj,rfl⟩:=line n hn x hx;exact h.rm _ (htw _ (qcs hj))
 refine⟨nd,gd,by have:=h.el;omega,n7,h.lo,wsub,fun k hk=>jdv nd hk,⟨pm.nodup_iff.mpr h.wnd,fun n hn=>(h.wt n (htw n (wsub n hn))).1,fun n hn=>(h.wt n (htw n (wsub n hn))).2,fun n hn=>(h.wa n (pm.mem_iff.mp hn)).lo,fun n hn=>aZ (h.wa n (pm.mem_iff.mp hn)).hi ∅,fun n hn x hx=>(rmb n hn x hx).lo,fun n hn x hx=>(rmb n hn x hx).hi,fun n hn=>?_,fun n hn=>?_,fun n hn=>?_,?_⟩,srt⟩
 .obtain⟨k,hk,rfl⟩:=ix n hn;show nmG nm k∈lnD nm es (nmG nm k);rw[jdv nd hk];exact zJ.mpr ⟨k,jgk low hk,rfl⟩
 .obtain⟨k,hk,rfl⟩:=ix n hn;show(lnD nm es (nmG nm k)).Nodup;rw[jdv nd hk];refine aV.mpr ((aE.mpr fun i j hi hj lt z=>?_));have h1:=qco low k hk _ (zY hi);have h2:=qco low k hk _ (zY hj);have:=qfo nd #[] #[] z;have:=(gD (jk8 low k hk)).mp this;omega
 .obtain⟨k,hk,rfl⟩:=ix n hn;show(lnD nm es (nmG nm k)).length<=20;rw[jdv nd hk,zB];have:=qfr low k hk;omega
 .show W0.length<=7;exact uY (vM (pm.nodup_iff.mpr h.wnd) wsub) n7
theorem jwz{xs:List Int}(h:xs.length=3):∃x y z,xs=[x,y,z]:=by
 match xs,h with
 | [x,y,z],_=>exact⟨x,y,z,rfl⟩
def wf9(K:uX)(d:Ad):Sp:=fun vs H Q _=>∃(a:Addr)(ns:List Int)(n:Nat),vs=[.ref a,.int (n:Int)]/\SqL K H a (ns.map V.int)/\1<=n/\n<=7/\
 ∀(p ln le dg dw dr:Addr)(nm:List Str)(es:List Nat)(kg kw kr:List (Key×V))(D:Dl) H',jab H H'->jdx H' p ln le dg dw dr nm es kg kw kr D->jco nm es D->(∀z∈nm,1<=D.wt z/\D.wt z<=1000)->(∀z∈nm,0<=D.rm z/\D.rm z<=10^31)->nmS (cell ns 1) (nm.length:Int)∉nm->Q (.ref p) H'
def je7{kvs:List (Key×V)}{f:Str->Int}{v:Int}(h:AD kvs (qbu L f)):AD (qbh kvs (uE z) (.int v)) (qbu (L++[z]) (fun y=>if y=z then v else f y)):=(h.put z v).cast fun y=>by
 rw[qeq];unfold qbu;by_cases c:y=z
 .rw[gL c,gL (by rw[c];simp)];show some v=some (if y=z then v else f y);rw[gL c]
 .rw[gK c];by_cases c2:y∈L
  .rw[gL c2,gL (zO _ c2)];show some (f y)=some (if y=z then v else f y);rw[gK c]
  .rw[gK c2,gK fun m=>(zN.mp m).elim c2 fun e=>c (zF.mp e)]
def jk9{kvs:List (Key×V)}{f:Str->Int}{v:Int}(h:AD kvs (qbu L f))(hz:z∈L):AD (qbh kvs (uE z) (.int v)) (qbu L (fun y=>if y=z then v else f y)):=(h.put z v).cast fun y=>by
 rw[qeq];unfold qbu;by_cases c:y=z
 .rw[gL c,gL (by rw[c];exact hz)];show some v=some (if y=z then v else f y);rw[gL c]
 .rw[gK c];by_cases c2:y∈L
  .rw[gL c2,gL c2];show some (f y)=some (if y=z then v else f y);rw[gK c]
  .rw[gK c2,gK c2]
structure Ld(H3 H:Hp)(ln le dg dw dr:Addr)(nm:List Str)(es:List Nat)(kg kw kr:List (Key×V)):Prop where
 sm:jab H3 H
 n:H ln=some (.lst (nm.map V.str))
 e:H le=some (.lst (.non::es.map iV))
 g:H dg=some (.dK kg)
 w:H dw=some (.dK kw)
 r:H dr=some (.dK kr)
structure Dz(H3:Hp)(ln le dg dw dr:Addr):Prop where
 gw:dg≠dw
 gr:dg≠dr
 wr:dw≠dr
 lg:le≠dg
 lw:le≠dw
 lr:le≠dr
 nl:ln≠le
 ng:ln≠dg
 nw:ln≠dw
 nr:ln≠dr
 fe:H3 le=none
 fg:H3 dg=none
 fw:H3 dw=none
 fr:H3 dr=none
section
variable{H3 H H':Hp}{ln le dg dw dr:Addr}{nm:List Str}{es es':List Nat}{kg kw kr k':List (Key×V)}
def Ld.same(h:Ld H3 H ln le dg dw dr nm es kg kw kr)(s:jab H H'):Ld H3 H' ln le dg dw dr nm es kg kw kr:=⟨h.sm.trans s,s _ _ h.n,s _ _ h.e,s _ _ h.g,s _ _ h.w,s _ _ h.r⟩
def qgl(s:jab H3 H)(f:H3 b=none)(sb:SameBut b H H'):jab H3 H':=fun c u z=>sb c u (fun y=>by subst y;rw[f] at z;cases z) (s c u z)
def Ld.sbE(z:Dz H3 ln le dg dw dr)(h:Ld H3 H ln le dg dw dr nm es kg kw kr)(sb:SameBut le H H')(e:H' le=some (.lst (.non::es'.map iV))):Ld H3 H' ln le dg dw dr nm es' kg kw kr:=
 ⟨qgl h.sm z.fe sb,sb _ _ z.nl h.n,e,sb _ _ z.lg.symm h.g,sb _ _ z.lw.symm h.w,sb _ _ z.lr.symm h.r⟩
def Ld.sbG(z:Dz H3 ln le dg dw dr)(h:Ld H3 H ln le dg dw dr nm es kg kw kr)(sb:SameBut dg H H')(e:H' dg=some (.dK k')):Ld H3 H' ln le dg dw dr nm es k' kw kr:=
 ⟨qgl h.sm z.fg sb,sb _ _ z.ng h.n,sb _ _ z.lg h.e,e,sb _ _ z.gw.symm h.w,sb _ _ z.gr.symm h.r⟩
def Ld.sbW(z:Dz H3 ln le dg dw dr)(h:Ld H3 H ln le dg dw dr nm es kg kw kr)(sb:SameBut dw H H')(e:H' dw=some (.dK k')):Ld H3 H' ln le dg dw dr nm es kg k' kr:=
 ⟨qgl h.sm z.fw sb,sb _ _ z.nw h.n,sb _ _ z.lw h.e,sb _ _ z.gw h.g,e,sb _ _ z.wr.symm h.r⟩
def Ld.sbR(z:Dz H3 ln le dg dw dr)(h:Ld H3 H ln le dg dw dr nm es kg kw kr)(sb:SameBut dr H H')(e:H' dr=some (.dK k')):Ld H3 H' ln le dg dw dr nm es kg kw k':=
 ⟨qgl h.sm z.fr sb,sb _ _ z.nr h.n,sb _ _ z.lr h.e,sb _ _ z.gr h.g,sb _ _ z.wr h.w,e⟩
def jmm{o:HO} :SameBut b H (upd H b o):=fun c u hc e=>by rw[qa7 hc];exact e
theorem jui{hle:H3 le=none}{on:HO}(en:H3 ln=some on)(hdg:upd H3 le (.lst [V.non]) dg=none)(hdw:upd (upd H3 le (.lst [V.non])) dg (.dK []) dw=none)(hdr:upd (upd (upd H3 le (.lst [V.non])) dg (.dK [])) dw (.dK []) dr=none):Dz H3 ln le dg dw dr:=by
 have fg:H3 dg=none:=(qa4 hle _).free hdg;have fw:H3 dw=none:=((qa4 hle _).trans (qa4 hdg _)).free hdw;have fr:H3 dr=none:=(((qa4 hle _).trans (qa4 hdg _)).trans (qa4 hdw _)).free hdr;refine⟨?_,?_,?_,?_,?_,?_,qa9 en hle,qa9 en fg,qa9 en fw,qa9 en fr,hle,fg,fw,fr⟩
 .intro z;subst z;rw[qa1] at hdw;cases hdw
 .intro z;subst z;rw[qaa qa1 hdw] at hdr;cases hdr
 .intro z;subst z;rw[qa1] at hdr;cases hdr
 .intro z;subst z;rw[qa1] at hdg;cases hdg
 .intro z;subst z;rw[qaa qa1 hdg] at hdw;cases hdw
 .intro z;subst z;rw[qaa (qaa qa1 hdg) hdw] at hdr;cases hdr
theorem juj{hle:H3 le=none}(en:H3 ln=some (.lst (nm.map V.str)))(hdg:upd H3 le (.lst [V.non]) dg=none)(hdw:upd (upd H3 le (.lst [V.non])) dg (.dK []) dw=none)(hdr:upd (upd (upd H3 le (.lst [V.non])) dg (.dK [])) dw (.dK []) dr=none):Ld H3 (upd (upd (upd (upd H3 le (.lst [V.non])) dg (.dK [])) dw (.dK [])) dr (.dK [])) ln le dg dw dr nm [] [] [] []:=by
 have s4:jab H3 (upd (upd (upd (upd H3 le (.lst [V.non])) dg (.dK [])) dw (.dK [])) dr (.dK [])):=((qa4 hle _).trans (qa4 hdg _)).trans ((qa4 hdw _).trans (qa4 hdr _));exact⟨s4,s4 _ _ en,qaa (qaa (qaa qa1 hdg) hdw) hdr,qaa (qaa qa1 hdw) hdr,qaa qa1 hdr,qa1⟩
end
inductive Iv(a ln le dg dw dr:Addr)(ni sc:Int)(nm:List Str)(H3:Hp)(i:Nat)(σ:L2.St)(H':Hp):Prop
 |mk(es:List Nat)(W:List Str)(wt wa rm:Str->Int)(kg kw kr:List (Key×V))(w8 w9 w10:Option V)(hs:σ=[sr a,some (.int ni),some (.int sc),sr ln,sr le,sr dg,sr dw,sr dr,w8,w9,w10])
  (L:Ld H3 H' ln le dg dw dr nm es kg kw kr) (hg:AD kg (qbu (nm.take i) wt)) (hw:AD kw (qbu W wa)) (hr:AD kr (qbu (nm.take i) rm)) (hd:Dn nm i es W wt wa rm)
inductive Iv1(σ0:L2.St)(le:Addr)(i:Nat)(H5:Hp)(σ:L2.St)(Hy:Hp):Prop
 |mk(es':List Nat)(hs:σ=σ0)(sb:SameBut le H5 Hy)(e:Hy le=some (.lst (.non::es'.map iV)))(l:es'.length=i)(lo:∀(k e:Nat),es'[k]?=some e->e<=k)
inductive Iv2(σ0:L2.St)(dw:Addr)(nm:List Str)(i:Nat)(H8:Hp)(σ:L2.St)(Hy:Hp):Prop
 |mk(W':List Str)(wa':Str->Int)(kw':List (Key×V))(hs:σ=σ0)(sb:SameBut dw H8 Hy)(e:Hy dw=some (.dK kw'))(A:AD kw' (qbu W' wa'))(nd:W'.Nodup)(sub:∀z∈W',z∈nm.take (i+1))(b:∀z∈W',InB (10^30) (wa' z))
inductive Iv3(σ0:L2.St)(dr:Addr)(nm:List Str)(i:Nat)(HB:Hp)(σ:L2.St)(Hy:Hp):Prop
 |mk(rm':Str->Int)(kr':List (Key×V))(hs:σ=σ0)(sb:SameBut dr HB Hy)(e:Hy dr=some (.dK kr'))(A:AD kr' (qbu (nm.take (i+1)) rm'))(b:∀z∈nm.take (i+1),InB (10^31) (rm' z))
theorem jjs{K:uX}{p:Addr}{m:Int}{xs:List V}{P:Int->Prop}(h:H p=some (.lst xs))(h0:0<=m)(h1:m <((xs.length:Nat):Int))(hx:∀v∈xs,∃x,v=.int x/\P x)(q:∀x,P x->Q (.int x) H):jpo K (.ref p) (.int m) H Q:=by
 obtain⟨j,rfl⟩:∃j:Nat,m=(j:Int):=⟨m.toNat,#[]⟩;have hj:j<xs.length:=by omega
 obtain⟨x,e,hp⟩:=hx _ (zY hj);refine qcc (SqL.of h) (qbt (zA hj)) ?_;rw[e];exact q x hp
set_option maxHeartbeats 9000000 in
include T in
theorem wer:jac P w K mg base CX0 3 d.w9f d.w7k ["_law_script","_law_count"] (wf9 K d):=by
 exists T.wcm.ok w0w
 .right
 obtain⟨a,ns,n,rfl,hS,n1,n7,q⟩:=h;refine' ⟨_,?rx,?_⟩
 case' rx=>(with_unfolding_all change My.PSsx _ _ _);refine' (jfr (i:=2) w0w.nd rfl (uD rfl) (jik (qci qa5 (qci qa5 (qci qa5 (qci (qag jct qa5 qa5) jij)))) (qag qb4 (qac ((w2g T).mono ∅) hr rfl T.w3g T.w2q.kp T.w3j .nil qas #[pv 0,qa5]) qa5) nofun) ?ry)
 case' ry=>exact(qa2 (jh5 (j:=3) (caps:=[0]) (cn:=["_law_script"]) (qc8 rfl rfl (by rfl) (by rfl) rfl ⟨rfl,trivial⟩ (by rfl) rfl ⟨⟨rfl,rfl,rfl,rfl,_,rfl⟩,trivial⟩ ∅) rfl w0w.nd rfl rfl (qd5 rfl T.w6b #[pv 1]) (fun _ _ _ _=>qdd) (fun _ _ _ _=>(qac ((wg8 T).mono ∅) hr rfl T.whn T.wfc.kp T.whq .nil qas #[qac ((w2g T).mono ∅) hr rfl T.w3g T.w2q.kp T.w3j .nil qas #[pv 1,qa5],pv 0])))
  (qa2 (qae (i:=4) w0w.nd rfl (uD rfl) (qc2 #[qcq]))
  (qa2 (qae (i:=5) w0w.nd rfl (uD rfl) qb7)
  (qa2 (qae (i:=6) w0w.nd rfl (uD rfl) qb7)
  (qa2 (qae (i:=7) w0w.nd rfl (uD rfl) qb7)
  (qa2 (qb1 vJ rfl (qd5 rfl T.w6b #[pv 1]) (qab (i:=8) w0w.nd rfl (eZ rfl)) (qa2 (jh5 (j:=9) (caps:=[0,8]) (cn:=["_law_script","_law_k"]) (qc8 rfl rfl (by rfl) (by rfl) rfl ⟨rfl,⟨rfl,trivial⟩⟩ (by rfl) rfl ⟨⟨rfl,rfl,rfl,rfl,_,rfl⟩,⟨⟨rfl,rfl,rfl,rfl,_,rfl⟩,trivial⟩⟩ ∅) rfl w0w.nd rfl rfl (qd5 rfl T.w6b #[qa5]) (fun _ _ _ _=>qdd) (fun _ _ _ _=>(qac ((w2g T).mono ∅) hr rfl T.w3g T.w2q.kp T.w3j .nil qas #[pv 1,qag qby (qag qby qa5 (qag qb3 qa5 (pv 2))) (pv 0)])))
  (qa2 (qca (qb5 (qan qg6 (pv 8) qa5 (qar _)) (qa6 (qbq (qf2 vT wL wM qcf (pv 4) #[qam qax (qc2 #[qag qb4 (qam qax (pv 9) qa5 nofun) (pv 8),qag jfc (pv 8) qa5,qa5,qag qb4 (qam qax (pv 9) qa5 nofun) (pv 8)]) (qag qb4 (qac ((w2g T).mono ∅) hr rfl T.w3g T.w2q.kp T.w3j .nil qas #[pv 0,qa5]) qa5) nofun]))) qal))
  (qa2 (qae (i:=10) w0w.nd rfl (uD rfl) (qac ((wbh T).mono ∅) hr rfl T.wdg T.wav.kp T.we2 .nil qas #[qam qax (pv 9) qa5 nofun,qag qb3 qa5 (pv 8)]))
  (qa2 (qb2 (qap hr) (pv 5) (qam qax (pv 3) (pv 8) nofun) (qam qax (qc2 #[qa5,qa5,qa5,qa5,qag qby qa5 (qag qb4 (qag qbe (pv 10) qa5) qa5),qa5]) (qag qb4 (pv 10) qa5) nofun) rfl)
  (qa2 (qae (i:=10) w0w.nd rfl (uD rfl) (qac ((wbh T).mono ∅) hr rfl T.wdg T.wav.kp T.we2 .nil qas #[qam qax (pv 9) qa5 nofun,qag qby (qag qb3 qa5 (pv 8)) qa5]))
  (qa2 (qca (qb5 (qan qg6 (qag qb4 (pv 10) qa5) qa5 (qar _)) (qa6 (qb2 (qap hr) (pv 6) (qam qax (pv 3) (pv 8) nofun) (qac ((wi1 T).mono ∅) hr rfl T.wiv T.wha.kp T.wj4 .nil qas #[pv 10,pv 2]) rfl)) qal))
  (qa2 (qb2 (qap hr) (pv 7) (qam qax (pv 3) (pv 8) nofun) (qac ((wid T).mono ∅) hr rfl T.wiy T.whs.kp T.wj0 .nil qas #[qac ((wbh T).mono ∅) hr rfl T.wdg T.wav.kp T.we2 .nil qas #[qam qax (pv 9) qa5 nofun,qag qby (qag qb3 qa5 (pv 8)) qa5],pv 2]) rfl)
  (qa6 (qca (qb5 (PW.pt (qg7 (qan qg6 (pv 8) qa5 (qar _)) (qep (qan qd9 (qag qb4 (qam qax (pv 9) qa5 nofun) qa5) qa5 (qar _))))) (qa6 (qb2 (qap hr) (pv 7) (qam qax (pv 3) (pv 8) nofun) (pv 7|||qam qax (pv 3) (qam qax (pv 4) (pv 8) nofun) nofun) rfl)) qal)))))))))))
  (qa6 (qaf (qc2 #[pv 3,pv 4,pv 5,pv 6,pv 7])))))))))
 walk_at"d"
 try dsimp only[cxC]
 generalize hni:((n:Nat):Int)=ni;refine qad (σ:=[sr a,some (.int ni),none,none,none,none,none,none,none,none,none]) rfl ?_;left;rename_i pm hpm;have s2:=qa4 hpm (.lst [V.int 1,V.int 1,V.int 7000000001,V.int (10^bK 27)]);have e3:upd H pm (.lst [V.int 1,V.int 1,V.int 7000000001,V.int (10^bK 27)]) pm=some (.lst [V.int 1,V.int 1,V.int 7000000001,V.int (10^bK 27)]):=qa1;generalize upd H pm (.lst [V.int 1,V.int 1,V.int 7000000001,V.int (10^bK 27)])=H2 at*;refine⟨a,ns,2,rfl,s2.seq hS,∅,?_⟩;left;have m0:=uW (cell ns 2) (show(4:Int)≠0 by decide);have m1:=uZ (cell ns 2) (show(0:Int)<4 by decide);refine jhm (xs:=[1,1,7000000001,10^bK 27]) (SqL.of e3) m0 m1 fun sc hm=>?_;have hsc:Sc sc:=by
  simp only[zP,yG,or_false] at hm;have e27:(10:Int)^bK 27=10^27:=rfl;rw[e27] at hm;exact⟨#[],#[]⟩
 clear hm m0 m1 e3 hpm;left;intro C1 s01 H01 fp1 ln hln;have eni:ni.toNat=n:=by omega
 refine jef ni.toNat (fun i H'=>H'=upd H2 ln (.lst (((vK i).map fun k:Nat=>nmS (cell ns 1) (0+(k:Int))).map V.str))) rfl (fun i H' hi _=>hi) (fun H' _=>uF _) ?_ ?_
 .rintro i H' v H'' hi rfl ⟨rfl,rfl⟩;have hS':=jeb (o:=.lst (((vK i).map fun k:Nat=>nmS (cell ns 1) (0+(k:Int))).map V.str)) (s2.seq hS) hln;left;refine⟨a,ns,_,rfl,hS',∅,?_⟩;left;refine⟨_,_,rfl,#[],#[],?_⟩;refine⟨_,qa1,by rw[zB,zB,cJ];show _<16777216;omega,?_⟩;rw[qd1,List.range_succ,zI,zI];rfl
 rintro H3 rfl;rw[eni];have hwl:((vK n).map fun k:Nat=>nmS (cell ns 1) (0+(k:Int))).length=n:=by rw[zB,cJ]
 have hwg:∀z∈(vK n).map fun k:Nat=>nmS (cell ns 1) (0+(k:Int)),qes z=true:=fun z hz=>by
  obtain⟨k,_,rfl⟩:=zJ.mp hz;exact jfy _ _
 have hwn:=jk7 (cell ns 1) (n:=n) #[];have hst:nmS (cell ns 1) (n:Int)∉(vK n).map fun k:Nat=>nmS (cell ns 1) (0+(k:Int)):=fun z=>by
  obtain⟨k,hk,e⟩:=zJ.mp z;have h1:=yI.mp hk;have:=ji6 #[] #[] #[] #[] e;omega
 generalize ((vK n).map fun k:Nat=>nmS (cell ns 1) (0+(k:Int)))=nm at*;have s3:=s2.trans (qa4 hln (.lst (nm.map V.str)));have en3:upd H2 ln (.lst (nm.map V.str)) ln=some (.lst (nm.map V.str)):=qa1;generalize upd H2 ln (.lst (nm.map V.str))=H3 at*;clear s2 hln s01 H01 fp1;left;rename_i le hle dg hdg dw hdw dr hdr;have dz:=jui (hle:=hle) en3 hdg hdw hdr;have L4:=juj (hle:=hle) en3 hdg hdw hdr;generalize upd (upd (upd (upd H3 le (.lst [V.non])) dg (.dK [])) dw (.dK [])) dr (.dK [])=H4 at*;clear hle hdg hdw hdr en3;rw[eni];refine qgv (n:=n) (Iv a ln le dg dw dr ni sc nm H3) ⟨[],[],fun _=>0,fun _=>0,fun _=>0,[],[],[],none,none,none,rfl,L4,AD.nil.cast fun z=>rfl,AD.nil.cast fun z=>rfl,AD.nil.cast fun z=>rfl,⟨rfl,fun k e h=>by simp at h,yJ,fun z h=>by simp at h,fun z h=>by simp at h,fun z h=>by simp at h,fun z h=>by simp at h⟩⟩ ?_ ?_
 .clear L4;rintro i σ H' hi ⟨es,W,wt,wa,rm,kg,kw,kr,w8,w9,w10,rfl,L,hgA,hwA,hrA,hd⟩;have hil:i<nm.length:=by omega
  have etk:nm.take (i+1)=nm.take i++[nmG nm i]:=by rw[zM,qcy hil];rfl
  have xn:atI (nm.map V.str) (0+(i:Int))=some (.str (nmG nm i)):=by rw[dD];exact qbt (by rw[zC,qcy hil];rfl)
  have zg:kg.length<sizeLine:=by
   have tl:(nm.take i).length<=7:=by rw[zS];omega
   have:=hgA.le (ws:=nm.take i) fun z hz=>qcz.mp hz;show _<16777216;omega
  have zw:kw.length<sizeLine:=by
   have tl:(nm.take i).length<=7:=by rw[zS];omega
   have h1:=hwA.le (ws:=W) fun z hz=>qcz.mp hz;have h2:W.length<=(nm.take i).length:=vM hd.wnd hd.wsub;show _<16777216;omega
  have zr:kr.length<sizeLine:=by
   have tl:(nm.take i).length<=7:=by rw[zS];omega
   have:=hrA.le (ws:=nm.take i) fun z hz=>qcz.mp hz;show _<16777216;omega
  generalize hki:(0+(i:Int))=ki at*;have k0:0<=ki:=by omega
  have k7:ki<=7:=by omega
  have nki:ki.natAbs<2^600:=uO (show ki.natAbs<=7 by omega) ∅;left;intro C1 s01 H01 fp1 lc hlc;refine jef 3 (fun j Hx=>∃xs:List Int,Hx=upd H' lc (.lst (xs.map V.int))/\xs.length=j) ⟨[],rfl,rfl⟩ (fun i H' hi _=>hi) (fun H' _=>uF _) ?_ ?_
  .rintro j Hx v H'' hj ⟨xs,rfl,hx⟩ ⟨rfl,rfl⟩;have hS'':=jeb (o:=.lst (xs.map V.int)) ((s3.trans L.sm).seq hS) hlc;left;refine⟨a,ns,_,rfl,hS'',#[],?_⟩;refine⟨_,qa1,by rw[zB];show _<16777216;omega,?_⟩;exact⟨xs++[_],by rw[qd1,zI];rfl,by rw[zT,hx];rfl⟩
  rintro Hx ⟨xs,rfl,hx⟩;obtain⟨c0,c1,c2,rfl⟩:=jwz hx;have ncl:lc≠le:=(qa9 L.e hlc).symm;have ncg:lc≠dg:=(qa9 L.g hlc).symm;have ncw:lc≠dw:=(qa9 L.w hlc).symm;have L5:=L.same (qa4 hlc (.lst ([c0,c1,c2].map V.int)));have elc:upd H' lc (.lst ([c0,c1,c2].map V.int)) lc=some (.lst [V.int c0,V.int c1,V.int c2]):=qa1;generalize upd H' lc (.lst ([c0,c1,c2].map V.int))=H5 at*;clear hx hlc L s01 H01 fp1;left;refine qgm (Iv1 [sr a,some (.int ni),some (.int sc),sr ln,sr le,sr dg,sr dw,sr dr,some (.int ki),sr lc,w10] le i H5) ?_ ?_
  .have hes:=hd.el;have hlo:=hd.lo;have el5:=L5.e;left;refine i_2 (fun c=>?_) (fun c=>?_)
   .have zl:(V.non::es.map iV).length<sizeLine:=by rw[zR,zB];show _<16777216;omega
    left;rename_i pl hpl;have s6:=qa4 hpl (.lst [V.int (c0%ki),V.int (ki-1),V.int 0,V.int (c0%ki)]);have epl:upd H5 pl (.lst [V.int (c0%ki),V.int (ki-1),V.int 0,V.int (c0%ki)]) pl=some (.lst [V.int (c0%ki),V.int (ki-1),V.int 0,V.int (c0%ki)]):=qa1;have el6:=s6 _ _ el5;generalize upd H5 pl (.lst [V.int (c0%ki),V.int (ki-1),V.int 0,V.int (c0%ki)])=H6 at*;refine⟨a,ns,3,rfl,((s3.trans L5.sm).trans s6).seq hS,∅,?_⟩;left;have a0:=uW c0 (show ki≠0 by omega);have a1:=uZ c0 c;refine jjs (P:=fun x=>0<=x/\x<ki) epl (uW _ ∅) (uZ _ ∅) ?_ fun x hx2=>?_
    .exact yB.mpr ⟨⟨_,rfl,a0,a1⟩,yB.mpr ⟨⟨_,rfl,#[],#[]⟩,yB.mpr ⟨⟨_,rfl,#[],c⟩,yB.mpr ⟨⟨_,rfl,a0,a1⟩,fun _ h=>by cases h⟩⟩⟩⟩
    obtain⟨e,rfl⟩:∃e:Nat,x=(e:Int):=⟨x.toNat,#[]⟩;have ei:e<=i-1:=by omega
    have i1:1<=i:=by omega
    clear a0 a1 hx2 epl hpl;generalize hei:((e:Nat):Int)=ei' at*;left;refine⟨es++[e],rfl,fun b u hb z=>by rw[qa7 hb];exact s6 _ _ z,?_,by rw[zT,yD];omega,fun k e2 h2=>?_⟩
    .rw[qa1,<-hei,zI];rfl
    .by_cases ck:k<es.length
     .rw[xM ck] at h2;exact hlo k e2 h2
     .have h3:=(uL.mp h2).1;rw[zT,yD] at h3;have ek:k=es.length:=by omega
      rw[xK #[],ek,Nat.sub_self] at h2;have:e=e2:=uU h2;omega
   .left;exact⟨es,rfl,fun b u _ z=>z,el5,#[],hlo⟩
  rintro σ' H6 ⟨es',rfl,sb6,el6,hel,hlo⟩;have L6:=L5.sbE dz sb6 el6;have elc6:=sb6 _ _ ncl elc;clear sb6 elc L5 el6;left;refine⟨c1,3*ki,rfl,#[],#[],fun r1 r10=>?_⟩;left;rename_i pl hpl;have s7:=qa4 hpl (.lst [V.int 1,V.int 1,V.int 2,V.int 3,V.int (1+r1.fdiv 6%1000),V.int 1000]);have epl:upd H6 pl (.lst [V.int 1,V.int 1,V.int 2,V.int 3,V.int (1+r1.fdiv 6%1000),V.int 1000]) pl=some (.lst [V.int 1,V.int 1,V.int 2,V.int 3,V.int (1+r1.fdiv 6%1000),V.int 1000]):=qa1;have elc7:=s7 _ _ elc6;have L7:=L6.same s7;generalize upd H6 pl (.lst [V.int 1,V.int 1,V.int 2,V.int 3,V.int (1+r1.fdiv 6%1000),V.int 1000])=H7 at*;clear elc6 L6 s7 hpl;have u0:=uW (r1.fdiv 6) (show(1000:Int)≠0 by decide);have u1:=uZ (r1.fdiv 6) (show(0:Int)<1000 by decide);refine jjs (P:=fun x=>1<=x/\x<=1000) epl (uW _ ∅) (uZ _ ∅) ?_ fun x hwt=>?_
  .exact yB.mpr ⟨⟨_,rfl,∅,∅⟩,yB.mpr ⟨⟨_,rfl,∅,∅⟩,yB.mpr ⟨⟨_,rfl,∅,∅⟩,yB.mpr ⟨⟨_,rfl,∅,∅⟩,yB.mpr ⟨⟨_,rfl,#[],#[]⟩,yB.mpr ⟨⟨_,rfl,∅,∅⟩,fun _ h=>by cases h⟩⟩⟩⟩⟩⟩
  clear u0 u1 epl r10;have eg7:=L7.g;left;refine qcc (SqL.of L7.n) xn ?_;left;have L8:=L7.sbG dz (jmm (o:=.dK (qbh kg (uE (nmG nm i)) (.int x)))) qa1;have elc8:upd H7 dg (.dK (qbh kg (uE (nmG nm i)) (.int x))) lc=_:=(qa7 ncg).trans elc7;generalize upd H7 dg (.dK (qbh kg (uE (nmG nm i)) (.int x)))=H8 at*;have hgA8:=je7 (z:=nmG nm i) (v:=x) hgA;rw[<-etk] at hgA8;clear elc7 eg7 L7 zg hgA;generalize qbh kg (uE (nmG nm i)) (.int x)=kg8 at*;left;refine⟨c1,3*ki+1,rfl,#[],#[],fun r2 r20=>?_⟩;left;have r70:=uW r2 (show(7:Int)≠0 by decide);refine qgm (Iv2 [sr a,some (.int ni),some (.int sc),sr ln,sr le,sr dg,sr dw,sr dr,some (.int ki),sr lc,some (.int r2)] dw nm i H8) ?_ ?_
  .left;refine i_2 (fun c=>?_) (fun c=>?_)
   .left;refine⟨r2,sc,rfl,r20,hsc,fun v H9 hv s9=>?_⟩;have ew9:=s9 _ _ L8.w;left;refine qcc (SqL.of (s9 _ _ L8.n)) xn ?_;left;have nW:nmG nm i∉W:=fun z=>by
     obtain⟨j,hj,e⟩:=zU.mp (hd.wsub _ z);rw[zS] at hj;rw[fU] at e;have h2:nmG nm j=nm[j]:=by unfold nmG;rw[zA #[]];rfl
     have:=qfo hwn (show j<nm.length by omega) hil (h2.trans e);omega
    refine⟨W++[nmG nm i],_,_,rfl,fun b u hb z=>by rw[qa7 hb];exact s9 _ _ z,qa1,je7 hwA,?_,fun z hz=>?_,fun z hz=>?_⟩
    .exact aW.mpr ⟨hd.wnd,zZ.mpr ⟨by simp,yJ⟩,fun x hx y hy e=>by rw[zF.mp hy] at e;rw[e] at hx;exact nW hx⟩
    .rw[etk];rcases zN.mp hz with h1|h1
     .exact zO _ (hd.wsub z h1)
     .exact zK _ h1
    .try dsimp only
     by_cases c2:z=nmG nm i
     .rw[gL c2];exact hv
     .rw[gK c2];rcases zN.mp hz with h1|h1
      .exact hd.wa z h1
      .exact absurd (zF.mp h1) c2
   .left;exact⟨W,wa,kw,rfl,fun b u _ z=>z,L8.w,hwA,hd.wnd,fun z hz=>by rw[etk];exact zO _ (hd.wsub z hz),hd.wa⟩
  rintro σ' H9 ⟨W',wa',kw',rfl,sb9,ew9,hwA9,wnd9,wsub9,wa9⟩;have L9:=L8.sbW dz sb9 ew9;have elc9:=sb9 _ _ ncw elc8;clear sb9 elc8 L8 ew9 r70 r20 zw hwA;left;refine⟨c2,3*ki+2,rfl,#[],#[],fun r3 r30=>?_⟩;left;refine⟨r3,sc,rfl,r30,hsc,fun v HA hv sA=>?_⟩;have LA:=L9.same sA;have elcA:=sA _ _ elc9;have erA:=LA.r;clear elc9 L9 sA r30;left;refine qcc (SqL.of LA.n) xn ?_;left;have ncr:lc≠dr:=fun z=>by subst z;rw[erA] at elcA;cases elcA
  have LB:=LA.sbR dz (jmm (o:=.dK (qbh kr (uE (nmG nm i)) (.int v)))) qa1;have elcB:upd HA dr (.dK (qbh kr (uE (nmG nm i)) (.int v))) lc=_:=(qa7 ncr).trans elcA;generalize upd HA dr (.dK (qbh kr (uE (nmG nm i)) (.int v)))=HB at*;have hrAB:=je7 (z:=nmG nm i) (v:=v) hrA;rw[<-etk] at hrAB;have tin:∀z∈nm.take (i+1),z≠nmG nm i->z∈nm.take i:=fun z hz ne=>by
   rw[etk] at hz;exact(zN.mp hz).resolve_right fun h=>ne (zF.mp h)
  have hrB:∀z∈nm.take (i+1),InB (10^31) (if z=nmG nm i then v else rm z):=fun z hz=>by
   by_cases c:z=nmG nm i
   .rw[gL c];exact hv
   .rw[gK c];exact hd.rm z (tin z hz c)
  have hwB:∀z∈nm.take (i+1),1<=(if z=nmG nm i then x else wt z)/\(if z=nmG nm i then x else wt z)<=1000:=fun z hz=>by
   by_cases c:z=nmG nm i
   .rw[gL c];exact hwt
   .rw[gK c];exact hd.wt z (tin z hz c)
  have zrB:(qbh kr (uE (nmG nm i)) (.int v)).length<sizeLine:=by
   have h1:=hrAB.le (ws:=nm.take (i+1)) fun z hz=>qcz.mp hz;rw[zS] at h1;show _<16777216;omega
  generalize qbh kr (uE (nmG nm i)) (.int v)=krB at*;generalize hrm:(fun y=>if y=nmG nm i then v else rm y)=rmB at*;have hrB:∀z∈nm.take (i+1),InB (10^31) (rmB z):=fun z hz=>by rw[<-hrm];exact hrB z hz
  have hdn:∀rm':Str->Int,(∀z∈nm.take (i+1),InB (10^31) (rm' z))->Dn nm (i+1) es' W' (fun y=>if y=nmG nm i then x else wt y) wa' rm':=fun rm' h=>⟨#[],hlo,wnd9,wsub9,hwB,wa9,h⟩;clear elcA LA erA ncr hv hwt hrm tin zr hrA wnd9 wsub9 hwB wa9 hd;refine qgm (Iv3 [sr a,some (.int ni),some (.int sc),sr ln,sr le,sr dg,sr dw,sr dr,some (.int ki),sr lc,some (.int r2)] dr nm i HB) ?_ ?_
  .have erB:=LB.r;left;refine i_2 (fun c=>?_) (fun c=>?_)
   .left;refine i_2 (fun c3=>?_) (fun c3=>?_)
    .have i1:i-1<es'.length:=by omega
     obtain⟨e,he⟩:∃e,es'[i-1]?=some e:=⟨_,zA i1⟩;have hle:=hlo _ _ he;have xe:atI (V.non::es'.map iV) ki=some (iV e):=by
      have e1:ki=((i:Nat):Int):=by omega
      rw[e1];refine qbt ?_;obtain⟨b,rfl⟩:∃b,i=b+1:=⟨i-1,#[]⟩;rw[aM,zC];rw[Nat.add_sub_cancel] at he;rw[he];rfl
     have hen:e<nm.length:=by omega
     have xne:atI (nm.map V.str) ((e:Nat):Int)=some (.str (nmG nm e)):=qbt (by rw[zC,qcy hen];rfl);have em:nmG nm e∈nm.take (i+1):=zE (i:=e) (by rw[List.getElem?_take_of_lt #[]];exact qcy hen);have im:nmG nm i∈nm.take (i+1):=by rw[etk];simp
     have gr:qbu (nm.take (i+1)) rmB (nmG nm e)=some (rmB (nmG nm e)):=qba em;have hRr:Rd HB dr (.dK krB):=.inl erB;clear he hle;left;refine qcc (SqL.of LB.e) xe ?_;left;refine qcc (SqL.of LB.n) xne ?_;left;refine qcc (SqL.of LB.n) xn ?_;left;refine⟨_,_,rfl,fun b u hb z=>by rw[qa7 hb];exact z,qa1,jk9 hrAB im,fun z hz=>?_⟩
     try dsimp only
     by_cases c4:z=nmG nm i
     .rw[gL c4];exact hrB _ em
     .rw[gK c4];exact hrB z hz
    .left;exact⟨rmB,krB,rfl,fun b u _ z=>z,erB,hrAB,hrB⟩
   .left;exact⟨rmB,krB,rfl,fun b u _ z=>z,erB,hrAB,hrB⟩
  rintro σ' HC ⟨rm',kr',rfl,sbC,erC,hrAC,rmC⟩;exact⟨es',W',_,wa',rm',_,kw',kr',_,_,_,rfl,LB.sbR dz sbC erC,hgA8,hwA9,hrAC,hdn rm' rmC⟩
 rintro σ H' ⟨es,W,wt,wa,rm,kg,kw,kr,w8,w9,w10,rfl,L,hgA,hwA,hrA,hd⟩;clear dz L4;obtain⟨W0,pm,srt⟩:=jop W;subst hwl;rw[zH] at hgA hrA;have ok:=hd.ok n1 n7 hwn hwg pm srt;left;rename_i p hp;have sF:=qa4 hp (.lst [V.ref ln,V.ref le,V.ref dg,V.ref dw,V.ref dr]);refine q p ln le dg dw dr nm es kg kw kr ⟨W0,lnD nm es,wt,wa,rm⟩ _ ((s3.trans L.sm).trans sF) ⟨qa1,sF _ _ L.n,sF _ _ L.e,sF _ _ L.g,sF _ _ L.w,sF _ _ L.r,hgA,hwA.cast fun z=>?_,hrA⟩ ok (fun z hz=>hd.wt z (by rw[zH];exact hz)) (fun z hz=>?_) hst
 rotate_left
 .have:=hd.rm z (by rw[zH];exact hz);exact⟨this.lo,this.hi⟩
 unfold qbu;by_cases c:z∈W
 .rw[gL c,gL (pm.mem_iff.mpr c)]
 .rw[gK c,gK fun h=>c (pm.mem_iff.mp h)]
inductive jos(K:uX)(d:Ad)(vs:List V)(H:Hp)(Q:VK)(E:XK):Prop
 |mk(a:Addr)(ns:List Int)(p ln le dg dw dr:Addr)(nm:List Str)(es:List Nat)(kg kw kr:List (Key×V))(D:Dl)(_:vs=[.ref a,.ref p])(_:SqL K H a (ns.map V.int))(_:jdx H p ln le dg dw dr nm es kg kw kr D)(_:jco nm es D)(_:(∀z∈nm,1<=D.wt z/\D.wt z<=1000))(_:∀(t:Addr)(S:Ts) H',jab H H'->TrD d H' t S D->(∀n∈D.W0,∀e,S.at n=some e->e.x.w=D.wt n)->Q (.ref t) H')
set_option maxHeartbeats 9000000 in
include T in
theorem wfs:jac P w K mg base CX0 20 d.wfe d.we4 ["_law_script","_law_sharing_here"] (jos K d):=by
 exists T.wge.ok w55
 .right
 obtain⟨a,ns,p,ln,le,dg,dw,dr,nm,es,kg,kw,kr,D,rfl,hS,hA,ok,hw,q⟩:=h;refine⟨_,(qa2 (qdy (pv 1) (qdz rfl (qai (qab (i:=2) w55.nd rfl (uD rfl)) (qai (qab (i:=3) w55.nd rfl (uD rfl)) (qai (qab (i:=4) w55.nd rfl (uD rfl)) (qai (qab (i:=5) w55.nd rfl (uD rfl)) (qai (qab (i:=6) w55.nd rfl (uD rfl)) qcl)))))))
  (qa2 (qae (i:=7) w55.nd rfl (uD rfl) (qf9 (W:=fun _ _ _ _=>False) T.w9n ((wbq T).mono ∅) hr rfl T.wj3 T.wd7 .nil jc6 #[qc2 #[qac ((wg8 T).mono ∅) hr rfl T.whn T.wfc.kp T.whq .nil qas #[qac ((w2g T).mono ∅) hr rfl T.w3g T.w2q.kp T.w3j .nil qas #[pv 0,qa5],qa5]],qam qax (pv 2) qa5 nofun,qb7,qb7,pv 4|||qam qax (pv 2) qa5 nofun]))
  (qa2 (qb1 vJ rfl (jgt rfl T.w6b #[qa5,qaj qbm rfl T.w45 vY #[pv 2]]) (qab (i:=8) w55.nd rfl (uD rfl)) (qa6 (qbq (qb6 (W:=fun _ _ _ _=>False) (pv 7) T.w03 T.w2b ((wbd T).mono ∅) hr T.wcc .nil jc6 #[qam qax (pv 2) (pv 8) nofun,qam qax (pv 2) (qam qax (pv 3) (pv 8) nofun) nofun,qb7,qb7,pv 4|||qam qax (pv 2) (pv 8) nofun]))))
  (qa6 (qaf (pv 7)))))),?_⟩
 walk_at"d"
 try dsimp only[cxC]
 refine qad (σ:=[sr a,sr p,none,none,none,none,none,none,none]) rfl ?_;have ct:=T.w03;have etop:=hA.top;have en:=hA.n;have l7:=ok.l7;have len:=ok.len;have low:=ok.low;have n0:0<nm.length:=by omega
 have ln7:(nm.map V.str).length=nm.length:=zB _;have xn:∀j,j<nm.length->atI (nm.map V.str) ((j:Nat):Int)=some (.str (nmG nm j)):=fun j hj=>qbt (by rw[zC,qcy hj];rfl);have hgA:=hA.gA;left;refine⟨a,ns,2,rfl,hS,∅,?_⟩;left;refine⟨_,_,rfl,∅,∅,?_⟩;have gz:=jfy (cell ns 2) 0;generalize nmS (cell ns 2) 0=z0 at*;left;rename_i pw hpw;refine qcc (SqL.of (qaa en hpw)) (xn 0 n0) ?_;left;rename_i p1 hp1 p2 hp2;have s6:=(qa4 hpw (.lst [V.str z0])).trans ((qa4 hp1 (.dK [])).trans (qa4 hp2 (.dK [])));have ew6:upd (upd (upd H pw (.lst [V.str z0])) p1 (.dK [])) p2 (.dK []) pw=some (.lst [V.str z0]):=qaa (qaa qa1 hp1) hp2;have ep1:upd (upd (upd H pw (.lst [V.str z0])) p1 (.dK [])) p2 (.dK []) p1=some (.dK []):=qaa qa1 hp2;have ep2:upd (upd (upd H pw (.lst [V.str z0])) p1 (.dK [])) p2 (.dK []) p2=some (.dK []):=qa1;generalize upd (upd (upd H pw (.lst [V.str z0])) p1 (.dK [])) p2 (.dK [])=H6 at*;have hA6:=hA.same s6;clear hpw hp1 hp2;refine qcc (SqL.of hA6.n) (xn 0 n0) ?_;have hRg:Rd H6 dg (.dK kg):=.inl hA6.g;have gw0:qbu nm D.wt (nmG nm 0)=some (D.wt (nmG nm 0)):=qba (qcs n0);left;intro x dx hx hdx ne;have sN:jab H6 (upd (upd H6 dx (.own x)) x (.ins d.w01 dx [])):=(qa4 hdx _).trans (qa4 (by rw[qa7 ne.symm];exact hx) _);have ex7:upd (upd H6 dx (.own x)) x (.ins d.w01 dx []) x=some (.ins d.w01 dx []):=qa1;generalize upd (upd H6 dx (.own x)) x (.ins d.w01 dx [])=H7 at*;have fn:∀ws,Fin ws noF:=fun ws z n e=>by cases e
 have w0:=hw _ (qcs n0);refine⟨x,dx,pw,p1,p2,nmG nm 0,[z0],[],[],noF,noF,D.wt (nmG nm 0),rfl,ex7,sN _ _ ew6,⟨by show 1<=1;decide,by show 1<=6;decide,fun z hz=>by rw[zF.mp hz];exact gz,zZ.mpr ⟨by simp,yJ⟩⟩,ok.gd _ (qcs n0),sN _ _ ep1,AD.nil,∅,sN _ _ ep2,AD.nil,∅,fn _,fn _,w0.1,w0.2,fun y=>Int.le_refl _,fun S e H8 sb hT f1 f2 f3 f4 f5 ehl een ee ew efp efc hpm hso=>⟨rfl,?_⟩⟩;have s8:jab H6 H8:=fun b u e=>sb b u (qa9 e hx) (sN b u e);have fhs:H6 S.hs=none:=sN.free f1;have bt1:Bt S (nmG nm) (elN es) 1 (fun k=>D.wt (nmG nm k)):=Bt.one ehl een ee ew efp efc (by rw[hpm.length_eq];show 1<=6;decide);clear sb f1 f2 f3 f4 f5 ehl een ee ew efp efc hpm hso ex7 sN hx hdx ne e ew6 ep1 ep2 fn w0 hRg gw0 gz;have en8:=s8 _ _ hA6.n;left;unfold jpg;left;refine⟨1,((nm.map V.str).length:Int),rfl,?_,?_⟩
 .rw[ln7];omega
 rw[ln7,show(((nm.length:Nat):Int)-1).toNat=nm.length-1 by omega];have inj:∀i j,i<nm.length->j<nm.length->nmG nm i=nmG nm j->i=j:=fun i j hi hj e=>qfo ok.nd hi hj e;refine qgv (n:=nm.length-1) (fun i σ H'=>∃(S:Ts)(w8:Option V),σ=[sr a,sr p,sr ln,sr le,sr dg,sr dw,sr dr,sr x,w8]/\jab H6 H'/\H6 S.hs=none/\qf4 d H' x S/\Bt S (nmG nm) (elN es) (1+i) (fun k=>D.wt (nmG nm k))) ⟨S,none,rfl,s8,fhs,hT,bt1⟩ ?_ ?_
 .rintro i σ H' hi ⟨S,w8,rfl,s',fhs',hT',bt'⟩;have hA':=hA6.same s';obtain⟨tx,ht⟩:=id hT'.1;have hk:1+i<nm.length:=by omega
  have lk:=low (1+i) #[] hk;have xe:atI (V.non::es.map iV) (1+(i:Int))=some (iV (elN es (1+i))):=by
   have e1:(1+(i:Int))=((i+1:Nat):Int):=by omega
   have hb:i<es.length:=by omega
   rw[e1,Nat.add_comm 1 i,jmf hb];exact qbt (by rw[aM,zC,zA hb];rfl)
  have xk:atI (nm.map V.str) (1+(i:Int))=some (.str (nmG nm (1+i))):=by
   have:=xn (1+i) hk;rw[show(1+(i:Int))=((1+i:Nat):Int) by omega];exact this
  have xel:=xn (elN es (1+i)) #[];have wb:=hw _ (qcs hk);have gk:=ok.gd _ (qcs hk);have gw:qbu nm D.wt (nmG nm (1+i))=some (D.wt (nmG nm (1+i))):=qba (qcs hk);generalize (1+(i:Int))=ii at*;left;refine qcc (SqL.of hA'.n) xk ?_;left;refine qcc (SqL.of hA'.e) xe ?_;left;refine qcc (SqL.of hA'.n) xel ?_;left;rename_i q1 hq1 q2 hq2;have s9:=(qa4 hq1 (.dK [])).trans (qa4 hq2 (.dK []));have eq1:upd (upd H' q1 (.dK [])) q2 (.dK []) q1=some (.dK []):=qaa qa1 hq2;have eq2:upd (upd H' q1 (.dK [])) q2 (.dK []) q2=some (.dK []):=qa1;generalize upd (upd H' q1 (.dK [])) q2 (.dK [])=H9 at*;refine qcc (SqL.of (s9 _ _ hA'.n)) xk ?_;have hRg:Rd H9 dg (.dK kg):=.inl (s9 _ _ hA'.g);left;refine Bt.found (nm:=nmG nm) (el:=elN es) (wt:=fun k=>D.wt (nmG nm k)) (k:=1+i) bt' (hT'.same s9) #[] #[] (fun i' j' a b=>inj i' j' #[] #[]) lk gk eq1 eq2 wb.1 wb.2 fun e2 H10 sb hT2 bt2=>?_;left;exact⟨{S with hl:=S.hl++[e2]},_,rfl,fun b u e=>sb b u (fun z=>by subst z;rw[fhs'] at e;cases e) (s9 _ _ (s' _ _ e)),fhs',hT2,bt2⟩
 rintro σ H9 ⟨S,w8,rfl,s',fhs',hT',bt'⟩;rw[show 1+(nm.length-1)=nm.length by omega] at bt';left;have all:∀n∈D.W0,∃e,S.at n=some e/\e.x.w=D.wt n/\jau S n (D.ln n):=fun n hn=>by
  obtain⟨k,hk,e⟩:=zU.mp (ok.sub n hn);have e2:nmG nm k=n:=by unfold nmG;rw[zA hk,e];rfl
  obtain⟨e,h1,h2,h3⟩:=bt'.pl.at (k:=k) hk;have hl:=bt'.pl.line k hk;rw[<-ok.ln k hk] at hl;rw[e2] at h1 hl;exact⟨e,h1,by rw[bt'.w k e h2,e2],hl⟩
 refine q x S H9 (s6.trans s') ⟨hT',fun n hn=>?_⟩ fun n hn e he=>?_
 .obtain⟨e,h1,_,h3⟩:=all n hn;exact⟨e,h1,trivial,h3⟩
 .obtain⟨e',h1,h2,_⟩:=all n hn;rw[he] at h1
  cases h1
  exact h2
def qew(H H':Hp):Prop:=∀b u,(∀ps,u≠HO.tbl ps)->H b=some u->H' b=some u
def jab.sn(s:jab H H'):qew H H':=fun b u _ e=>s b u e
def qew.trans{H'':Hp}(s:qew H H')(s':qew H' H''):qew H H'':=fun b u n e=>s' b u n (s b u n e)
theorem qew.seq{K:uX}{xs:List V}(s:qew H H')(h:SqL K H a xs):SqL K H' a xs:=by
 rcases h with (h|⟨o,h⟩) |h
 .exact .inl (.inl (s _ _ (fun ps e=>by cases e) h))
 .exact .inl (.inr ⟨o,s _ _ (fun ps e=>by cases e) h⟩)
 .exact .inr h
def jdx.sn{p ln le dg dw dr:Addr}{kg kw kr:List (Key×V)}(h:jdx H p ln le dg dw dr nm es kg kw kr D)(s:qew H H'):jdx H' p ln le dg dw dr nm es kg kw kr D:=
 ⟨s _ _ (fun ps e=>by cases e) h.top,s _ _ (fun ps e=>by cases e) h.n,s _ _ (fun ps e=>by cases e) h.e,s _ _ (fun ps e=>by cases e) h.g,s _ _ (fun ps e=>by cases e) h.w,s _ _ (fun ps e=>by cases e) h.r,h.gA,h.wA,h.rA⟩
def jl4.sn{d:Ad}{x:Ho}(h:jl4 d H a x)(s:qew H H'):jl4 d H' a x:=⟨let ⟨dx,e⟩:=h.1;⟨dx,s _ _ (fun ps e=>by cases e) e⟩,s _ _ (fun ps e=>by cases e) h.2.1,h.2.2.1,s _ _ (fun ps e=>by cases e) h.2.2.2.1,h.2.2.2.2⟩
theorem qf4.sn{d:Ad}{t:Addr}(h:qf4 d H t S)(s:qew H H'):qf4 d H' t S:=
 ⟨let ⟨dx,e⟩:=h.1;⟨dx,s _ _ (fun ps e=>by cases e) e⟩,s _ _ (fun ps e=>by cases e) h.2.1,s _ _ (fun ps e=>by cases e) h.2.2.1,h.2.2.2.1,h.2.2.2.2.1,fun e he=>(h.2.2.2.2.2 e he).sn s⟩
def wgz(K:uX)(d:Ad)(tp:Addr):Sp:=fun vs H Q _=>∃(a:Addr)(ns:List Int)(p ln le dg dw dr:Addr)(nm:List Str)(es:List Nat)(kg kw kr:List (Key×V))(D:Dl),vs=[.ref a,.ref p]/\SqL K H a (ns.map V.int)/\jdx H p ln le dg dw dr nm es kg kw kr D/\jco nm es D/\(∀z∈nm,1<=D.wt z/\D.wt z<=1000)/\H tp=some (.tbl (List.toArray []))/\
 ∀(l t:Addr)(wv:V)(S:Ts) H',qew H H'->H l=none->H' l=some (.lst [.ref t,wv])->TrD d H' t S D->Wgh H' S D wv->Q (.ref l) H'
theorem jf6{g:Str->Int}{n:Str}(hn:W[i]?=some n)(z:Str):jgh (qbu (W.take i) g) n (g n) z=qbu (W.take (i+1)) g z:=by
 rw[qeq];unfold qbu;have tk:z∈W.take (i+1)↔z∈W.take i\/z=n:=qat hn z;by_cases c:z=n
 .rw[gL c,gL (tk.mpr (.inr c)),c]
 .rw[gK c];by_cases c2:z∈W.take i
  .rw[gL c2,gL (tk.mpr (.inl c2))]
  .rw[gK c2,gK fun h=>(tk.mp h).elim c2 c]
theorem wh7{P:vA}{w:vN}{K:uX}{mg:Str->Option uB}{base:vU}{d:Ad}(T:Tx K mg d){tp:Addr}(hwg:jac P w K mg base CX0 2 d.w75 d.w5p ["_law_table"] (w7x tp)):jac P w K mg base CX0 24 d.wdq d.wbb ["_law_script","_law_sharing_here"] (wgz K d tp):=by
 exists T.wg5.ok w2o
 .right
 obtain⟨a,ns,p,ln,le,dg,dw,dr,nm,es,kg,kw,kr,D,rfl,hS,hA,ok,hw,htp,q⟩:=h;exists (qa2 (qdy (pv 1) (qdz rfl (qai (qab (i:=2) w2o.nd rfl (uD rfl)) (qai (qab (i:=3) w2o.nd rfl (uD rfl)) (qai (qab (i:=4) w2o.nd rfl (uD rfl)) (qai (qab (i:=5) w2o.nd rfl (uD rfl)) (qai (qab (i:=6) w2o.nd rfl (uD rfl)) qcl)))))))
  (qa2 (qb5 (qan qd9 (qag qb4 (qag qbe (qac ((w2g T).mono ∅) hr rfl T.w3g T.w2q.kp T.w3j .nil qas #[pv 0,qa5]) qa5) qa5) qa5 (qar _)) (qa6 (qaf (qc2 #[qac ((wfs T).mono ∅) hr rfl T.whf T.wge.kp T.whp .nil qas #[pv 0,pv 1],qcq]))) qal)
  (qa2 (qae (i:=7) w2o.nd rfl (uD rfl) qb7)
  (qa2 (qb1 vJ rfl (qaw (pv 2)) (qab (i:=8) w2o.nd rfl (uD rfl)) (qa6 (qb2 (qap hr) (pv 7) (pv 8) (qag qby qa5 (qag qb4 (pv 4|||pv 8) qa5)) rfl)))
  (qa2 (qae (i:=9) w2o.nd rfl (uD rfl) qb7)
  (qa2 (qdx (qb1 vJ rfl (qck (pv 5)) (qab (i:=8) w2o.nd rfl (uD rfl)) (qa6 (qb2 (qap hr) (pv 9) (pv 8) (pv 4|||pv 8) rfl))))
  (qa6 (qaf (qc2 #[qac ((wfs T).mono ∅) hr rfl T.whf T.wge.kp T.whp .nil qas #[pv 0,qc2 #[pv 2,pv 3,pv 7,pv 5,pv 6]],qac (hwg.mono ∅) hr rfl T.wbs T.wca.kp T.wgj .nil qas #[pv 9]]))))))))),[sr a,sr p,none,none,none,none,none,none,none,none];have etop:=hA.top;left;refine⟨a,ns,0,rfl,hS,∅,?_⟩;left;by_cases c:(cell ns 0).fdiv 7%2=0
 .rw[gL (gM c)];left;refine⟨a,ns,p,ln,le,dg,dw,dr,nm,es,kg,kw,kr,D,rfl,hS,hA,ok,hw,fun t S H1 s1 hT hwt=>?_⟩;left;rename_i l hl;exact q l t .non S _ (jab.sn (s1.trans (qa4 hl _))) (s1.free hl) qa1 (hT.same (qa4 hl _)) (.inl ⟨rfl,hwt⟩)
 .rw[gK (by simpa using c)];have en:=hA.n;have len:=ok.len;have l7:=ok.l7;left;rename_i lo hlo;have s1:=qa4 hlo (.dK []);have elo:upd H lo (.dK []) lo=some (.dK []):=qa1;generalize upd H lo (.dK [])=H1 at*;refine qbp (xs:=nm.map V.str) (fun i σ H'=>∃(k':List (Key×V))(w:Option V),σ=[sr a,sr p,sr ln,sr le,sr dg,sr dw,sr dr,sr lo,w,none]/\jab H H'/\H' lo=some (.dK k')/\AD k' (qbu (nm.take i) fun z=>1+D.wt z%7)/\k'.length<=i) ⟨[],none,rfl,s1,elo,AD.nil.cast fun z=>rfl,uF _⟩ ?_ ?_ ?_
  .rintro i σ H' _ ⟨k',w,rfl,sm,_⟩;exact SqL.of (sm _ _ en)
  .rintro i v σ H' hv ⟨k',w,rfl,sm,ed,hK,hk⟩;rw[zC] at hv;obtain⟨n,hn,rfl⟩:=uH.mp hv;have hi:=(uL.mp hn).1;have hn0:=zE hn;have hRg:Rd H' dg (.dK kg):=.inl (sm _ _ hA.g);have hgA:=hA.gA;have gw:qbu nm D.wt n=some (D.wt n):=qba hn0;have zk:k'.length<sizeLine:=by show _<16777216;omega
   clear hv;left;have lput:=qb0 k' (uE n) (.int (1+D.wt n%7));refine⟨_,_,rfl,qb9 sm hlo,qa1,(hK.put n _).cast fun z=>?_,#[]⟩;exact jf6 hn z
  rintro σ H2 ⟨ko,w,rfl,s2,ed,hK,hk⟩;rw[zB,zH] at hK;left;rename_i tb htb;have s3:=s2.trans (qa4 htb (.dK []));have etb:upd H2 tb (.dK []) tb=some (.dK []):=qa1;have ed3:=qaa (o':=.dK []) ed htb;have htb0:H tb=none:=s2.free htb;have nob:lo≠tb:=fun e=>by subst e;rw[ed] at htb;cases htb
  generalize upd H2 tb (.dK [])=H3 at*;have hA3:=hA.same s3;have hw3:=hA3.w;have nwb:tb≠dw:=(qa9 hA.w htb0).symm;have nwo:lo≠dw:=(qa9 hA.w hlo).symm;refine qf1 hw3 fun o=>?_;refine qe0 (fun i σ H'=>∃(kt:List (Key×V))(w:Option V),σ=[sr a,sr p,sr ln,sr le,sr dg,sr dw,sr dr,sr lo,w,sr tb]/\Sb2 dw tb H3 H'/\H' dw=some (.frz o (.dK kw))/\H' tb=some (.dK kt)/\AD kt (qbu ((qc3 kw).take i) D.wt)/\kt.length<=i)
   ⟨[],_,rfl,fun b u n1 _ e=>by rw[qa7 n1];exact e,qa1,by rw[qa7 nwb];exact etb,AD.nil.cast fun z=>rfl,uF _⟩ ?_ ?_ ?_
  .rintro i σ H' _ ⟨kt,w,rfl,sb,fz,_⟩;exact fz
  .rintro i k v σ H' hk ⟨kt,w,rfl,sb,fz,el,hF,hlen⟩;obtain⟨z,n,rfl,rfl,hf,hzi⟩:=hA.wA.at hk;have hi:i<kw.length:=(uL.mp hk).1;have hz:z∈D.W0:=qcz.mp (by rw[hf];simp);have hzn:=ok.sub z hz;have gw:qbu nm D.wt z=some (D.wt z):=qba hzn;have hgA:=hA.gA;have hRg:Rd H' dg (.dK kg):=by
    by_cases e:dg=dw
    .have e1:=hA.g;rw[e,hA.w] at e1
     cases e1
     rw[e];exact .inr ⟨o,fz⟩
    .exact .inl (sb _ _ e (qa9 hA.g htb0) hA3.g)
   have kl7:kw.length<=7:=by
    have:=(qdc hA.wA ok.ok.nd).length_eq;rw[hA.wA.klen] at this;have:=ok.ok.l8;omega
   have zl:kt.length<sizeLine:=by show _<16777216;omega
   show qe6 _ (.str z) _ _ _;left;have lput:=qb0 kt (uE z) (.int (D.wt z));refine⟨_,_,rfl,fun b u n1 n2 e=>by rw[qa7 n2];exact sb b u n1 n2 e,by rw[qa7 nwb.symm];exact fz,qa1,(hF.put z _).cast fun y=>?_,#[]⟩;exact jf6 hzi y
  rintro σ H' ⟨kt,w,rfl,sb,fz,el,hF,hlen⟩;refine qdu (qf0 fz (qce hA.w)) ?_;rw[<-hA.wA.klen,zH] at hF;have s4:jab H (upd H' dw (.dK kw)):=fun b u e=>by
   by_cases c:b=dw
   .subst c;rw[qa1,<-hA.w];exact e
   .rw[qa7 c];exact sb b u c (qa9 e htb0) (s3 b u e)
  have etb4:upd H' dw (.dK kw) tb=some (.dK kt):=by rw[qa7 nwb];exact el
  have ed4:upd H' dw (.dK kw) lo=some (.dK ko):=by rw[qa7 nwo];exact sb _ _ nwo nob ed3
  have hT4:AD kt (qbu D.W0 D.wt):=hF.cast fun z=>by
   have kp:=qdc hA.wA ok.ok.nd;unfold qbu;by_cases c:z∈D.W0
   .rw[gL c,gL (kp.mem_iff.mpr c)]
   .rw[gK c,gK fun h=>c (kp.mem_iff.mp h)]
  generalize upd H' dw (.dK kw)=H4 at*;left;rename_i p2 hp2;have s5:=s4.trans (qa4 hp2 (.lst [V.ref ln,V.ref le,V.ref lo,V.ref dw,V.ref dr]));have ep2:upd H4 p2 (.lst [V.ref ln,V.ref le,V.ref lo,V.ref dw,V.ref dr]) p2=some (.lst [V.ref ln,V.ref le,V.ref lo,V.ref dw,V.ref dr]):=qa1;have etb5:=qaa (o':=.lst [V.ref ln,V.ref le,V.ref lo,V.ref dw,V.ref dr]) etb4 hp2;have ed5:=qaa (o':=.lst [V.ref ln,V.ref le,V.ref lo,V.ref dw,V.ref dr]) ed4 hp2;generalize upd H4 p2 (.lst [V.ref ln,V.ref le,V.ref lo,V.ref dw,V.ref dr])=H5 at*;have hA5:=hA.same s5;have hw7:∀z,1<=1+D.wt z%7/\1+D.wt z%7<=1000:=fun z=>by omega
  have ok':jco nm es {D with wt:=fun z=>1+D.wt z%7}:=⟨ok.nd,ok.gd,ok.len,ok.l7,ok.lo,ok.sub,ok.ln,⟨ok.ok.nd,fun n _=>(hw7 n).1,fun n _=>(hw7 n).2,ok.ok.a0,ok.ok.a1,ok.ok.r0,ok.ok.r1,ok.ok.l0,ok.ok.ld,ok.ok.lz,ok.ok.l8⟩,ok.srt⟩;refine⟨a,ns,p2,ln,le,lo,dw,dr,nm,es,ko,kw,kr,{D with wt:=fun z=>1+D.wt z%7},rfl,s5.seq hS,⟨ep2,hA5.n,hA5.e,ed5,hA5.w,hA5.r,hK,hA5.wA,hA5.rA⟩,ok',fun z _=>hw7 z,fun t S H6 s6 hT _=>?_⟩;have s06:=s5.trans s6;have htp6:=s06 _ _ htp;have etb6:=s6 _ _ etb5;clear ok' hA5 ed5 ep2 s5 s6 etb5 etb4 ed4 hp2 s4 fz el sb hF;left;refine⟨.ref tb,rfl,htp6,fun more g cd cl hg hcd hcl n1 n2 n3=>?_⟩;have old:∀b u,(∀ps,u≠HO.tbl ps)->H6 b=some u->made H6 tp g cd cl more (.ref tb) "_law_weigh_by" qw (qbo jdk) bdw (qa8 jdk) "_law_table" b=some u:=fun b u nt e=>by
   rw[qdp (fun z=>by subst z;rw[htp6] at e;exact nt _ (uU e).symm) (fun z=>by subst z;rw[hcl] at e;cases e) (fun z=>by subst z;rw[hcd] at e;cases e) (fun z=>by subst z;rw[hg] at e;cases e)];exact e
  have wg:WgH (made H6 tp g cd cl more (.ref tb) "_law_weigh_by" qw (qbo jdk) bdw (qa8 jdk) "_law_table") g tb:=by
   refine⟨cl,cd,?_,?_,?_⟩
   .unfold made;rw[qa1]
   .unfold made;rw[qa7 n3.symm,qa1]
   .unfold made;rw[qa7 n2.symm,qa7 n1.symm,qa1]
  have free:∀l,made H6 tp g cd cl more (.ref tb) "_law_weigh_by" qw (qbo jdk) bdw (qa8 jdk) "_law_table" l=none->H6 l=none:=fun l e=>by
   cases c:H6 l with
   |none=>rfl
   |some u=>
    by_cases z:l=tp
    .subst z;unfold made at e;rw[qa7 (fun z=>by subst z;rw[hg] at c;cases c),qa7 (fun z=>by subst z;rw[hcd] at c;cases c),qa7 (fun z=>by subst z;rw[hcl] at c;cases c),qa1] at e
     cases e
    .rw[qdp z (fun z=>by subst z;rw[hcl] at c;cases c) (fun z=>by subst z;rw[hcd] at c;cases c) (fun z=>by subst z;rw[hg] at c;cases c),c] at e
     cases e
  have etb7:=old _ _ (fun ps e=>by cases e) etb6;have hT7:qf4 d (made H6 tp g cd cl more (.ref tb) "_law_weigh_by" qw (qbo jdk) bdw (qa8 jdk) "_law_table") t S:=hT.tr.sn old;generalize made H6 tp g cd cl more (.ref tb) "_law_weigh_by" qw (qbo jdk) bdw (qa8 jdk) "_law_table"=H7 at*;left;rename_i l hl;have s8:=qa4 hl (.lst [V.ref t,V.ref g]);refine q l t (.ref g) S _ (qew.trans (qew.trans (jab.sn s06) old) (jab.sn s8)) (s06.free (free l hl)) qa1 ⟨hT7.same s8,hT.ln⟩ (.inr ⟨g,tb,kt,rfl,?_,s8 _ _ etb7,hT4⟩);obtain⟨cl,cd,w1,w2,w3⟩:=wg;exact⟨cl,cd,s8 _ _ w1,s8 _ _ w2,s8 _ _ w3⟩
theorem jjt(ok:jak D){lf lv:Str->Rat}{M:Rat}{N:Nat}(I:RdI D [] lf lv M N){n:Str}(hn:n∈D.W0):jdy D lv n (jez D lv n)=true:=by
 by_cases c:shQ D lv n=(D.wa n:Rat)
 .have e:jez D lv n=.non:=by unfold jez;rw[gL c]
  rw[e];exact gM c
 .obtain⟨h,hs,e1,e2⟩:=I.stop ok hn c;rw[e2];exact gM (by rw[e1];exact zG ..)
theorem jji.rows{as:List (Addr×Addr)}(h:jji H D lv D.W0 l as)(ok:jak D){lf:Str->Rat}{M:Rat}{N:Nat}(I:RdI D [] lf lv M N):∃rows:List R3,H l=some (.lst (rows.map fun r=>V.ref r.a))/\rows.map (·.n)=D.W0/\(∀r∈rows,Gd H D lv r)/\∀r∈rows,jdy D lv r.n r.pv=true:=by
 have hin:∀x∈as.zip D.W0,∃i:Nat,as[i]?=some x.1/\D.W0[i]?=some x.2:=fun x hx=>by
  obtain⟨i,hi⟩:=List.mem_iff_getElem?.mp hx;rw[List.getElem?_zip_eq_some] at hi;exact⟨i,hi⟩
 refine⟨(as.zip D.W0).map fun x=>⟨x.1.1,x.2,x.1.2,jez D lv x.2⟩,?_,?_,fun r hr=>?_,fun r hr=>?_⟩
 .rw[h.l];have e:(as.zip D.W0).map (·.1)=as:=List.map_fst_zip (by rw[h.n];exact uF _);rw[yP];have:((fun r:R3=>V.ref r.a)∘fun x:(Addr×Addr)×Str=>(⟨x.1.1,x.2,x.1.2,jez D lv x.2⟩:R3))=(fun p:Addr×Addr=>V.ref p.1)∘ (·.1):=rfl;rw[this,<-yP,e]
 .rw[yP];have:((fun r:R3=>r.n)∘fun x:(Addr×Addr)×Str=>(⟨x.1.1,x.2,x.1.2,jez D lv x.2⟩:R3))=(·.2):=rfl;rw[this];exact List.map_snd_zip (by rw[h.n];exact uF _)
 .obtain⟨x,hx,rfl⟩:=zJ.mp hr;obtain⟨i,h1,h2⟩:=hin x hx;obtain⟨a1,a2⟩:=h.r i x.2 x.1 h2 h1;exact⟨⟨a1,jmh D lv x.2⟩,fun _=>a2⟩
 .obtain⟨x,hx,rfl⟩:=zJ.mp hr;obtain⟨i,h1,h2⟩:=hin x hx;exact jjt ok I (zE h2)
theorem PEq.up{K:uX}{x y:V}{k:Bool}(h:PEq K H n x y k):PEq K H (n+1) x y k:=by
 induction h with
 |same=>exact .same
 |flat hx hy=>exact .flat hx hy
 |ls ha hb ne hl _ ih=>exact .ls ha hb ne hl ih
 |lsN ha hb ne hl=>exact .lsN ha hb ne hl
 |ts ha hb ne _ ih=>exact .ts ha hb ne ih
theorem Evs.of(ok:jak D){lf lv:Str->Rat}{M:Rat}{N:Nat}(I:RdI D [] lf lv M N)(dv:∀n∈D.W0,Dv N (lv n)):Evs D N (shQ D lv):=by
 refine⟨I.n0,uY I.nb ∅,fun n hn=>?_,fun n hn=>(I.sh ok hn).1,fun n hn=>Rat.le_trans (I.sh ok hn).2.1 (I.sh ok hn).2.2⟩;obtain⟨z,hz⟩:=dv n hn;refine⟨z*D.wt n,?_⟩;rw[uS,<-hz];show lv n*(D.wt n:Rat)*_=_;grind
theorem jla(ok:jak D){lf lv:Str->Rat}{M:Rat}{N:Nat}(I:RdI D [] lf lv M N){rows:List R3}(cn:rows.map (·.n)=D.W0)(hp:∀r∈rows,jdy D lv r.n r.pv=true):evB D lv rows=true:=by
 unfold evB;rw[gM cn,Bool.true_and,wC,wC];refine⟨⟨zQ.mpr fun r hr=>?_,?_⟩,zQ.mpr hp⟩
 .have hn:r.n∈D.W0:=by rw[<-cn];exact zJ.mpr ⟨r,hr,rfl⟩
  exact gM ⟨(I.sh ok hn).1,(I.sh ok hn).2.1⟩
 .unfold rmB;refine zQ.mpr fun n hn=>zQ.mpr fun h hh=>gM ?_;have h1:=I.nn n hn h hh;rw[I.full h] at h1;grind
theorem FD.klen{kvs:List (Key×V)}(h:FD H kvs (qc4 W g))(nd:W.Nodup):kvs.length=W.length:=by
 obtain⟨fs,e,p⟩:=h.keys nd;have:=congrArg wG e;rw[zB,zB] at this;rw[this,p.length_eq]
theorem juk{K:uX}{ka kb:List (Key×V)}{s':Str->Rat}(nd:W.Nodup)(ha:H a=some (.dK ka))(hb:H b=some (.dK kb))(A:FD H ka (qc4 W s))(B:FD H kb (qc4 W s'))(e:∀n∈W,s n=s' n)(q:Q (.bl false) H):jvp K (.ref a) (.ref b) H Q:=by
 refine⟨a,b,ka,kb,rfl,rfl,.inl ha,.inl hb,by rw[A.klen nd,B.klen nd],fun p hp=>?_,q⟩;obtain⟨z,x,r,rfl,fx,ez⟩:=A.sh p hp;have hz:z∈W:=uR fun c=>by unfold qc4 at ez;rw[gK c] at ez;cases ez
 rw[qbb hz] at ez;obtain⟨y,hy,fy⟩:=B.get z _ (qbb hz);refine⟨_,hy,?_⟩;have:=(PEq.up (PEq.up (jma (K:=K) fx fy)));rw[gM (by rw[<-uU ez];exact e z hz)] at this;exact this
def jul{kvs:List (Key×V)}(ok:jak D){s:Str->Rat}(h:FD H kvs (qc4 D.W0 s)):FD H kvs (qc4 D.W0 (shQ D (lvS D s))):=h.cast fun y=>by
 unfold qc4;by_cases c:y∈D.W0
 .rw[gL c,gL c,shS ok s c]
 .rw[gK c,gK c]
def jju(K:uX)(tp:Addr):Sp:=fun vs H Q _=>∃(a:Addr)(ns:List Int),vs=[.ref a]/\SqL K H a (ns.map V.int)/\ns.length<=63/\H tp=some (.tbl (List.toArray []))/\∀H',Q (.bl true) H'
set_option maxHeartbeats 9000000 in
theorem jr7{P:vA}{w:vN}{K:uX}{mg:Str->Option uB}{base:vU}{d:Ad}(T:Tx K mg d){tp:Addr}(hwg:jac P w K mg base CX0 2 d.w75 d.w5p ["_law_table"] (w7x tp)):jac P w K mg base CX0 25 d.wcw d.wc8 ["_law_script"] (jju K tp):=by
 exists T.wj9.ok w2d
 .right
 obtain⟨a,ns,rfl,hS,hn,htp,q⟩:=h;refine⟨_,(qa2 (qae (i:=1) w2d.nd rfl (uD rfl) (qac ((wer T).mono ∅) hr rfl T.wgo T.wcm.kp T.wft .nil qas #[pv 0,qag qby qa5 (qag qb4 (qac ((w2g T).mono ∅) hr rfl T.w3g T.w2q.kp T.w3j .nil qas #[pv 0,qa5]) qa5)]))
  (qa2 (qdy (pv 1) (qdz rfl (qai (qab (i:=2) w2d.nd rfl (uD rfl)) (qai (qab (i:=3) w2d.nd rfl (uD rfl)) (qai (qab (i:=4) w2d.nd rfl (uD rfl)) (qai (qab (i:=5) w2d.nd rfl (uD rfl)) (qai (qab (i:=6) w2d.nd rfl (uD rfl)) qcl)))))))
  (qa2 (qdy (qac ((wh7 T hwg).mono ∅) hr rfl T.wib T.wg5.kp T.wi4 .nil qas #[pv 0,pv 1]) (qdz rfl (qai (qab (i:=7) w2d.nd rfl (uD rfl)) (qai (qab (i:=8) w2d.nd rfl (uD rfl)) qcl))))
  (qa2 (qae (i:=9) w2d.nd rfl (uD rfl) (qaz (W:=fun _ _ _ _=>False) ((wi3 T).mono ∅) hr rfl T.wit T.whi.kp T.wiw .nil jc6 #[pv 7,qbr qc0 rfl T.w5y wH #[pv 6],qbr qc0 rfl T.w5y wH #[pv 5],pv 8]))
  (qa2 (qb5 (PW.pt (qe3 (qc1 (qbd (qac ((wd6 T).mono ∅) hr rfl T.wf0 T.wao.kp T.wen .nil qas #[pv 9,pv 5]))) (qdv (qc1 (qbd (qac ((wcj T).mono ∅) hr rfl T.we9 T.wb4.kp T.wed .nil qas #[pv 1,pv 9])))))) (qa6 (qaf qcn)) qal)
  (qa2 (qae (i:=10) w2d.nd rfl (uD rfl) qb7)
  (qa2 (qb1 vJ rfl (qaw (pv 9)) (qab (i:=11) w2d.nd rfl (uD rfl)) (qa6 (qb2 (qap hr) (pv 10) (~~~11) (~~~11) rfl)))
  (qa2 (qb1 vJ rfl (qaw (jj4 jm1 (pv 0) (jg8 qa5) (jg8 qa5))) (qab (i:=12) w2d.nd rfl (uD rfl)) (qa6 (qca (qb5 (qan (jhx (hu8 hr)) (pv 9) (qc2 qa3) (qar _)) (qa2 (qae (i:=13) w2d.nd rfl (uD rfl) (qac ((weu T).mono ∅) hr rfl T.wga T.wc4.kp T.wg4 .nil qas #[pv 1,pv 10,pv 12]))
  (qa2 (qae (i:=14) w2d.nd rfl (uD rfl) (qc2 qa3))
  (qa2 (qb1 vJ rfl (qaw (pv 9)) (qab (i:=11) w2d.nd rfl (uD rfl)) (qa2 (qae (i:=15) w2d.nd rfl (uD rfl) (qac ((wgv T).mono ∅) hr rfl T.wia T.wg1.kp T.whx .nil qas #[pv 1,pv 13,~~~11,~~~11,qag qbe (pv 12) qa5]))
  (qa6 (qbq (qf2 vT wL wM qcf (pv 14) #[qbc #[~~~11,pv 13|||~~~11,pv 15]])))))
  (qa2 (qae (i:=16) w2d.nd rfl (uD rfl) (qaz (W:=fun _ _ _ _=>False) ((wah T).mono ∅) hr rfl T.wbu T.w9k.kp T.wbx .nil jc6 #[pv 7,qbr qc0 rfl T.w5y wH #[pv 6],qbr qc0 rfl T.w5y wH #[pv 5],qbr jgg rfl T.wec aY #[pv 14],pv 8]))
  (qa2 (qb5 (PW.pt (qe3 (qc1 (qbd (qaj qbn rfl T.w07 vI #[pv 16,qcd (v:=.ty "bool") rfl T.wfq dB rfl]))) (qdv (qan jd1 (pv 16) (qac ((wcj T).mono ∅) hr rfl T.we9 T.wb4.kp T.wed .nil qas #[pv 1,pv 14]) (qar _))))) (qa6 (qaf qcn)) qal)
  (qa6 (qb5 (PW.pt (qg7 (qbd (pv 16)) (qep (qan (jrm (hu8 hr)) (pv 13) (pv 10) (qar _))))) (qa6 (qaf qcn)) qal))))))) qal))))
  (qa6 (qaf (qcr jpq (qaz (W:=fun _ _ _ _=>False) ((wah T).mono ∅) hr rfl T.wbu T.w9k.kp T.wbx .nil jc6 #[pv 7,qbr qc0 rfl T.w5y wH #[pv 6],qbr qc0 rfl T.w5y wH #[pv 5],pv 9,pv 8]) qcn (qar _)))))))))))),?_⟩
 walk_at"d"
 try dsimp only[cxC]
 refine qad (σ:=[sr a,none,none,none,none,none,none,none,none,none,none,none,none,none,none,none,none]) rfl ?_;left;refine⟨a,ns,0,rfl,hS,∅,?_⟩;left;have c0:=uW (cell ns 0) (show(7:Int)≠0 by decide);have c1:=uZ (cell ns 0) (show(0:Int)<7 by decide);obtain⟨n,hn'⟩:∃n:Nat,1+cell ns 0%7=(n:Int):=⟨(1+cell ns 0%7).toNat,#[]⟩;have n1:1<=n:=by omega
 have n7:n<=7:=by omega
 rw[hn'];clear hn' c0 c1;refine⟨a,ns,n,rfl,hS,n1,n7,fun p ln le dg dw dr nm es kg kw kr D H1 s1 hA ok hw rmb hst=>?_⟩;have l7:=ok.l7;have etop1:=hA.top;left;refine⟨a,ns,p,ln,le,dg,dw,dr,nm,es,kg,kw,kr,D,rfl,s1.seq hS,hA,ok,hw,s1 _ _ htp,fun l t wv S H2 sN fl el hT hW=>?_⟩;have hA2:=hA.sn sN;have hS2:=sN.seq (s1.seq hS);clear hA s1 fl sN hw htp hS n1 n7 etop1;have hRr:Rd H2 dr (.dK kr):=.inl hA2.r;have hRw:Rd H2 dw (.dK kw):=.inl hA2.w;left;rename_i k1 hk1 k2 hk2;have s3:=(qa4 hk1 (.dK kr)).trans (qa4 hk2 (.dK kw));have ek1:upd (upd H2 k1 (.dK kr)) k2 (.dK kw) k1=some (.dK kr):=qaa qa1 hk2;have ek2:upd (upd H2 k1 (.dK kr)) k2 (.dK kw) k2=some (.dK kw):=qa1;generalize upd (upd H2 k1 (.dK kr)) k2 (.dK kw)=H3 at*;refine⟨t,k1,k2,wv,S,D,nm,kr,kw,rfl,ok.ok,ok.srt,hT.same s3,hW.same s3,ek1,hA2.rA,ok.nd,#[],ek2,hA2.wA,ok.hs,fun l2 as lf lv M N H4 s4 fl2 I hB hdv hE=>?_⟩;obtain⟨rows,el4,cn,hG,hpb⟩:=hE.rows ok.ok I;have hEv:=Evs.of ok.ok I hdv;have ev:=jla ok.ok I cn hpb;have hSh:Shb D lv:=by
  have q1:=jr5;have q2:=q34;exact⟨hB.rl,hB.rs,hB.rt,fun n hn=>by have:=hEv.lo n hn;grind,fun n hn=>by have:=hEv.hi n hn;grind⟩
 have rl:rows.length<=7:=by
  have h1:=congrArg wG cn;rw[zB] at h1;have:=ok.ok.l8;omega
 have s24:=s3.trans s4;have hA4:=hA2.same s24;have hT4:=hT.same s24;have hW4:=hW.same s24;have hS4:=s24.seq hS2;clear hRr hRw hk1 hk2 ek1 ek2 s3 s4 fl2 I hB hT hW s24 hdv hpb;have call:∀{H':Hp} {Q:VK} {E:XK} {k1 k2 l':Addr} {rs:List R3} {lv':Str->Rat},jab H4 H'->H' k1=some (.dK kr)->H' k2=some (.dK kw)->H' l'=some (.lst (rs.map fun r=>V.ref r.a))->(∀r∈rs,Gd H' D lv' r)->rs.length<=20->Shb D lv'->(∀H'',jab H' H''->Q (.bl (evB D lv' rs)) H'')->jcf K d [.ref t,.ref k1,.ref k2,.ref l',wv] H' Q E:=fun {H' Q E k1 k2 l' rs lv'} s e1 e2 e3 hg hl hb qq=>⟨t,k1,k2,l',wv,S,D,nm,kr,kw,lv',rs,rfl,ok.ok,ok.srt,hT4.same s,hW4.same s,e1,hA2.rA,e2,hA2.wA,ok.hs,e3,hg,hl,hb,qq⟩;have letby:∀{H':Hp} {Q:VK} {E:XK} {l':Addr} {rs:List R3} {lv':Str->Rat},jab H4 H'->H' l'=some (.lst (rs.map fun r=>V.ref r.a))->(∀r∈rs,Gd H' D lv' r)->rs.length<=20->Shb D lv'->(∀H'',jab H' H''->Q (.bl (evB D lv' rs)) H'')->jdu K d [.ref p,.ref l'] H' Q E:=fun {H' Q E l' rs lv'} s e3 hg hl hb qq=>⟨p,ln,le,dg,dw,dr,nm,es,kg,kw,kr,D,lv',l',rs,rfl,hA4.same s,ok,rmb,e3,hg,hl,hb,qq⟩;left;refine⟨l2,dw,as,kw,D,lv,rfl,hE,hA4.w,hA4.wA,ok.ok,ok.srt,fun H5 s5=>?_⟩;left;refine letby s5 (s5 _ _ el4) (fun r hr=>(hG r hr).same s5) #[] hSh fun H6 s6=>?_;rw[ev];have s46:=s5.trans s6;clear hE s5 s6;left;rename_i ds hds;have inW:∀r∈rows,r.n∈D.W0:=fun r hr=>by rw[<-cn];exact zJ.mpr ⟨r,hr,rfl⟩
 have s7:=s46.trans (qa4 hds (.dK []));have eds:upd H6 ds (.dK []) ds=some (.dK []):=qa1;have fds:=s46.free hds;have nld:l2≠ds:=qa9 el4 fds;have nsw:ds≠dw:=(qa9 hA4.w fds).symm;have nsg:ds≠dg:=(qa9 hA4.g fds).symm;generalize upd H6 ds (.dK [])=H7 at*;have el7:=s7 _ _ el4;clear hds s46;left;refine qbp (xs:=rows.map fun r=>V.ref r.a) (fun i σ H'=>∃(ks:List (Key×V))(w11:Option V),σ=[sr a,sr p,sr ln,sr le,sr dg,sr dw,sr dr,sr t,some wv,sr l2,sr ds,w11,none,none,none,none,none]/\SameBut ds H7 H'/\H' ds=some (.dK ks)/\FD H' ks (qc4 ((rows.take i).map (·.n)) (shQ D lv))) ⟨[],none,rfl,fun b u _ e=>e,eds,FD.nil.cast fun z=>rfl⟩ ?_ ?_ ?_
 .rintro i σ H' _ ⟨ks,w11,rfl,sb,_⟩;exact SqL.of (sb _ _ nld el7)
 .rintro i v σ H' hv ⟨ks,w11,rfl,sb,ed,hF⟩;rw[zC] at hv;obtain⟨r,hr,rfl⟩:=uH.mp hv;have hrm:=zE hr;have hn:=inW r hrm;have tS:qav H7 H':=fun b xs e=>sb b _ (fun z=>by subst z;rw[eds] at e;cases e) e;have hG':=((hG r hrm).same s7).tt tS;have rT:=hG'.at_.t;have etk:(rows.take (i+1)).map (·.n)=(rows.take i).map (·.n)++[r.n]:=by rw[zM,hr,zI];rfl
  have hko:ks.length<=D.W0.length:=hF.len fun z hz=>by
   obtain⟨x,hx,rfl⟩:=zJ.mp hz;exact inW x (zX hx)
  have l8:=ok.ok.l8;have zk:ks.length<sizeLine:=by show _<16777216;omega
  clear hv hko;left;have t8:qav H' (upd H' ds (.dK (qbh ks (uE r.n) (.ref r.s)))):=qav.upd ed fun xs e=>by cases e
  exact⟨_,_,rfl,fun b u hb e=>by rw[qa7 hb];exact sb b u hb e,qa1,((hF.put r.n (hG'.f hn)).t t8).cast fun y=>by rw[etk,qfd]⟩
 rintro σ H8 ⟨ks,w11,rfl,sb,ed8,hF8⟩;rw[zB,zH,cn] at hF8;have s8:jab H4 H8:=fun b u e=>sb b u (fun z=>by subst z;rw[fds] at e;cases e) (s7 b u e);have hS8:=s8.seq hS4;have cl:=qg1 (ns.map V.int) (some 25) (some 37);rw[zB] at cl;have ci:∀v∈jg9 (ns.map V.int) (some 25) (some 37),∃c:Int,v=.int c:=fun v hv=>by
  unfold jg9 at hv;obtain⟨c,_,rfl⟩:=zJ.mp (List.mem_of_mem_drop (zX hv));exact⟨c,rfl⟩
 clear sb eds nld el7 s7;left;refine⟨a,_,rfl,hS8,fun lx hlx=>?_⟩;have n9:=qa4 hlx (.lst (jg9 (ns.map V.int) (some 25) (some 37)));have elx:upd H8 lx (.lst (jg9 (ns.map V.int) (some 25) (some 37))) lx=some (.lst (jg9 (ns.map V.int) (some 25) (some 37))):=qa1;generalize upd H8 lx (.lst (jg9 (ns.map V.int) (some 25) (some 37)))=H9 at*;generalize jg9 (ns.map V.int) (some 25) (some 37)=cs at*;have s9:=s8.trans n9;have ed9:=n9 _ _ ed8;have hF9:=hF8.t (qav.of n9);clear n9 ed8 hF8 s8 hS8 hlx;left;refine qbp (xs:=cs) (fun i σ H'=>∃(w11 w12 w13 w14 w15 w16:Option V),σ=[sr a,sr p,sr ln,sr le,sr dg,sr dw,sr dr,sr t,some wv,sr l2,sr ds,w11,w12,w13,w14,w15,w16]/\jab H9 H') ⟨_,none,none,none,none,none,rfl,jab.refl _⟩ ?_ ?_ ?_
 .rintro i σ H' _ ⟨w11,w12,w13,w14,w15,w16,rfl,sm⟩;exact SqL.of (sm _ _ elx)
 .rintro i v σ H' hv ⟨w11,w12,w13,w14,w15,w16,rfl,sm⟩;obtain⟨c,rfl⟩:=ci v (zE hv);have s4m:=s9.trans sm;have elm:=s4m _ _ el4;clear hv;left;refine qd4 ?_;left;rename_i le0 hle;have nle:=qa9 elm hle;refine jnk (n:=1) nle ∅ (jko (n:=0) (SqL.of (qaa elm hle)) (SqL.of qa1) nle) ?_;have sm1:=sm.trans (qa4 hle (.lst []));generalize upd H' le0 (.lst [])=H10 at*;clear elm hle nle s4m sm;by_cases cr:rows=[]
  .rw[gM (by rw[cr];rfl)];left;exact⟨_,_,_,_,_,_,rfl,sm1⟩
  rw[gO (fun z=>cr (List.map_eq_nil_iff.mp z))];have ne0:D.W0≠ []:=fun z=>cr (List.map_eq_nil_iff.mp (cn.trans z));have sA:=s9.trans sm1;left;refine⟨p,ln,le,dg,dw,dr,nm,es,kg,kw,kr,D,ds,ks,shQ D lv,N,c,rfl,hA4.same sA,ok,rmb,sm1 _ _ ed9,nsw,nsg,hF9.t (qav.of sm1),hEv,ne0,fun df kf s' N' H11 s11 fdf edf hFf hSz=>?_⟩;left;rename_i lh hlh;have hSh':=hSz.shb ok.ok;have hFf:=jul ok.ok hFf;have sB:=sA.trans s11;have smB:=sm1.trans s11;have nlh:l2≠lh:=qa9 (sB _ _ el4) hlh;have n12:=qa4 hlh (.lst []);have elh:upd H11 lh (.lst []) lh=some (.lst []):=qa1;generalize upd H11 lh (.lst [])=H12 at*;have el12:=n12 _ _ (sB _ _ el4);clear s11 fdf sA sm1;left;refine qbp (xs:=rows.map fun r=>V.ref r.a) (fun i σ H'=>∃(rs:List R3)(w11 w15:Option V),σ=[sr a,sr p,sr ln,sr le,sr dg,sr dw,sr dr,sr t,some wv,sr l2,sr ds,w11,some (.int c),sr df,sr lh,w15,w16]/\SameBut lh H12 H'/\H' lh=some (.lst (rs.map fun r=>V.ref r.a))/\rs.map (·.n)=(rows.take i).map (·.n)/\∀r∈rs,Gd H' D (lvS D s') r) ⟨[],_,_,rfl,fun b u _ e=>e,elh,rfl,fun r hr=>by simp at hr⟩ ?_ ?_ ?_
  .rintro i σ Hx _ ⟨rs,w11,w15,rfl,sb,_⟩;exact SqL.of (sb _ _ nlh el12)
  .rintro i v σ Hx hv ⟨rs,w11,w15,rfl,sb,eh,ers,hGs⟩;rw[zC] at hv;obtain⟨r,hr,rfl⟩:=uH.mp hv;have hrm:=zE hr;have hn:=inW r hrm;have sH:jab H11 Hx:=fun b u e=>sb b u (qa9 e hlh) (n12 _ _ e);have s4x:=sB.trans sH;have hGr:=(hG r hrm).same s4x;have rT:=hGr.at_.t;have etk:(rows.take (i+1)).map (·.n)=(rows.take i).map (·.n)++[r.n]:=by rw[zM,hr,zI];rfl
   have rsl:rs.length<=7:=by
    have h1:=congrArg wG ers;rw[zB,zB,zS] at h1;omega
   clear hv;left;refine⟨p,ln,le,dg,dw,dr,nm,es,kg,kw,kr,D,df,kf,lvS D s',r.n,r.pv,_,rfl,hA4.same s4x,ok,rmb,sH _ _ edf,hFf.t (qav.of sH),hSh',hn,hGr.at_.p,fun pv Hv sv hpv=>?_⟩;have rTv:=sv _ _ rT;have sHv:=sH.trans sv;have ehv:=sv _ _ eh;have zl:(rs.map fun r=>V.ref r.a).length<sizeLine:=by rw[zB];show _<16777216;omega
   left;refine qcg (.inl (sHv _ _ edf)) (hFf.t (qav.of sHv)) (qbb hn) fun b hb=>?_;left;rename_i tp' htp';have n16:=qa4 htp' (.tup [V.str r.n,V.ref b,pv]);have et:upd Hv tp' (.tup [V.str r.n,V.ref b,pv]) tp'=some (.tup [V.str r.n,V.ref b,pv]):=qa1;generalize upd Hv tp' (.tup [V.str r.n,V.ref b,pv])=Hw at*;have tw:qav Hw (upd Hw lh (.lst ((rs.map fun r=>V.ref r.a)++[V.ref tp']))):=qav.upd (n16 _ _ ehv) fun xs e=>by cases e
   refine⟨rs++[⟨tp',r.n,b,pv⟩],_,_,rfl,fun y u h e=>by rw[qa7 h];exact n16 _ _ (sv _ _ (sb y u h e)),by rw[qa1,zI];rfl,by rw[zI,ers,etk];rfl,fun x hx=>?_⟩;rcases zN.mp hx with h|h
   .exact(((hGs x h).same sv).same n16).tt tw
   .rw[zF.mp h];exact⟨⟨tw _ _ et,hpv⟩,fun _=>tw _ _ (hb.same n16)⟩
  rintro σ Hx ⟨rs,w11,w15,rfl,sb,eh,ers,hGs⟩;rw[zB,zH,cn] at ers;have sH:jab H11 Hx:=fun b u e=>sb b u (qa9 e hlh) (n12 _ _ e);have s4x:=sB.trans sH;have smx:=smB.trans sH;have rsl:rs.length<=7:=by
   have h1:=congrArg wG ers;rw[zB] at h1;have:=ok.ok.l8;omega
  have hRr:Rd Hx dr (.dK kr):=.inl (s4x _ _ hA4.r);have hRw:Rd Hx dw (.dK kw):=.inl (s4x _ _ hA4.w);have edx:=sH _ _ edf;have hFx:=hFf.t (qav.of sH);clear sb elh el12 n12 hlh sB smB sH edf hFf;left;rename_i k1 hk1 k2 hk2;have n13:=(qa4 hk1 (.dK kr)).trans (qa4 hk2 (.dK kw));have e1:upd (upd Hx k1 (.dK kr)) k2 (.dK kw) k1=some (.dK kr):=qaa qa1 hk2;have e2:upd (upd Hx k1 (.dK kr)) k2 (.dK kw) k2=some (.dK kw):=qa1;generalize upd (upd Hx k1 (.dK kr)) k2 (.dK kw)=H13 at*;refine⟨lh,_,rfl,.inl (SqL.of (n13 _ _ eh)),fun lq hlq=>?_⟩;have n14:=qa4 hlq (.lst (rs.map fun r=>V.ref r.a));have elq:upd H13 lq (.lst (rs.map fun r=>V.ref r.a)) lq=some (.lst (rs.map fun r=>V.ref r.a)):=qa1;generalize upd H13 lq (.lst (rs.map fun r=>V.ref r.a))=H14 at*;have sx14:=n13.trans n14;left;refine call (s4x.trans sx14) (n14 _ _ e1) (n14 _ _ e2) elq (fun r hr=>(hGs r hr).same sx14) #[] hSh' fun H15 s15=>?_;have sx15:=sx14.trans s15;clear hk1 hk2 e1 e2 n13 n14 hlq elq hRr hRw sx14 s15;left;refine letby (s4x.trans sx15) (sx15 _ _ eh) (fun r hr=>(hGs r hr).same sx15) #[] hSh' fun H16 s16=>?_;have sx16:=sx15.trans s16;clear sx15 s16;by_cases ce:evB D (lvS D s') rs=true
  .have fa:=Fa.of ce;rw[ce];left;have sm16:=smx.trans sx16;refine juk ok.ok.nd (sx16 _ _ edx) (sm16 _ _ ed9) (hFx.t (qav.of sx16)) (hF9.t (qav.of sm16)) (fun n hn=>?_) ?_
   .have:=(Fa.of ev).uniq ok.ok fa n hn;show lvS D s' n*_=lv n*_;rw[this]
   left;exact⟨_,_,_,_,_,_,rfl,sm16⟩
  .rw[gH] at ce;rw[ce];left;exact⟨_,_,_,_,_,_,rfl,smx.trans sx16⟩
 rintro σ H' ⟨w11,w12,w13,w14,w15,w16,rfl,sm⟩;have s4m:=s9.trans sm;have hA':=hA4.same s4m;have hRr:Rd H' dr (.dK kr):=.inl hA'.r;have hRw:Rd H' dw (.dK kw):=.inl hA'.w;left;rename_i k1 hk1 k2 hk2;have s5:=s4m.trans ((qa4 hk1 (.dK kr)).trans (qa4 hk2 (.dK kw)));have e1:upd (upd H' k1 (.dK kr)) k2 (.dK kw) k1=some (.dK kr):=qaa qa1 hk2;have e2:upd (upd H' k1 (.dK kr)) k2 (.dK kw) k2=some (.dK kw):=qa1;generalize upd (upd H' k1 (.dK kr)) k2 (.dK kw)=H10 at*;refine call s5 e1 e2 (s5 _ _ el4) (fun r hr=>(hG r hr).same s5) #[] hSh fun H11 s11=>?_;rw[ev];left;exact q _
structure Fz(K:uX)(n:Str)(s:Stmt)(f:Addr)(fd:uJ):Prop where
 a:xZ K uT n=some (some (.ref f))
 F:Fun K n n s f fd
structure Fm(K:uX)(c:Addr)(n q:Str)(s:Stmt)(f:Addr)(fd:uJ):Prop where
 a:wD K (.ref c) n=some (some (.ref f))
 F:Fun K n q s f fd
def Fz.m{K:uX}{n:Str}{s:Stmt}{f:Addr}{fd:uJ}{h:vU}{mg:Str->Option uB}(g:Fz K n s f fd)(X:K.In h)(G:h.Ns uT mg):mg n=some (.ref f):=vP X G g.a
theorem ln0(h:p [])(us:List uB)(e:us.length=0):p us:=by
 cases us
 .exact h
 cases e
theorem ln1(h:∀x0:uB,p [x0])(us:List uB)(e:us.length=1):p us:=by
 cases us
 .cases e
 exact ln0 (p:=fun l=>p (_::l)) (h _) _ (bB e)
theorem ln2(h:∀x0 x1:uB,p [x0,x1])(us:List uB)(e:us.length=2):p us:=by
 cases us
 .cases e
 exact ln1 (p:=fun l=>p (_::l)) (h _) _ (bB e)
theorem ln3(h:∀x0 x1 x2:uB,p [x0,x1,x2])(us:List uB)(e:us.length=3):p us:=by
 cases us
 .cases e
 exact ln2 (p:=fun l=>p (_::l)) (h _) _ (bB e)
theorem ln4(h:∀x0 x1 x2 x3:uB,p [x0,x1,x2,x3])(us:List uB)(e:us.length=4):p us:=by
 cases us
 .cases e
 exact ln3 (p:=fun l=>p (_::l)) (h _) _ (bB e)
theorem ln5(h:∀x0 x1 x2 x3 x4:uB,p [x0,x1,x2,x3,x4])(us:List uB)(e:us.length=5):p us:=by
 cases us
 .cases e
 exact ln4 (p:=fun l=>p (_::l)) (h _) _ (bB e)
theorem ln6(h:∀x0 x1 x2 x3 x4 x5:uB,p [x0,x1,x2,x3,x4,x5])(us:List uB)(e:us.length=6):p us:=by
 cases us
 .cases e
 exact ln5 (p:=fun l=>p (_::l)) (h _) _ (bB e)
theorem ln7(h:∀x0 x1 x2 x3 x4 x5 x6:uB,p [x0,x1,x2,x3,x4,x5,x6])(us:List uB)(e:us.length=7):p us:=by
 cases us
 .cases e
 exact ln6 (p:=fun l=>p (_::l)) (h _) _ (bB e)
theorem txt_mk{K:uX}{h:vU}{mg:Str->Option uB}{fa:Addr}{f_z0 f_z1 f_z2 f_z3 f_z4 f_z5 f_z6 f_z7 f_z8 f_z9 f_z10 f_z11 f_z12 f_z13 f_z14 f_z15 f_z16 f_z17 f_z18 f_z19 f_z20 f_z21 f_z22 f_z23 f_z24 f_z25 f_z26 f_z27 f_z28 f_z29 f_z30 f_z31 f_z32 f_z33 f_z34 f_z35 f_z36 f_z37 f_z38 f_z39 f_z40 f_z41 f_z42 f_z43 f_z44 f_z45 f_z46 f_z47 f_z48 f_z49 f_z50 f_z51 f_z52 f_z53 f_z54 wcw f_z56 f_z57 f_z58 f_z59 f_z60 f_z61 f_z62 f_z63 f_z64 f_z65 f_z66 f_z67 f_z68 f_z69 f_z70 f_z71 f_z72 f_z73 f_z74 f_z75 f_z76 f_z77 f_z78 w06 w01 w00 w02 w46 w8x wb1 w0k w4a w8y w5r w5m w7a w6x:Addr}{d_z0 d_z1 d_z2 d_z3 d_z4 d_z5 d_z6 d_z7 d_z8 d_z9 d_z10 d_z11 d_z12 d_z13 d_z14 d_z15 d_z16 d_z17 d_z18 d_z19 d_z20 d_z22 d_z23 d_z25 d_z26 d_z27 d_z28 d_z29 d_z30 d_z31 d_z32 d_z33 d_z34 d_z35 d_z36 d_z37 d_z38 d_z39 d_z40 d_z41 d_z42 d_z43 d_z44 d_z45 d_z46 d_z47 d_z48 d_z49 d_z50 d_z51 d_z52 d_z53 d_z54 d_law d_z56 d_z59 d_z60 d_z61 d_z62 d_z63 d_z64 d_z65 d_z66 d_z67 d_z68 d_z69 d_z70 d_z71 d_z72 d_z73 d_z74 d_z75 d_z76 d_z77 d_z78:uJ}(X:K.In h)(G:h.Ns uT mg)(hfa:mg "law"=some (.ref fa))
  (g_z0:Fz K "is_whole" jbl f_z0 d_z0)
  (g_z1:Fz K "is_name" jb6 f_z1 d_z1)
  (g_z2:Fz K "is_whole_from" jao f_z2 d_z2)
  (g_z3:Fz K "is_amount" jbb f_z3 d_z3)
  (g_z4:Fz K "amounts_of" ja2 f_z4 d_z4)
  (g_z5:Fz K "above_nought" jaw f_z5 d_z5)
  (g_z6:Fz K "amount_of" jbc f_z6 d_z6)
  (g_z7:Fz K "added" jek f_z7 d_z7)
  (g_z8:Fz K "beyond" jcg f_z8 d_z8)
  (g_z9:Fz K "total_of" jbm f_z9 d_z9)
  (g_z10:Fz K "divisor" jb7 f_z10 d_z10)
  (g_z11:Fz K "fraction" jbn f_z11 d_z11)
  (g_z12:Fz K "plus" jiq f_z12 d_z12)
  (g_z13:Fz K "minus" jel f_z13 d_z13)
  (g_z14:Fz K "times" jem f_z14 d_z14)
  (g_z15:Fz K "divided" jb8 f_z15 d_z15)
  (g_z16:Fz K "below" jen f_z16 d_z16)
  (g_z17:Fz K "weights_of" ja3 f_z17 d_z17)
  (g_z18:Fz K "loads_of" jbo f_z18 d_z18)
  (g_z19:Fz K "least_of" jbp f_z19 d_z19)
  (g_z20:Fz K "rounds_by" jbd f_z20 d_z20)
  {od_z21 an_z21:Option Addr}{sl_z21:Array (Option uB)}{oc_z21 kV_z21 dc_z21 pm_z21 cd_z21 ct_z21 w5d:uB}{t_z21:Addr}
  (a_z21:xZ K uT "even"=some (some (.ref f_z21)))(l_z21:K.lookup f_z21=some ⟨oc_z21,od_z21,.func (eF "even" "even" (qbo jce) (qbv jce) (qa8 jce) (.ref t_z21) kV_z21 dc_z21 pm_z21 an_z21 cd_z21 ct_z21),sl_z21⟩)(c_z21:cV K cd_z21 "even"=true)(k_z21:bU K (.ref f_z21)=true)
  {ob_z21:Obj}{nn_z21:Nat}(tt_z21:K.lookup t_z21=some ob_z21)(td_z21:ob_z21.data=.seq (List.toArray [w5d]) nn_z21)(rd_z21:qbl [.non] [w5d])
  (g_z22:Fz K "is_share" jbq f_z22 d_z22)
  (g_z23:Fz K "is_paper" jbr f_z23 d_z23)
  {od_z24 an_z24:Option Addr}{sl_z24:Array (Option uB)}{oc_z24 kV_z24 dc_z24 pm_z24 cd_z24 ct_z24 w27:uB}{t_z24:Addr}
  (a_z24:xZ K uT "is_even"=some (some (.ref f_z24)))(l_z24:K.lookup f_z24=some ⟨oc_z24,od_z24,.func (eF "is_even" "is_even" (qbo jaz) (qbv jaz) (qa8 jaz) (.ref t_z24) kV_z24 dc_z24 pm_z24 an_z24 cd_z24 ct_z24),sl_z24⟩)(c_z24:cV K cd_z24 "is_even"=true)(k_z24:bU K (.ref f_z24)=true)
  {ob_z24:Obj}{nn_z24:Nat}(tt_z24:K.lookup t_z24=some ob_z24)(td_z24:ob_z24.data=.seq (List.toArray [w27]) nn_z24)(rd_z24:qbl [.non] [w27])
  (g_z25:Fz K "are_wares" jbe f_z25 d_z25)
  (g_z26:Fz K "check_name" ja4 f_z26 d_z26)
  (g_z27:Fz K "read_house" ja5 f_z27 d_z27)
  (g_z28:Fz K "check_promises" jal f_z28 d_z28)
  (g_z29:Fz K "_law_cell_at" jb9 f_z29 d_z29)
  (g_z30:Fz K "_law_mixed" jeo f_z30 d_z30)
  (g_z31:Fz K "_law_name" jir f_z31 d_z31)
  (g_z32:Fz K "_law_whole" jep f_z32 d_z32)
  (g_z33:Fz K "_law_want" jis f_z33 d_z33)
  (g_z34:Fz K "_law_room" jit f_z34 d_z34)
  (g_z35:Fz K "_law_sharing" jca f_z35 d_z35)
  (g_z36:Fz K "_law_tree" jiu f_z36 d_z36)
  (g_z37:Fz K "_law_line" jiv f_z37 d_z37)
  (g_z38:Fz K "_law_inside" jch f_z38 d_z38)
  (g_z39:Fz K "_law_together" jbs f_z39 d_z39)
  (g_z40:Fz K "_law_less" jiw f_z40 d_z40)
  (g_z41:Fz K "_law_weigher" ja6 f_z41 d_z41)
  (g_z42:Fz K "_law_asked" jeq f_z42 d_z42)
  (g_z43:Fz K "_law_divisor" jbf f_z43 d_z43)
  (g_z44:Fz K "_law_is_fraction" ja1 f_z44 d_z44)
  (g_z45:Fz K "_law_is_dealt" jbt f_z45 d_z45)
  (g_z46:Fz K "_law_ends" jix f_z46 d_z46)
  (g_z47:Fz K "_law_let_by" jci f_z47 d_z47)
  (g_z48:Fz K "_law_lowest" jcj f_z48 d_z48)
  (g_z49:Fz K "_law_part" jiy f_z49 d_z49)
  (g_z50:Fz K "_law_sum" jnz f_z50 d_z50)
  (g_z51:Fz K "_law_filled" jck f_z51 d_z51)
  (g_z52:Fz K "_law_levelled" jbu f_z52 d_z52)
  (g_z53:Fz K "_law_changed" jcb f_z53 d_z53)
  (g_z54:Fz K "_law_paper" jer f_z54 d_z54)
  (g_law:Fz K "law" jn0 wcw d_law)
  (g_z56:Fm K w06 "__init__" "House.__init__" ja7 f_z56 d_z56)
  {od_z57 an_z57:Option Addr}{sl_z57:Array (Option uB)}{oc_z57 kV_z57 dc_z57 pm_z57 cd_z57 ct_z57 w19:uB}{t_z57:Addr}
  (a_z57:wD K (.ref w01) "__init__"=some (some (.ref f_z57)))(l_z57:K.lookup f_z57=some ⟨oc_z57,od_z57,.func (eF "__init__" "Tree.__init__" (qbo jai) (qbv jai) (qa8 jai) (.ref t_z57) kV_z57 dc_z57 pm_z57 an_z57 cd_z57 ct_z57),sl_z57⟩)(c_z57:cV K cd_z57 "Tree.__init__"=true)(k_z57:bU K (.ref f_z57)=true)
  {ob_z57:Obj}{nn_z57:Nat}(tt_z57:K.lookup t_z57=some ob_z57)(td_z57:ob_z57.data=.seq (List.toArray [w19]) nn_z57)(rd_z57:qbl [.int 1] [w19])
  {od_z58 an_z58:Option Addr}{sl_z58:Array (Option uB)}{oc_z58 kV_z58 dc_z58 pm_z58 cd_z58 ct_z58 w0q:uB}{t_z58:Addr}
  (a_z58:wD K (.ref w01) "found"=some (some (.ref f_z58)))(l_z58:K.lookup f_z58=some ⟨oc_z58,od_z58,.func (eF "found" "Tree.found" (qbo jag) (qbv jag) (qa8 jag) (.ref t_z58) kV_z58 dc_z58 pm_z58 an_z58 cd_z58 ct_z58),sl_z58⟩)(c_z58:cV K cd_z58 "Tree.found"=true)(k_z58:bU K (.ref f_z58)=true)
  {ob_z58:Obj}{nn_z58:Nat}(tt_z58:K.lookup t_z58=some ob_z58)(td_z58:ob_z58.data=.seq (List.toArray [w0q]) nn_z58)(rd_z58:qbl [.int 1] [w0q])
  (g_z59:Fm K w01 "wares" "Tree.wares" jbz f_z59 d_z59)
  (g_z60:Fm K w01 "names" "Tree.names" jb0 f_z60 d_z60)
  (g_z61:Fm K w01 "has" "Tree.has" jbv f_z61 d_z61)
  (g_z62:Fm K w01 "check_house" "Tree.check_house" jah f_z62 d_z62)
  (g_z63:Fm K w01 "house_of" "Tree.house_of" jap f_z63 d_z63)
  (g_z64:Fm K w01 "elder_of" "Tree.elder_of" jaq f_z64 d_z64)
  (g_z65:Fm K w01 "weight_of" "Tree.weight_of" jam f_z65 d_z65)
  (g_z66:Fm K w01 "kids" "Tree.kids" jbg f_z66 d_z66)
  (g_z67:Fm K w01 "line" "Tree.line" jbh f_z67 d_z67)
  (g_z68:Fm K w01 "beneath" "Tree.beneath" jax f_z68 d_z68)
  (g_z69:Fm K w01 "promised_beneath" "Tree.promised_beneath" jad f_z69 d_z69)
  (g_z70:Fm K w01 "check_more" "Tree.check_more" jaj f_z70 d_z70)
  (g_z71:Fm K w00 "__init__" "Dealing.__init__" jay f_z71 d_z71)
  (g_z72:Fm K w00 "fills" "Dealing.fills" jar f_z72 d_z72)
  (g_z73:Fm K w00 "ready" "Dealing.ready" jas f_z73 d_z73)
  (g_z74:Fm K w00 "settle" "Dealing.settle" jan f_z74 d_z74)
  (g_z75:Fm K w00 "next_round" "Dealing.next_round" jae f_z75 d_z75)
  (g_z76:Fm K w02 "__init__" "Sums.__init__" jbi f_z76 d_z76)
  (g_z77:Fm K w02 "within_rooms" "Sums.within_rooms" jaf f_z77 d_z77)
  (g_z78:Fm K w02 "stops_of" "Sums.stops_of" jat f_z78 d_z78)
  (a_House:xZ K uT "House"=some (some (.ref w06)))
  (a_Tree:xZ K uT "Tree"=some (some (.ref w01)))
  (a_Dealing:xZ K uT "Dealing"=some (some (.ref w00)))
  (a_Sums:xZ K uT "Sums"=some (some (.ref w02)))
  (a_TreeError:xZ K uT "TreeError"=some (some (.ref w46)))
  (a_NoName:xZ K uT "NoName"=some (some (.ref w8x)))
  (a_Taken:xZ K uT "Taken"=some (some (.ref wb1)))
  (a_NoHouse:xZ K uT "NoHouse"=some (some (.ref w0k)))
  (a_NoPromise:xZ K uT "NoPromise"=some (some (.ref w4a)))
  (a_NoWare:xZ K uT "NoWare"=some (some (.ref w8y)))
  (a_NoAmount:xZ K uT "NoAmount"=some (some (.ref w5r)))
  (a_NoNumber:xZ K uT "NoNumber"=some (some (.ref w5m)))
  (a_TooMany:xZ K uT "TooMany"=some (some (.ref w7a)))
  (a_TooDeep:xZ K uT "TooDeep"=some (some (.ref w6x)))
  {w3w:uB}(a_LETTERS:xZ K uT "LETTERS"=some (some w3w))(w51:qbg (.str "abcdefghijklmnopqrstuvwxyz") w3w)
  {w1k:uB}(a_LONGEST_NAME:xZ K uT "LONGEST_NAME"=some (some w1k))(w1s:qbg (.int 8) w1k)
  {w26:uB}(a_MOST_WARES:xZ K uT "MOST_WARES"=some (some w26))(w2r:qbg (.int 6) w26)
  {w1o:uB}(a_MOST_HOUSES:xZ K uT "MOST_HOUSES"=some (some w1o))(w28:qbg (.int 40) w1o)
  {w1i:uB}(a_LONGEST_LINE:xZ K uT "LONGEST_LINE"=some (some w1i))(w1r:qbg (.int 12) w1i)
  {w0j:uB}(a_GREATEST_WEIGHT:xZ K uT "GREATEST_WEIGHT"=some (some w0j))(w0v:qbg (.int 1000) w0j)
  (q_NoHouse:PySem.W.excIn K w0k [.type "ValueError",.type "Exception",.type "BaseException",.type "object"] "ValueError.__new__"=true)
  (w0f:Cls K w00)
  (w2f:Cls K w02)
  (w3x:Mk K w00 f_z71)
  (w7j:Mk K w02 f_z76)
  (w1h:jav K w00 "fills" f_z72)
  (w1g:jav K w00 "ready" f_z73)
  (w0x:jav K w00 "settle" f_z74)
  (w0d:jav K w00 "next_round" f_z75)
  (w0n:jav K w02 "stops_of" f_z78)
  (w0h:jav K w02 "within_rooms" f_z77)
  (w0e:wD K (.ref w00) "tree"=some none)
  (w0a:wD K (.ref w00) "weights"=some none)
  (w04:wD K (.ref w00) "waiting"=some none)
  (w0l:wD K (.ref w00) "left"=some none)
  (w0g:wD K (.ref w00) "goals"=some none)
  (w23:wD K (.ref w02) "tree"=some none)
  (w1d:wD K (.ref w02) "rooms"=some none)
  (w1j:wD K (.ref w02) "levels"=some none)
  (w0s:wD K (.ref w02) "totals"=some none)
  (w25:wD K (.ref w02) "tops"=some none)
  (w1v:Cls K w06)
  (w03:Cls K w01)
  (w73:Mk K w06 f_z56)
  (w9n:Mk K w01 f_z57)
  (w2b:jav K w01 "found" f_z58)
  (w33:jav K w01 "wares" f_z59)
  (w36:jav K w01 "names" f_z60)
  (w2m:jav K w01 "has" f_z61)
  (w08:jav K w01 "check_house" f_z62)
  (w0m:jav K w01 "house_of" f_z63)
  (w0o:jav K w01 "elder_of" f_z64)
  (w0z:jav K w01 "weight_of" f_z65)
  (w2p:jav K w01 "kids" f_z66)
  (w0i:jav K w01 "line" f_z67)
  (w17:jav K w01 "beneath" f_z68)
  (w09:jav K w01 "promised_beneath" f_z69)
  (w0r:jav K w01 "check_more" f_z70)
  (w0t:wD K (.ref w06) "elder"=some none)
  (w0c:wD K (.ref w06) "promise"=some none)
  (w1a:wD K (.ref w06) "cap"=some none)
  (w18:wD K (.ref w06) "weight"=some none)
  (w0b:wD K (.ref w01) "sorted_wares"=some none)
  (w05:wD K (.ref w01) "houses"=some none)
  (y_abs:xZ K uT "abs"=some none)
  (y_all:xZ K uT "all"=some none)
  (y_any:xZ K uT "any"=some none)
  (y_bool:xZ K uT "bool"=some none)
  (y_dict:xZ K uT "dict"=some none)
  (y_int:xZ K uT "int"=some none)
  (y_isinstance:xZ K uT "isinstance"=some none)
  (y_len:xZ K uT "len"=some none)
  (y_list:xZ K uT "list"=some none)
  (y_range:xZ K uT "range"=some none)
  (y_set:xZ K uT "set"=some none)
  (y_sorted:xZ K uT "sorted"=some none)
  (y_str:xZ K uT "str"=some none)
  (y_tuple:xZ K uT "tuple"=some none)
  (y_zip:xZ K uT "zip"=some none)
  :∃d:Ad,Tx K mg d/\fa=d.wcw/\∀(s:uC)(v:uB),cY s d.wc8 ⟨[v],[]⟩ [("_law_script",v)]:=by
 have e:=hfa.symm.trans (g_law.m X G)
 cases e
 have Fl:=g_law.F;obtain⟨_,_,_,_,_,_,_,_,_,rfl,_,_⟩:=Fl.ex;have F_z21:=qgt (st:=jce) l_z21 c_z21 k_z21 tt_z21 td_z21;have b_z21:qao K _ ["tree","rooms","wants","weigh"] []:=F_z21.binds (ps:=["tree","rooms","wants","weigh"]) fun _ _ _ _ _ _ us hl=>by have e:us.length=4:=(by simpa using hl);clear hl;revert us e;exact ln4 fun _ _ _ _=>by first|exact .inl rfl|exact .inr ⟨_,rfl,rfl⟩
 have b1_z21:qao K _ ["tree","rooms","wants","weigh"] [w5d]:=F_z21.binds (ps:=["tree","rooms","wants","weigh"]) fun _ _ _ _ _ _ us hl=>by have e:us.length=3:=(by simpa using hl);clear hl;revert us e;exact ln3 fun _ _ _=>by first|exact .inl rfl|exact .inr ⟨_,rfl,rfl⟩
 have F_z24:=qgt (st:=jaz) l_z24 c_z24 k_z24 tt_z24 td_z24;have b_z24:qao K _ ["tree","rooms","wants","dealt","weigh"] []:=F_z24.binds (ps:=["tree","rooms","wants","dealt","weigh"]) fun _ _ _ _ _ _ us hl=>by have e:us.length=5:=(by simpa using hl);clear hl;revert us e;exact ln5 fun _ _ _ _ _=>by first|exact .inl rfl|exact .inr ⟨_,rfl,rfl⟩
 have b1_z24:qao K _ ["tree","rooms","wants","dealt","weigh"] [w27]:=F_z24.binds (ps:=["tree","rooms","wants","dealt","weigh"]) fun _ _ _ _ _ _ us hl=>by have e:us.length=4:=(by simpa using hl);clear hl;revert us e;exact ln4 fun _ _ _ _=>by first|exact .inl rfl|exact .inr ⟨_,rfl,rfl⟩
 have F_z57:=qgt (st:=jai) l_z57 c_z57 k_z57 tt_z57 td_z57;have b_z57:qao K _ ["self","wares","name","promise","cap","weight"] []:=F_z57.binds (ps:=["self","wares","name","promise","cap","weight"]) fun _ _ _ _ _ _ us hl=>by have e:us.length=6:=(by simpa using hl);clear hl;revert us e;exact ln6 fun _ _ _ _ _ _=>by first|exact .inl rfl|exact .inr ⟨_,rfl,rfl⟩
 have b1_z57:qao K _ ["self","wares","name","promise","cap","weight"] [w19]:=F_z57.binds (ps:=["self","wares","name","promise","cap","weight"]) fun _ _ _ _ _ _ us hl=>by have e:us.length=5:=(by simpa using hl);clear hl;revert us e;exact ln5 fun _ _ _ _ _=>by first|exact .inl rfl|exact .inr ⟨_,rfl,rfl⟩
 have F_z58:=qgt (st:=jag) l_z58 c_z58 k_z58 tt_z58 td_z58;have b_z58:qao K _ ["self","name","elder","promise","cap","weight"] []:=F_z58.binds (ps:=["self","name","elder","promise","cap","weight"]) fun _ _ _ _ _ _ us hl=>by have e:us.length=6:=(by simpa using hl);clear hl;revert us e;exact ln6 fun _ _ _ _ _ _=>by first|exact .inl rfl|exact .inr ⟨_,rfl,rfl⟩
 have b1_z58:qao K _ ["self","name","elder","promise","cap","weight"] [w0q]:=F_z58.binds (ps:=["self","name","elder","promise","cap","weight"]) fun _ _ _ _ _ _ us hl=>by have e:us.length=5:=(by simpa using hl);clear hl;revert us e;exact ln5 fun _ _ _ _ _=>by first|exact .inl rfl|exact .inr ⟨_,rfl,rfl⟩
 refine⟨⟨_,_,_,_,_,_,_,_,_,_,_,_,_,_,_,_,_,_,_,_,_,_,_,_,_,_,_,_,_,_,_,_,_,_,_,_,_,_,_,_,_,_,_,_,t_z21,w5d,_,_,_,_,_,_,t_z24,w27,_,_,_,_,_,_,_,_,_,_,_,_,_,_,_,_,_,_,_,_,_,_,_,_,_,_,_,_,_,_,_,_,_,_,_,_,_,_,_,_,_,_,_,_,_,_,_,_,_,_,_,_,_,_,_,_,_,_,_,_,_,_,_,_,_,_,t_z57,w19,_,_,t_z58,w0q,_,_,_,_,_,_,_,_,_,_,_,_,_,_,_,_,_,_,_,_,_,_,_,_,_,_,_,_,_,_,_,_,_,_,_,_,_,_,_,_,w06,w01,w00,w02,w46,w8x,wb1,w0k,w4a,w8y,w5r,w5m,w7a,w6x,w3w,w1k,w26,w1o,w1i,w0j⟩,⟨g_z0.F,g_z0.m X G,g_z0.F.binds fun _ _ _ _ _ _=>ln1 fun _=>rfl,g_z1.F,g_z1.m X G,g_z1.F.binds fun _ _ _ _ _ _=>ln1 fun _=>rfl,g_z2.F,g_z2.m X G,g_z2.F.binds fun _ _ _ _ _ _=>ln3 fun _ _ _=>rfl,g_z3.F,g_z3.m X G,g_z3.F.binds fun _ _ _ _ _ _=>ln1 fun _=>rfl,g_z4.F,g_z4.m X G,g_z4.F.binds fun _ _ _ _ _ _=>ln2 fun _ _=>rfl,g_z5.F,g_z5.m X G,g_z5.F.binds fun _ _ _ _ _ _=>ln1 fun _=>rfl,g_z6.F,g_z6.m X G,g_z6.F.binds fun _ _ _ _ _ _=>ln2 fun _ _=>rfl,g_z7.F,g_z7.m X G,g_z7.F.binds fun _ _ _ _ _ _=>ln2 fun _ _=>rfl,g_z8.F,g_z8.m X G,g_z8.F.binds fun _ _ _ _ _ _=>ln2 fun _ _=>rfl,g_z9.F,g_z9.m X G,g_z9.F.binds fun _ _ _ _ _ _=>ln1 fun _=>rfl,g_z10.F,g_z10.m X G,g_z10.F.binds fun _ _ _ _ _ _=>ln2 fun _ _=>rfl,g_z11.F,g_z11.m X G,g_z11.F.binds fun _ _ _ _ _ _=>ln2 fun _ _=>rfl,g_z12.F,g_z12.m X G,g_z12.F.binds fun _ _ _ _ _ _=>ln2 fun _ _=>rfl,g_z13.F,g_z13.m X G,g_z13.F.binds fun _ _ _ _ _ _=>ln2 fun _ _=>rfl,g_z14.F,g_z14.m X G,g_z14.F.binds fun _ _ _ _ _ _=>ln2 fun _ _=>rfl,g_z15.F,g_z15.m X G,g_z15.F.binds fun _ _ _ _ _ _=>ln2 fun _ _=>rfl,g_z16.F,g_z16.m X G,g_z16.F.binds fun _ _ _ _ _ _=>ln2 fun _ _=>rfl,g_z17.F,g_z17.m X G,g_z17.F.binds fun _ _ _ _ _ _=>ln3 fun _ _ _=>rfl,g_z18.F,g_z18.m X G,g_z18.F.binds fun _ _ _ _ _ _=>ln3 fun _ _ _=>rfl,g_z19.F,g_z19.m X G,g_z19.F.binds fun _ _ _ _ _ _=>ln1 fun _=>rfl,g_z20.F,g_z20.m X G,g_z20.F.binds fun _ _ _ _ _ _=>ln4 fun _ _ _ _=>rfl,F_z21,vP X G a_z21,b_z21,b1_z21,rd_z21,g_z22.F,g_z22.m X G,g_z22.F.binds fun _ _ _ _ _ _=>ln2 fun _ _=>rfl,g_z23.F,g_z23.m X G,g_z23.F.binds fun _ _ _ _ _ _=>ln3 fun _ _ _=>rfl,F_z24,vP X G a_z24,b_z24,b1_z24,rd_z24,g_z25.F,g_z25.m X G,g_z25.F.binds fun _ _ _ _ _ _=>ln1 fun _=>rfl,g_z26.F,g_z26.m X G,g_z26.F.binds fun _ _ _ _ _ _=>ln1 fun _=>rfl,g_z27.F,g_z27.m X G,g_z27.F.binds fun _ _ _ _ _ _=>ln5 fun _ _ _ _ _=>rfl,g_z28.F,g_z28.m X G,g_z28.F.binds fun _ _ _ _ _ _=>ln3 fun _ _ _=>rfl,g_z29.F,g_z29.m X G,g_z29.F.binds fun _ _ _ _ _ _=>ln2 fun _ _=>rfl,g_z30.F,g_z30.m X G,g_z30.F.binds fun _ _ _ _ _ _=>ln2 fun _ _=>rfl,g_z31.F,g_z31.m X G,g_z31.F.binds fun _ _ _ _ _ _=>ln2 fun _ _=>rfl,g_z32.F,g_z32.m X G,g_z32.F.binds fun _ _ _ _ _ _=>ln1 fun _=>rfl,g_z33.F,g_z33.m X G,g_z33.F.binds fun _ _ _ _ _ _=>ln2 fun _ _=>rfl,g_z34.F,g_z34.m X G,g_z34.F.binds fun _ _ _ _ _ _=>ln2 fun _ _=>rfl,g_z35.F,g_z35.m X G,g_z35.F.binds fun _ _ _ _ _ _=>ln2 fun _ _=>rfl,g_z36.F,g_z36.m X G,g_z36.F.binds fun _ _ _ _ _ _=>ln2 fun _ _=>rfl,g_z37.F,g_z37.m X G,g_z37.F.binds fun _ _ _ _ _ _=>ln2 fun _ _=>rfl,g_z38.F,g_z38.m X G,g_z38.F.binds fun _ _ _ _ _ _=>ln2 fun _ _=>rfl,g_z39.F,g_z39.m X G,g_z39.F.binds fun _ _ _ _ _ _=>ln2 fun _ _=>rfl,g_z40.F,g_z40.m X G,g_z40.F.binds fun _ _ _ _ _ _=>ln2 fun _ _=>rfl,g_z41.F,g_z41.m X G,g_z41.F.binds fun _ _ _ _ _ _=>ln1 fun _=>rfl,g_z42.F,g_z42.m X G,g_z42.F.binds fun _ _ _ _ _ _=>ln2 fun _ _=>rfl,g_z43.F,g_z43.m X G,g_z43.F.binds fun _ _ _ _ _ _=>ln2 fun _ _=>rfl,g_z44.F,g_z44.m X G,g_z44.F.binds fun _ _ _ _ _ _=>ln1 fun _=>rfl,g_z45.F,g_z45.m X G,g_z45.F.binds fun _ _ _ _ _ _=>ln2 fun _ _=>rfl,g_z46.F,g_z46.m X G,g_z46.F.binds fun _ _ _ _ _ _=>ln4 fun _ _ _ _=>rfl,g_z47.F,g_z47.m X G,g_z47.F.binds fun _ _ _ _ _ _=>ln2 fun _ _=>rfl,g_z48.F,g_z48.m X G,g_z48.F.binds fun _ _ _ _ _ _=>ln2 fun _ _=>rfl,g_z49.F,g_z49.m X G,g_z49.F.binds fun _ _ _ _ _ _=>ln2 fun _ _=>rfl,g_z50.F,g_z50.m X G,g_z50.F.binds fun _ _ _ _ _ _=>ln3 fun _ _ _=>rfl,g_z51.F,g_z51.m X G,g_z51.F.binds fun _ _ _ _ _ _=>ln3 fun _ _ _=>rfl,g_z52.F,g_z52.m X G,g_z52.F.binds fun _ _ _ _ _ _=>ln3 fun _ _ _=>rfl,g_z53.F,g_z53.m X G,g_z53.F.binds fun _ _ _ _ _ _=>ln3 fun _ _ _=>rfl,g_z54.F,g_z54.m X G,g_z54.F.binds fun _ _ _ _ _ _=>ln5 fun _ _ _ _ _=>rfl,Fl,g_law.m X G,g_z56.F,g_z56.F.binds fun _ _ _ _ _ _=>ln5 fun _ _ _ _ _=>rfl,F_z57,b_z57,b1_z57,rd_z57,F_z58,b_z58,b1_z58,rd_z58,g_z59.F,g_z59.F.binds fun _ _ _ _ _ _=>ln1 fun _=>rfl,g_z60.F,g_z60.F.binds fun _ _ _ _ _ _=>ln1 fun _=>rfl,g_z61.F,g_z61.F.binds fun _ _ _ _ _ _=>ln2 fun _ _=>rfl,g_z62.F,g_z62.F.binds fun _ _ _ _ _ _=>ln2 fun _ _=>rfl,g_z63.F,g_z63.F.binds fun _ _ _ _ _ _=>ln2 fun _ _=>rfl,g_z64.F,g_z64.F.binds fun _ _ _ _ _ _=>ln2 fun _ _=>rfl,g_z65.F,g_z65.F.binds fun _ _ _ _ _ _=>ln2 fun _ _=>rfl,g_z66.F,g_z66.F.binds fun _ _ _ _ _ _=>ln2 fun _ _=>rfl,g_z67.F,g_z67.F.binds fun _ _ _ _ _ _=>ln2 fun _ _=>rfl,g_z68.F,g_z68.F.binds fun _ _ _ _ _ _=>ln2 fun _ _=>rfl,g_z69.F,g_z69.F.binds fun _ _ _ _ _ _=>ln2 fun _ _=>rfl,g_z70.F,g_z70.F.binds fun _ _ _ _ _ _=>ln3 fun _ _ _=>rfl,g_z71.F,g_z71.F.binds fun _ _ _ _ _ _=>ln5 fun _ _ _ _ _=>rfl,g_z72.F,g_z72.F.binds fun _ _ _ _ _ _=>ln1 fun _=>rfl,g_z73.F,g_z73.F.binds fun _ _ _ _ _ _=>ln3 fun _ _ _=>rfl,g_z74.F,g_z74.F.binds fun _ _ _ _ _ _=>ln3 fun _ _ _=>rfl,g_z75.F,g_z75.F.binds fun _ _ _ _ _ _=>ln1 fun _=>rfl,g_z76.F,g_z76.F.binds fun _ _ _ _ _ _=>ln5 fun _ _ _ _ _=>rfl,g_z77.F,g_z77.F.binds fun _ _ _ _ _ _=>ln1 fun _=>rfl,g_z78.F,g_z78.F.binds fun _ _ _ _ _ _=>ln2 fun _ _=>rfl,vP X G a_House,vP X G a_Tree,vP X G a_Dealing,vP X G a_Sums,vP X G a_TreeError,vP X G a_NoName,vP X G a_Taken,vP X G a_NoHouse,vP X G a_NoPromise,vP X G a_NoWare,vP X G a_NoAmount,vP X G a_NoNumber,vP X G a_TooMany,vP X G a_TooDeep,vP X G a_LETTERS,w51,vP X G a_LONGEST_NAME,w1s,vP X G a_MOST_WARES,w2r,vP X G a_MOST_HOUSES,w28,vP X G a_LONGEST_LINE,w1r,vP X G a_GREATEST_WEIGHT,w0v,vV X G y_abs,vV X G y_all,vV X G y_any,vV X G y_bool,vV X G y_dict,vV X G y_int,vV X G y_isinstance,vV X G y_len,vV X G y_list,vV X G y_range,vV X G y_set,vV X G y_sorted,vV X G y_str,vV X G y_tuple,vV X G y_zip,w0f,w2f,w3x,w7j,w1h,w1g,w0x,w0d,w0n,w0h,w0e,w0a,w04,w0l,w0g,w23,w1d,w1j,w0s,w25,w1v,w03,w73,w9n,w2b,w33,w36,w2m,w08,w0m,w0o,w0z,w2p,w0i,w17,w09,w0r,w0t,w0c,w1a,w18,w0b,w05,jm3 q_NoHouse⟩,rfl,fun s v=> .of_eq rfl⟩
theorem walk{l:PySem.W.OpenLaw}{q:vA}{loose:List Str}{XP:(Str->Option uB)->vU->Prop}{YP:vN->vU->Prop}{e:DefRec}{K:Params->uX}(hn:l.most=some 63)(hdf:e.params.defaults=[])(hlaw:e.name= "law")
  (hY:∀(w:vN)(h:vU),YP w h->(K w.params).In h){dy:DefRec}(hrec:(PyProof.Rows.recsOf q).find? (fun e=>e.name==("_law_weigher":Str))=some dy)(tab:∀w:vN,∃c p,tabIn (K w.params) "_law_weigher"=some (c,p)/\(K w.params).lookup p=none)
  (F:∀(w:vN)(mg:Str->Option uB)(fa:Addr)(h:vU),(K w.params).In h->h.Ns uT mg->mg "law"=some (.ref fa)->∃d:Ad,Tx (K w.params) mg d/\fa=d.wcw/\∀(s:uC)(v:uB),cY s d.wc8 ⟨[v],[]⟩ [("_law_script",v)]):
  PySem.W.WalkO q loose XP YP l.row.toRowW e [] (fun f vs=>PySem.call f vs):=by
 refine jkq (n:=63) (k:=25) (x:="_law_script") (y:="_law_weigher") (CX:=fun _=>CX0) (sp:=fun w _ p=>jju (K w.params) p) hn ∅ hdf ⟨rfl,∅,∅⟩ hY hrec tab (fun w mg fa h c p KX G hm ht=>?_) (fun _ _ _ _ a ns hl hp hS=>⟨a,ns,rfl,hS,hl,hp,fun _=>rfl⟩) fun _ _ _ _ _ z=>z;rw[hlaw] at hm;obtain⟨d,T,rfl,hb⟩:=F w mg fa h KX G hm;exact⟨d.wc8,hb,fun base kin hns C bm=>(jr7 (P:=l.prog) (w:=w) (base:=base) T (wcs T.wca T.wbs kin hns ht C bm)).imp fun vs H Q E q=>q⟩
end Our
open PySem PySem.W PyProof.Rows
set_option maxRecDepth 100000 in
set_option maxHeartbeats 0 in
theorem PySem.Challenge.cw_quotatree_k58_whole_no_other_shares_holds : PySem.Challenge.rw_quotatree_k58_whole_no_other_shares.Holds := by
 refine hd0 ?_
 k_fill
 refine Our.walk (l:=PySem.Challenge.rw_quotatree_k58_whole_no_other_shares) rfl rfl rfl (fun w h Y=>PySem.W.km_in_of Y) rfl (fun w=>⟨676,672,by kernel_rfl,by kernel_rfl⟩) ?F
 case F=>
  intro w mg fa h KX G hmg;refine' Our.txt_mk KX G hmg ?g_z0 ?g_z1 ?g_z2 ?g_z3 ?g_z4 ?g_z5 ?g_z6 ?g_z7 ?g_z8 ?g_z9 ?g_z10 ?g_z11 ?g_z12 ?g_z13 ?g_z14 ?g_z15 ?g_z16 ?g_z17 ?g_z18 ?g_z19 ?g_z20 ?a_z21 ?l_z21 ?c_z21 ?k_z21 ?tt_z21 ?td_z21 ?rd_z21 ?g_z22 ?g_z23 ?a_z24 ?l_z24 ?c_z24 ?k_z24 ?tt_z24 ?td_z24 ?rd_z24 ?g_z25 ?g_z26 ?g_z27 ?g_z28 ?g_z29 ?g_z30 ?g_z31 ?g_z32 ?g_z33 ?g_z34 ?g_z35 ?g_z36 ?g_z37 ?g_z38 ?g_z39 ?g_z40 ?g_z41 ?g_z42 ?g_z43 ?g_z44 ?g_z45 ?g_z46 ?g_z47 ?g_z48 ?g_z49 ?g_z50 ?g_z51 ?g_z52 ?g_z53 ?g_z54 ?g_law ?g_z56 ?a_z57 ?l_z57 ?c_z57 ?k_z57 ?tt_z57 ?td_z57 ?rd_z57 ?a_z58 ?l_z58 ?c_z58 ?k_z58 ?tt_z58 ?td_z58 ?rd_z58 ?g_z59 ?g_z60 ?g_z61 ?g_z62 ?g_z63 ?g_z64 ?g_z65 ?g_z66 ?g_z67 ?g_z68 ?g_z69 ?g_z70 ?g_z71 ?g_z72 ?g_z73 ?g_z74 ?g_z75 ?g_z76 ?g_z77 ?g_z78 ?a_House ?a_Tree ?a_Dealing ?a_Sums ?a_TreeError ?a_NoName ?a_Taken ?a_NoHouse ?a_NoPromise ?a_NoWare ?a_NoAmount ?a_NoNumber ?a_TooMany ?a_TooDeep ?a_LETTERS ?w51 ?a_LONGEST_NAME ?w1s ?a_MOST_WARES ?w2r ?a_MOST_HOUSES ?w28 ?a_LONGEST_LINE ?w1r ?a_GREATEST_WEIGHT ?w0v ?q_NoHouse ?w0f ?w2f ?w3x ?w7j ?w1h ?w1g ?w0x ?w0d ?w0n ?w0h ?w0e ?w0a ?w04 ?w0l ?w0g ?w23 ?w1d ?w1j ?w0s ?w25 ?w1v ?w03 ?w73 ?w9n ?w2b ?w33 ?w36 ?w2m ?w08 ?w0m ?w0o ?w0z ?w2p ?w0i ?w17 ?w09 ?w0r ?w0t ?w0c ?w1a ?w18 ?w0b ?w05 ?y_abs ?y_all ?y_any ?y_bool ?y_dict ?y_int ?y_isinstance ?y_len ?y_list ?y_range ?y_set ?y_sorted ?y_str ?y_tuple ?y_zip
  (case a_House|a_Tree|a_Dealing|a_Sums|a_TreeError|a_NoName|a_Taken|a_NoHouse|a_NoPromise|a_NoWare|a_NoAmount|a_NoNumber|a_TooMany|a_TooDeep=>k_is)
  all_goals try (refine' ⟨?a,L2.fun_mk ?l ?c ?k⟩;(case a=>k_is);(case l=>k_is);(case c=>k_is);(case k=>k_is))
  (case a_z21=>k_is);(case l_z21=>k_is);(case c_z21=>k_is);(case k_z21=>k_is)
  (case tt_z21=>k_is);(case td_z21=>first|rfl|k_is);(case rd_z21=>first|exact .cons ⟨_,rfl⟩ .nil|exact .cons rfl .nil)
  (case a_z24=>k_is);(case l_z24=>k_is);(case c_z24=>k_is);(case k_z24=>k_is)
  (case tt_z24=>k_is);(case td_z24=>first|rfl|k_is);(case rd_z24=>first|exact .cons ⟨_,rfl⟩ .nil|exact .cons rfl .nil)
  (case a_z57=>k_is);(case l_z57=>k_is);(case c_z57=>k_is);(case k_z57=>k_is)
  (case tt_z57=>k_is);(case td_z57=>first|rfl|k_is);(case rd_z57=>first|exact .cons ⟨_,rfl⟩ .nil|exact .cons rfl .nil)
  (case a_z58=>k_is);(case l_z58=>k_is);(case c_z58=>k_is);(case k_z58=>k_is)
  (case tt_z58=>k_is);(case td_z58=>first|rfl|k_is);(case rd_z58=>first|exact .cons ⟨_,rfl⟩ .nil|exact .cons rfl .nil)
  (case a_LETTERS=>k_is)
  (case w51=>exact⟨_,rfl⟩)
  (case a_LONGEST_NAME=>k_is)
  (case w1s=>exact⟨_,rfl⟩)
  (case a_MOST_WARES=>k_is)
  (case w2r=>exact⟨_,rfl⟩)
  (case a_MOST_HOUSES=>k_is)
  (case w28=>exact⟨_,rfl⟩)
  (case a_LONGEST_LINE=>k_is)
  (case w1r=>exact⟨_,rfl⟩)
  (case a_GREATEST_WEIGHT=>k_is)
  (case w0v=>exact⟨_,rfl⟩)
  (case q_NoHouse=>k_exc)
  (case w0f=>(constructor<;>first|k_is|kernel_rfl))
  (case w2f=>(constructor<;>first|k_is|kernel_rfl))
  (case w3x=>(constructor<;>first|k_is|kernel_rfl))
  (case w7j=>(constructor<;>first|k_is|kernel_rfl))
  (case w1h=>(constructor<;>first|k_is|kernel_rfl))
  (case w1g=>(constructor<;>first|k_is|kernel_rfl))
  (case w0x=>(constructor<;>first|k_is|kernel_rfl))
  (case w0d=>(constructor<;>first|k_is|kernel_rfl))
  (case w0n=>(constructor<;>first|k_is|kernel_rfl))
  (case w0h=>(constructor<;>first|k_is|kernel_rfl))
  (case w0e|w0a|w04|w0l|w0g|w23|w1d|w1j|w0s|w25=>k_is)
  (case w1v=>(constructor<;>first|k_is|kernel_rfl))
  (case w03=>(constructor<;>first|k_is|kernel_rfl))
  (case w73=>(constructor<;>first|k_is|kernel_rfl))
  (case w9n=>(constructor<;>first|k_is|kernel_rfl))
  (case w2b=>(constructor<;>first|k_is|kernel_rfl))
  (case w33=>(constructor<;>first|k_is|kernel_rfl))
  (case w36=>(constructor<;>first|k_is|kernel_rfl))
  (case w2m=>(constructor<;>first|k_is|kernel_rfl))
  (case w08=>(constructor<;>first|k_is|kernel_rfl))
  (case w0m=>(constructor<;>first|k_is|kernel_rfl))
  (case w0o=>(constructor<;>first|k_is|kernel_rfl))
  (case w0z=>(constructor<;>first|k_is|kernel_rfl))
  (case w2p=>(constructor<;>first|k_is|kernel_rfl))
  (case w0i=>(constructor<;>first|k_is|kernel_rfl))
  (case w17=>(constructor<;>first|k_is|kernel_rfl))
  (case w09=>(constructor<;>first|k_is|kernel_rfl))
  (case w0r=>(constructor<;>first|k_is|kernel_rfl))
  (case w0t|w0c|w1a|w18|w0b|w05|y_abs|y_all|y_any|y_bool|y_dict|y_int|y_isinstance|y_len|y_list|y_range|y_set|y_sorted|y_str|y_tuple|y_zip=>k_is)